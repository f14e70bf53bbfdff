import PyProof.Rows.All
import Wide.All
import OpenK.AllK
import Wide.FinOn
import Lean
import PyProof.EqAt
import PyProof.EqKinds
import PyProof.TupleCall
import PyProof.Cells
import PyProof.SumWalkG
import PyProof.EnumStmt
import PyProof.EnumMake
import PyProof.InstStoreFacts
import KE.KDictList
import PySem.Challenge.RW_ohmyard_k36_refused_then_good
set_option Elab.async false
set_option linter.all false
set_option maxRecDepth 100000
open PySem.W (Frag)
set_option maxHeartbeats 4000000
open List
set_option genSizeOfSpec false
noncomputable section
namespace L2
open PySem PySem.Spec PyProof.Rows
abbrev Key:=Sum Int Str
def zJ:Key->Value->Bool
 | .inl k,v=>Value.isInt k v
 | .inr x,v=>Value.isStrOf x v
def qo8 (w:World):Key->Int
 | .inl k=>hashInt k
 | .inr x=>hashStr w x
theorem dY:∀{k:Key} {v:Value},zJ k v=true->(∃i t,k=Sum.inl i/\v=Value.int i t)\/(∃x t,k=Sum.inr x/\v=Value.str x t)
 | .inl i,v,h=>by
  obtain⟨t,e⟩:=Value.isInt_shape (k:=i) (v:=v) h;exact .inl ⟨i,t,rfl,e⟩
 | .inr x,v,h=>by
  obtain⟨t,e⟩:=Value.isStrOf_shape (x:=x) (v:=v) h;exact .inr ⟨x,t,rfl,e⟩
theorem Kw (i:Int)(t:Tok):zJ (.inl i) (.int i t)=true:=by simp[zJ,Value.isInt]
theorem My (x:Str)(t:Tok):zJ (.inr x) (.str x t)=true:=by simp[zJ,Value.isStrOf]
theorem qd8 (a b:Int):decide ((Sum.inl a:Key)=Sum.inl b)=(a == b):=by
 by_cases e:a=b
 ·subst e;simp
 ·have h:¬(Sum.inl a:Key)=Sum.inl b:=fun q=>e (Sum.inl.inj q);rw[decide_eq_false h];exact(beq_eq_false_iff_ne.mpr e).symm
theorem qb8 (a b:Str):decide ((Sum.inr a:Key)=Sum.inr b)=decide (a=b):=by
 by_cases e:a=b
 ·subst e;simp
 ·have h:¬(Sum.inr a:Key)=Sum.inr b:=fun q=>e (Sum.inr.inj q);rw[decide_eq_false h,decide_eq_false e]
theorem Yq (a:Int)(b:Str):decide ((Sum.inl a:Key)=Sum.inr b)=false:=decide_eq_false (fun q=>nomatch q)
theorem qb9 (a:Str)(b:Int):decide ((Sum.inr a:Key)=Sum.inl b)=false:=decide_eq_false (fun q=>nomatch q)
def dZ (prog:Program)(w:World):PySem.KeyKind prog w Key where
 is:=zJ
 hash:=qo8 w
 inj:=fun v a b ha hb=>by
  rcases dY ha with ⟨i,t,rfl,rfl⟩ | ⟨x,t,rfl,rfl⟩
  ·rcases dY hb with ⟨j,u,rfl,e⟩ | ⟨y,u,rfl,e⟩
   ·injection e with e1 _;rw[e1]
   ·exact nomatch e
  ·rcases dY hb with ⟨j,u,rfl,e⟩ | ⟨y,u,rfl,e⟩
   ·exact nomatch e
   ·injection e with e1 _;rw[e1]
 byValue:=fun k v h=>by
  rcases dY h with ⟨i,t,rfl,rfl⟩ | ⟨x,t,rfl,rfl⟩<;>rfl
 pyHash:=fun hv h=>by
  rcases dY hv with ⟨i,t,rfl,rfl⟩ | ⟨x,t,rfl,rfl⟩
  ·exact wpAny_pyHash_int h
  ·exact wpAny_pyHash_str h
 eqBool:=fun hu hv h=>by
  rcases dY hu with ⟨i,t,rfl,rfl⟩ | ⟨x,t,rfl,rfl⟩
  ·rcases dY hv with ⟨j,u,rfl,rfl⟩ | ⟨y,u,rfl,rfl⟩
   ·rw[qd8] at h;exact wpAny_eqBool_int h
   ·rw[Yq] at h;exact SeqAt.EqAt.int_str i t y u _ _ _ _ h
  ·rcases dY hv with ⟨j,u,rfl,rfl⟩ | ⟨y,u,rfl,rfl⟩
   ·rw[qb9] at h;exact SeqAt.EqAt.str_int x t j u _ _ _ _ h
   ·rw[qb8] at h;exact wpAny_eqBool_str h
 «strs»:=fun k x t v h=>by
  rcases dY h with ⟨i,u,rfl,e⟩ | ⟨y,u,rfl,e⟩
  ·exact nomatch e
  ·injection e with e1 _
   subst e1
   cases v<;>rfl
theorem Db (prog:Program)(w:World)(i:Int)(t:Tok):(dZ prog w).is (.inl i) (.int i t)=true:=Kw i t
theorem Es (prog:Program)(w:World)(x:Str)(t:Tok):(dZ prog w).is (.inr x) (.str x t)=true:=My x t
inductive V where
 |non | bl (b:Bool) | int (i:Int) | str (x:Str) | byt (b:Array UInt8) | flt (b:UInt64) | ref (a:Addr) | ty (n:String)
 deriving DecidableEq
def cA:V->Value->Prop
 | .non,u=>u=Value.none
 | .bl b,u=>u=Value.bool b
 | .int i,u=>∃t,u=Value.int i t
 | .str x,u=>∃t,u=Value.str x t
 | .byt b,u=>∃t,u=Value.bytes b t
 | .flt b,u=>∃t,u=Value.float b t
 | .ref a,u=>u=Value.ref a
 | .ty n,u=>u=Value.type n
abbrev bQ:List V->List Value->Prop:=Paired cA
theorem bQ.length (r:bQ xs us):xs.length=us.length:=Paired.length r
theorem bQ.get:∀{xs:List V} {us:List Value} {i:Nat} {x:V},bQ xs us->xs[i]?=some x->∃u,us[i]?=some u/\cA x u
 |_,_,_,_,.nil,e=>by simp at e
 |_,_,0,_,.cons r _,e=>by simp at e;subst e;exact⟨_,rfl,r⟩
 |_,_,i+1,x,.cons _ t,e=>by
  obtain⟨u,h1,h2⟩:=bQ.get (i:=i) (x:=x) t (by simpa using e);exact⟨u,by simpa using h1,h2⟩
theorem bQ.set (r:cA x u):∀{xs:List V} {us:List Value} (i:Nat),bQ xs us->bQ (xs.set i x) (us.set i u)
 |_,_,_,.nil=>.nil
 |_,_,0,.cons _ t=>.cons r t
 |_,_,i+1,.cons q t=>.cons q (bQ.set r i t)
theorem bQ.append:∀{xs ys:List V} {us ws:List Value},bQ xs us->bQ ys ws->bQ (xs++ys) (us++ws)
 |_,_,_,_,.nil,s=>s
 |_,_,_,_,.cons r t,s=>.cons r (bQ.append t s)
theorem bQ.take:∀{xs:List V} {us:List Value} (n:Nat),bQ xs us->bQ (xs.take n) (us.take n)
 |_,_,0,_=>.nil
 |_,_,_+1,.nil=>.nil
 |_,_,n+1,.cons r t=>.cons r (bQ.take n t)
theorem bQ.drop:∀{xs:List V} {us:List Value} (n:Nat),bQ xs us->bQ (xs.drop n) (us.drop n)
 |_,_,0,r=>r
 |_,_,_+1,.nil=>.nil
 |_,_,n+1,.cons _ t=>bQ.drop n t
def kF:Option V->Option Value->Prop
 |some v,some u=>cA v u
 |none,none=>True
 |_,_=>False
def KV {κ:Type}:List (κ × V)->List (κ × Value)->Prop:=Paired fun (p:κ × V) (q:κ × Value)=>p.1=q.1/\cA p.2 q.2
def kV:Key->V
 | .inl i=>.int i
 | .inr x=>.str x
inductive HO where
 |lst (xs:List V)
 |tup (xs:List V)
 |dK (kvs:List (Key × V)) | dT (kvs:List (List Key × V))
 |set (S:Int->Bool) (n:Nat)
 |ins (C dx:Addr) (fs:List (Str × V))
 |own (x:Addr)
 |xd (fs:List (Str × V))
 |met (f x:Addr)
 |rng (lo hi:Int)
 |frz (o:Obj) (u:HO)
 |tbl (ps:Array Value)
 |ext (φ:Heap->Prop)
abbrev Hp:=Addr->Option HO
def upd (H:Hp)(a:Addr)(o:HO):Hp:=fun b=>if b=a then some o else H b
theorem aB:upd H a o a=some o:=by unfold upd;rw[if_pos rfl]
theorem aL (h:b≠a):upd H a o b=H b:=by unfold upd;rw[if_neg h]
theorem pQ:upd (upd H a o) a u=upd H a u:=by
 funext b;unfold upd;split<;>rfl
theorem gL {H:Hp}(h:H a=some o)(h':H b=some u)(d:o≠u):a≠b:=by
 intro e;subst e;rw[h] at h';exact d (Option.some.inj h')
theorem aX {H:Hp}(h:H a=some o)(h':H b=none):a≠b:=by
 intro e;subst e;rw[h] at h';cases h'
section
variable (P:Program) (w:World)
def cK (H:Hp)(h:Heap)(a:Addr):HO->Prop
 | .lst xs=>xs.length<=sizeLine/\∃(its:List Value) (n:Nat),bQ xs its/\h.get? a=some { cls:=.type "list",data:=.seq its.toArray n }
 | .tup xs=>xs.length<=sizeLine/\∃its:List Value,bQ xs its/\IsTup h a its.toArray
 | .dK kvs=>kvs.length<=sizeLine/\(a == sysModules)=false/\∃vs,KV kvs vs/\h.DictOf (dZ P w) a vs
 | .dT kvs=>kvs.length<=sizeLine/\(a == sysModules)=false/\∃xs:List (List Key × Addr × Value),
   Paired (fun (p:List Key × V) (q:List Key × Addr × Value)=>p.1=q.1/\H q.2.1=some (.tup (p.1.map kV))/\cA p.2 q.2.2) kvs xs/\
   ∃o es ep,h.get? a=some o/\o.ExactDict/\o.data=.dict es ep/\es.toList=xs.map (entryOfKey (tupleKind (dZ P w)))/\(xs.map (·.1)).Nodup
 | .set S n=>h.SetOf (intKind P w) a S n
 | .ins C dx fs=>H dx=some (.own a)/\fs.length<=1000/\dx≠a/\h.get? a=some (W.instObj C dx)/\
   ∃mA,h.Ns1 dx mA/\(∀f,kF (fs.lookup f) (mA f))/\PySem.Within mA (fs.map (·.1))
 | .own _=>∃o,h.get? a=some o
 | .xd fs=>∃mA,h.Ns1 a mA/\∀f,kF (fs.lookup f) (mA f)
 | .rng lo hi=>∃t u v,h.get? a=some { cls:=.type "range",data:=.fields #[.int lo t,.int hi u,.int 1 v] }
 | .frz o u=>h.get? a=some o/\cK H h a u
 | .tbl ps=>h.get? a=some { cls:=.none,data:=.fields ps }
 | .met f x=>h.get? a=some (W.methodObj (.ref f) (.ref x))
 | .ext φ=>φ h/\(∃o,h.get? a=some o)/\∀h1 h2:Heap,φ h1->(∀o,h1.get? a=some o->h2.get? a=some o)->φ h2
def HOk (H:Hp)(h:Heap):Prop:=∀a o,H a=some o->cK P w H h a o
end
section
variable {P:Program} {w:World} {H H':Hp} {h h':Heap} {a:Addr} {o:HO}
theorem cK.lt (x:cK P w H h a o):a < h.objs.size:=by
 cases o with
 |lst xs=>obtain⟨_,_,_,_,e⟩:=x;exact Heap.lt_size e
 |tup xs=>obtain⟨_,_,_,p⟩:=x;exact p.lt
 |dK kvs=>obtain⟨_,_,_,_,o,_,_,e,_⟩:=x;exact Heap.lt_size e
 |dT kvs=>obtain⟨_,_,_,_,o,_,_,e,_⟩:=x;exact Heap.lt_size e
 |set S n=>obtain⟨o,_,_,_,e,_⟩:=x;exact Heap.lt_size e
 |ins C dx fs=>obtain⟨_,_,_,e,_⟩:=x;exact Heap.lt_size e
 |own y=>obtain⟨_,e⟩:=x;exact Heap.lt_size e
 |xd fs=>obtain⟨_,⟨_,_,_,e,_⟩,_⟩:=x;exact Heap.lt_size e
 |rng lo hi=>obtain⟨_,_,_,e⟩:=x;exact Heap.lt_size e
 |frz ob u=>obtain⟨e,_⟩:=x;exact Heap.lt_size e
 |tbl ps=>exact Heap.lt_size (show h.get? a=some _ from x)
 |met f y=>exact Heap.lt_size (show h.get? a=some _ from x)
 |ext φ=>obtain⟨_,⟨_,e⟩,_⟩:=x;exact Heap.lt_size e
theorem Paired.mapP:∀{l₁:List α} {l₂:List β},Paired F l₁ l₂->(∀a b,F a b->G a b)->Paired G l₁ l₂
 |_,_,.nil,_=>.nil
 |_,_,.cons r t,f=>.cons (f _ _ r) (Paired.mapP t f)
theorem cK.stay (x:cK P w H h a o)(k:∀b u,(b=a\/H b=some (.own a))->h.get? b=some u->h'.get? b=some u)(ho:∀b,H b=some (.own a)->H' b=some (.own a))(ht:∀b xs,H b=some (.tup xs)->H' b=some (.tup xs)):cK P w H' h' a o:=by
 induction o with
 |lst xs=>obtain⟨z,its,n,r,e⟩:=x;exact⟨z,its,n,r,k _ _ (.inl rfl) e⟩
 |tup xs=>obtain⟨z,its,r,ob,e,c⟩:=x;exact⟨z,its,r,ob,k _ _ (.inl rfl) e,c⟩
 |dK kvs=>obtain⟨z,y,vs,r,ob,es,ep,e,c⟩:=x;exact⟨z,y,vs,r,ob,es,ep,k _ _ (.inl rfl) e,c⟩
 |dT kvs=>
  obtain⟨z,y,xs,r,ob,es,ep,e,c⟩:=x;exact⟨z,y,xs,Paired.mapP r fun p q z=>⟨z.1,ht _ _ z.2.1,z.2.2⟩,ob,es,ep,k _ _ (.inl rfl) e,c⟩
 |set S n=>obtain⟨ob,es,ep,t,e,c⟩:=x;exact⟨ob,es,ep,t,k _ _ (.inl rfl) e,c⟩
 |ins C dx fs=>
  obtain⟨d,z,ne,e,mA,⟨od,es,ep,e2,c⟩,r⟩:=x;exact⟨ho _ d,z,ne,k _ _ (.inl rfl) e,mA,⟨od,es,ep,k _ _ (.inr d) e2,c⟩,r⟩
 |own y=>obtain⟨ob,e⟩:=x;exact⟨ob,k _ _ (.inl rfl) e⟩
 |xd fs=>obtain⟨mA,⟨od,es,ep,e,c⟩,r⟩:=x;exact⟨mA,⟨od,es,ep,k _ _ (.inl rfl) e,c⟩,r⟩
 |rng lo hi=>obtain⟨t,u,v,e⟩:=x;exact⟨t,u,v,k _ _ (.inl rfl) e⟩
 |frz ob u ih=>obtain⟨e,q⟩:=x;exact⟨k _ _ (.inl rfl) e,ih q⟩
 |tbl ps=>
  have e:h.get? a=some { cls:=.none,data:=.fields ps }:=x;show h'.get? a=some { cls:=.none,data:=.fields ps };exact k a _ (.inl rfl) e
 |met f y=>
  have e:h.get? a=some (W.methodObj (.ref f) (.ref y)):=x;show h'.get? a=some (W.methodObj (.ref f) (.ref y));exact k a _ (.inl rfl) e
 |ext φ=>obtain⟨p,⟨o,e⟩,st⟩:=x;exact⟨st _ _ p fun o q=>k _ _ (.inl rfl) q,⟨o,k _ _ (.inl rfl) e⟩,st⟩
theorem HOk.lt (x:HOk P w H h)(e:H a=some o):a < h.objs.size:=(x a o e).lt
theorem HOk.fresh (x:HOk P w H h)(e:h.objs.size<=a):H a=none:=by
 cases q:H a with
 |none=>rfl
 |some u=>exact absurd (Nat.lt_of_lt_of_le (x.lt q) e) (Nat.lt_irrefl _)
theorem HOk.kept (x:HOk P w H h)(k:∀b u,h.get? b=some u->h'.get? b=some u):HOk P w H h':=fun a o e=>
 (x a o e).stay (fun b u _ q=>k b u q) (fun _ q=>q) fun _ _ q=>q
theorem HOk.laid (x:HOk P w H h)(k:∀b u,h.get? b=some u->h'.get? b=some u)(hp:h.objs.size<=a)(new:cK P w (upd H a o) h' a o):HOk P w (upd H a o) h':=fun b u e=>by
 have hn:=x.fresh hp
 by_cases hb:b=a
 ·subst hb;rw[aB] at e;cases e;exact new
 ·rw[aL hb] at e;exact(x b u e).stay (fun c v _ q=>k c v q) (fun c q=>by rw[aL (aX q hn)];exact q) fun c xs q=>by rw[aL (aX q hn)];exact q
end
def Rd (H:Hp)(a:Addr)(u:HO):Prop:=H a=some u\/∃o,H a=some (.frz o u)
theorem Rd.ok (r:Rd H a u)(x:HOk P w H h):cK P w H h a u:=by
 rcases r with r | ⟨o,r⟩
 ·exact x a u r
 ·obtain⟨_,q⟩:=x a _ r;exact q
def Mut:Option HO->Prop
 |some (.lst _)=>True
 |some (.dK _)=>True
 |some (.dT _)=>True
 |some (.set _ _)=>True
 |some (.ins _ _ _)=>True
 |some (.ext _)=>True
 |_=>False
section
variable {P:Program} {w:World} {H:Hp} {h h':Heap} {x e:Addr} {o':HO}
theorem HOk.write (ok:HOk P w H h)(mu:Mut (H x))(he:e=x\/H e=some (.own x))(k:∀b u,b≠e->h.get? b=some u->h'.get? b=some u)(heo:∃u,h'.get? e=some u)(new:cK P w (upd H x o') h' x o'):HOk P w (upd H x o') h':=fun b u q=>by
 have nown:∀c y,H c=some (.own y)->c≠x:=fun c y r z=>by subst z;rw[r] at mu;exact mu
 have ntup:∀c xs,H c=some (.tup xs)->c≠x:=fun c xs r z=>by subst z;rw[r] at mu;exact mu
 by_cases hb:b=x
 ·subst hb;rw[aB] at q;cases q;exact new
 ·rw[aL hb] at q
  by_cases hbe:b=e
  ·have q':H b=some (.own x):=by
    rcases he with z | z
    ·exact absurd (hbe.trans z) hb
    ·rw[hbe];exact z
   rw[q] at q';cases q';obtain⟨v,hv⟩:=heo;exact⟨v,by rw[hbe];exact hv⟩
  ·refine(ok b u q).stay (fun c v hc r=>k c v ?_ r) (fun c r=>by rw[aL (nown c b r)];exact r) fun c xs r=>by rw[aL (ntup c xs r)];exact r
   rcases hc with rfl | hc
   ·exact hbe
   ·rintro rfl;rcases he with z | z
    ·exact nown c b hc z
    ·rw[hc] at z;cases z;exact hb rfl
end
structure Un (fs ex:List Addr) (H H':Hp) (h h':Heap):Prop where
 keep:∀b o,h.get? b=some o->H b=none->b∉fs->b∉ex->h'.get? b=some o
 slot:∀b o,h.get? b=some o->H b=none->b∈fs->b∉ex->∃sl,h'.get? b=some { o with slots:=sl }
 free:∀b o,h.get? b=some o->H b=none->b∉ex->H' b=none
 there:∀b o,h.get? b=some o->b∉ex->∃o',h'.get? b=some o'
 tups:∀b xs,H b=some (.tup xs)->H' b=some (.tup xs)
 frzs:∀b o u,H b=some (.frz o u)->H' b=some (.frz o u)
 tbls:∀b ps,H b=some (.tbl ps)->∃more,H' b=some (.tbl (ps++more))
section
variable {fs fs' ex ex':List Addr} {H H1 H2:Hp} {h h1 h2 h':Heap} {a x e:Addr} {o:HO}
theorem Un.any (u:Un fs ex H H1 h h1)(q:h.get? b=some ob)(n:H b=none)(hx:b∉ex):∃sl,h1.get? b=some { ob with slots:=sl }:=by
 by_cases hb:b∈fs
 ·exact u.slot b ob q n hb hx
 ·exact⟨ob.slots,u.keep b ob q n hb hx⟩
theorem Un.kept (k:∀b u,h.get? b=some u->h'.get? b=some u):Un fs ex H H h h':=
 ⟨fun b ob q _ _ _=>k b ob q,fun b ob q _ _ _=>⟨ob.slots,k b ob q⟩,fun _ _ _ n _=>n,fun b ob q _=>⟨ob,k b ob q⟩,fun _ _ q=>q,fun _ _ _ q=>q,fun _ ps q=>⟨#[],by rw[q];simp⟩⟩
theorem Un.refl:Un fs ex H H h h:=Un.kept fun _ _ q=>q
theorem Un.laid (k:∀b u,h.get? b=some u->h'.get? b=some u)(hp:h.objs.size<=a)(hn:H a=none):Un fs ex H (upd H a o) h h' where
 keep:=fun b u q _ _ _=>k b u q
 slot:=fun b u q _ _ _=>⟨u.slots,k b u q⟩
 free:=fun b u q n _=>by rw[aL (Nat.ne_of_lt (Nat.lt_of_lt_of_le (Heap.lt_size q) hp))];exact n
 there:=fun b u q _=>⟨u,k b u q⟩
 tups:=fun b xs q=>by rw[aL (aX q hn)];exact q
 frzs:=fun b u xs q=>by rw[aL (aX q hn)];exact q
 tbls:=fun b ps q=>⟨#[],by rw[aL (aX q hn),q];simp⟩
theorem Un.write (mu:Mut (H x))(he:e=x\/H e=some (.own x))(k:∀b u,b≠e->h.get? b=some u->h'.get? b=some u)(heo:∃u,h'.get? e=some u):Un fs ex H (upd H x o) h h':=by
 have hx:∀b,H b=none->b≠x:=fun b n z=>by subst z;rw[n] at mu;exact mu
 have hb:∀b,H b=none->b≠e:=fun b n z=>by
  subst z;rcases he with r | r
  ·exact hx b n r
  ·rw[n] at r;cases r
 have hm:∀b u,H b=some u->¬Mut (some u)->b≠x:=fun b u q nm z=>by subst z;rw[q] at mu;exact nm mu
 refine⟨fun b u q n _ _=>k b u (hb b n) q,fun b u q n _ _=>⟨u.slots,k b u (hb b n) q⟩,fun b u q n _=>by rw[aL (hx b n)];exact n,fun b u q _=>?_,
  fun b xs q=>by rw[aL (hm b _ q fun z=>z)];exact q,fun b u xs q=>by rw[aL (hm b _ q fun z=>z)];exact q,fun b ps q=>⟨#[],by rw[aL (hm b _ q fun z=>z),q];simp⟩⟩
 by_cases hbe:b=e
 ·subst hbe;exact heo
 ·exact⟨u,k b u hbe q⟩
end
def trk (h:Heap)(H:Hp):List Addr:=(List.range h.objs.size).filter fun a=>(H a).isSome
def Az (h:Heap)(H:Hp):Heap:=W.hideAll h (trk h H)
theorem Mg (h:Heap)(H:Hp):(Az h H).objs.size=h.objs.size:=W.hideAll_size _ _
theorem Nn (e:h.get? b=some o)(n:H b=none):(Az h H).get? b=some o:=
 W.hideAll_get _ e fun hm=>by
  have q:(H b).isSome=true:=(mem_filter.mp hm).2;rw[n] at q;simp at q
theorem Vb (e:(Az h H).get? b=some o):h.get? b=some o/\H b=none:=by
 have e':h.get? b=some o:=W.of_hideAll (trk h H) e;refine⟨e',?_⟩
 cases q:H b with
 |none=>rfl
 |some x=>
  have hm:b∈trk h H:=mem_filter.mpr ⟨mem_range.mpr (Heap.lt_size e'),by simp[q]⟩;have z:(Az h H).get? b=none:=W.hideAll_none (trk h H) hm;rw[z] at e;cases e
structure Mod (K:Frag) (mg:Str->Option Value) (base:Heap):Prop where
 kin:K.In base
 glob:base.Ns mainGlobals mg
 blt:∃mb,base.Ns builtinsNs mb/\∀x:Str,x≠"__name__"->mb x=bootBuiltins x
 nolimit:base.NoLimit
structure Cx where
 prog:Program
 w:World
 K:Frag
 mg:Str->Option Value
 base:Heap
 A:Around
 N:List Str
 s₀:Shared
 H₀:Hp
 env:Env
 outer:List Env
 stack:List Env
 ex:List Addr
 fn:Str->Bool
 calm:Bool
 pn:List (Addr × Obj)
 xe:Value->Shared->Prop
def frs (l:List Env):List Addr:=l.filterMap (·.frame)
abbrev Cx.fs (X:Cx):List Addr:=frs X.outer
def Vis (sc:Scope)(x:Str):Prop:=sc.names.lookup x=some .local\/sc.names.lookup x=some .cell\/sc.names.lookup x=some .free
def Loc (sc:Scope)(x:Str):Prop:=sc.names.lookup x=some .local\/sc.names.lookup x=some .cell
def qo2 (env:Env)(h:Heap)(m:Str->Option Value)(x:Str)(u:Value):Prop:=
 (env.kindOf x=some .local/\m x=some u)\/((env.kindOf x=some .cell\/env.kindOf x=some .free)/\∃c,env.cells.lookup x=some c/\h.IsCell c (some u))
structure Cx.Ok (X:Cx):Prop where
 mod:Mod X.K X.mg X.base
 kind:X.env.scope.kind=.function
 glob:X.env.globals=mainGlobals
 blt:X.env.builtins=builtinsNs
 above:X.s₀.heap.objs.size<=X.env.locals
 inj:∀x y c,X.env.cells.lookup x=some c->X.env.cells.lookup y=some c->x=y
 has:∀x,(X.env.kindOf x=some .cell\/X.env.kindOf x=some .free)->∃c,X.env.cells.lookup x=some c
 cab:∀x c,X.fn x=true->X.env.cells.lookup x=some c->X.s₀.heap.objs.size<=c
 hd:X.calm=true->X.A.handled=none
 frames:X.A.frames=some X.stack
 stk:X.stack=X.outer\/(X.stack=X.env :: X.outer/\X.env.frame=some X.env.locals)
 exf:∀b∈X.ex,b≠X.env.locals/\∀x c,X.env.cells.lookup x=some c->c≠b
 bs:∀b o,X.base.get? b=some o->X.s₀.heap.get? b=some o/\X.H₀ b=none
 bsz:X.base.objs.size<=X.s₀.heap.objs.size
 noex:∀b o,X.base.get? b=some o->b∉X.ex
 exfs:∀b∈X.ex,b∉X.fs
 funs:X.s₀.heap.FunFrames X.base X.outer
 frf:∀b∈X.fs,X.H₀ b=none
structure Inv (X:Cx) (pins:List (Addr × Obj)) (σ:List (Option V)) (H:Hp) (s:Shared):Prop where
 ok:X.Ok
 os:s.os=X.s₀.os
 bare:AllBare s.gens
 base:Un X.fs X.ex X.H₀ H X.s₀.heap s.heap
 loc:∃m,s.heap.Ns X.env.locals m/\∀(i:Nat) (x:Str) (v:V),X.N[i]?=some x->σ[i]?=some (some v)->Vis X.env.scope x->∃u,cA v u/\qo2 X.env s.heap m x u
 cell:∀x c,X.env.cells.lookup x=some c->∃v,s.heap.IsCell c v
 free:H X.env.locals=none
 freeC:∀x c,X.env.cells.lookup x=some c->H c=none
 pin:∀p∈X.pn++pins,s.heap.get? p.1=some p.2/\H p.1=none/\p.1≠X.env.locals/\p.1∉X.fs/\∀v,p.2.data≠.cell v
 hok:HOk X.prog X.w H s.heap
 len:σ.length=X.N.length
section
variable {X:Cx} {pins:List (Addr × Obj)} {σ:List (Option V)} {H H':Hp} {s:Shared} {h':Heap}
theorem Cx.Ok.nofr (ok:X.Ok)(e:X.base.get? b=some o):b∉X.fs:=fun hb=>by
 have:=(ok.funs.mem hb).1;rw[e] at this;cases this
theorem Inv.bs (I:Inv X pins σ H s):∀b o,X.base.get? b=some o->s.heap.get? b=some o/\H b=none:=fun b o e=>
 ⟨I.base.keep b o (I.ok.bs b o e).1 (I.ok.bs b o e).2 (I.ok.nofr e) (I.ok.noex b o e),I.base.free b o (I.ok.bs b o e).1 (I.ok.bs b o e).2 (I.ok.noex b o e)⟩
theorem Inv.bk (I:Inv X pins σ H s):∀b o,X.base.get? b=some o->s.heap.get? b=some o:=fun b o e=>(I.bs b o e).1
theorem Inv.mod (I:Inv X pins σ H s):Mod X.K X.mg X.base:=I.ok.mod
theorem Inv.kIn (I:Inv X pins σ H s):X.K.In s.heap:=I.ok.mod.kin.keeps I.bk
theorem Inv.lt (I:Inv X pins σ H s):X.env.locals < s.heap.objs.size:=let ⟨_,hn,_⟩:=I.loc;hn.lt
theorem Inv.sz (I:Inv X pins σ H s):X.s₀.heap.objs.size<=s.heap.objs.size:=Nat.le_trans I.ok.above (Nat.le_of_lt I.lt)
theorem Inv.nofs (I:Inv X pins σ H s)(h:s.heap.objs.size<=a):a∉X.fs:=fun hb=>by
 obtain⟨_,o,ho,_⟩:=I.ok.funs.mem hb;exact absurd (Nat.lt_of_lt_of_le (Heap.lt_size ho) (Nat.le_trans I.sz h)) (Nat.lt_irrefl _)
theorem Inv.cne (I:Inv X pins σ H s):∀x c,X.env.cells.lookup x=some c->c≠X.env.locals:=fun x c e z=>by
 obtain⟨v,o,ho,hd⟩:=I.cell x c e;obtain⟨m,⟨o',es,ep,ho',hd',_⟩,_⟩:=I.loc;rw[z,ho'] at ho;cases ho;rw[hd'] at hd;cases hd
theorem Inv.funs (I:Inv X pins σ H s):s.heap.FunFrames X.base X.outer:=by
 have all:∀(l:List Env),(∀b∈frs l,b∈X.fs)->X.s₀.heap.FunFrames X.base l->s.heap.FunFrames X.base l:=by
  intro l
  induction l with
  |nil=>intro _ _;trivial
  |cons env r ih=>
   intro hs hl;obtain⟨hk,⟨L,o,hf,hn,ho,hd⟩,hr⟩:=hl;have hL:L∈X.fs:=hs L (by unfold frs;rw[filterMap_cons,hf];exact mem_cons_self);obtain⟨sl,e⟩:=I.base.slot L o ho (I.ok.frf L hL) hL fun z=>I.ok.exfs L z hL;exact⟨hk,⟨L,_,hf,hn,e,hd⟩,ih (fun b hb=>hs b (by unfold frs;rw[filterMap_cons,hf];exact mem_cons_of_mem _ hb)) hr⟩
 exact all X.outer (fun _ hb=>hb) I.ok.funs
theorem Inv.stack (I:Inv X pins σ H s):s.heap.FunFrames X.base X.stack:=by
 rcases I.ok.stk with e | ⟨e,hf⟩
 ·rw[e];exact I.funs
 ·rw[e];obtain⟨m,hn,_⟩:=I.loc;refine .cons (by rw[I.ok.kind];decide) hf hn ?_ I.funs;exact Heap.get?_none_of_le (Nat.le_trans I.ok.bsz I.ok.above)
theorem Inv.stkSub (I:Inv X pins σ H s):∀b∈frs X.stack,b∈X.env.locals :: X.fs:=fun b hb=>by
 rcases I.ok.stk with e | ⟨e,hf⟩
 ·rw[e] at hb;exact mem_cons_of_mem _ hb
 ·rw[e] at hb;unfold frs at hb;rw[filterMap_cons,hf] at hb;exact hb
theorem Inv.stkFree (I:Inv X pins σ H s):∀b∈frs X.stack,H b=none:=fun b hb=>by
 rcases mem_cons.mp (I.stkSub b hb) with e | hb
 ·rw[e];exact I.free
 ·obtain⟨_,o,ho,_⟩:=I.ok.funs.mem hb;exact I.base.free b o ho (I.ok.frf b hb) fun z=>I.ok.exfs b z hb
theorem Inv.step {ch:List Addr}(I:Inv X pins σ H s)(hch:∀b∈ch,(b∈X.ex\/X.s₀.heap.objs.size<=b)/\b≠X.env.locals/\(∀x c,X.env.cells.lookup x=some c->c≠b)/\∀p∈X.pn++pins,p.1≠b)(keep:∀b o,b≠X.env.locals->b∉X.fs->b∉ch->s.heap.get? b=some o->H b=none->h'.get? b=some o)(slot:∀b o,b≠X.env.locals->b∈X.fs->b∉ch->s.heap.get? b=some o->H b=none->∃sl,h'.get? b=some { o with slots:=sl })(free:∀b o,b∉ch->s.heap.get? b=some o->H b=none->H' b=none)(there:∀b o,b∉ch->s.heap.get? b=some o->∃o',h'.get? b=some o')(tups:∀b xs,H b=some (.tup xs)->H' b=some (.tup xs))(frzs:∀b o u,H b=some (.frz o u)->H' b=some (.frz o u))(tbls:∀b ps,H b=some (.tbl ps)->∃more,H' b=some (.tbl (ps++more)))(ns:∀m,s.heap.Ns X.env.locals m->h'.Ns X.env.locals m)(hok:HOk X.prog X.w H' h')(hg:AllBare g'):
  Inv X pins σ H' { s with heap:=h',gens:=g',drawn:=d',toks:=t' }:=by
 have neL:∀b o,X.s₀.heap.get? b=some o->b≠X.env.locals:=fun b o e=>Nat.ne_of_lt (Nat.lt_of_lt_of_le (Heap.lt_size e) I.ok.above);have neC:∀b o,X.s₀.heap.get? b=some o->b∉X.ex->b∉ch:=fun b o e hx hb=>by
  rcases (hch b hb).1 with z | z
  ·exact hx z
  ·exact absurd (Nat.lt_of_lt_of_le (Heap.lt_size e) z) (Nat.lt_irrefl _)
 have cellK:∀x c,X.env.cells.lookup x=some c->∀v,s.heap.IsCell c v->h'.IsCell c v:=fun x c e v ⟨o,ho,hd⟩=>by
  have nch:c∉ch:=fun z=>(hch c z).2.2.1 x c e rfl
  by_cases hc:c∈X.fs
  ·obtain⟨sl,q⟩:=slot c o (I.cne x c e) hc nch ho (I.freeC x c e);exact⟨_,q,hd⟩
  ·exact⟨o,keep c o (I.cne x c e) hc nch ho (I.freeC x c e),hd⟩
 refine⟨I.ok,I.os,hg,⟨fun b o e n hb hx=>?_,fun b o e n hb hx=>?_,fun b o e n hx=>?_,fun b o e hx=>?_,fun b xs e=>tups b xs (I.base.tups b xs e),fun b o xs e=>frzs b o xs (I.base.frzs b o xs e),fun b ps e=>?_⟩,?_,fun x c e=>?_,?_,fun x c e=>?_,fun p hp=>?_,hok,I.len⟩
 ·exact keep b o (neL b o e) hb (neC b o e hx) (I.base.keep b o e n hb hx) (I.base.free b o e n hx)
 ·obtain⟨sl,e1⟩:=I.base.slot b o e n hb hx;obtain⟨sl',e2⟩:=slot b _ (neL b o e) hb (neC b o e hx) e1 (I.base.free b o e n hx);exact⟨sl',e2⟩
 ·obtain⟨o',e1⟩:=I.base.there b o e hx;exact free b o' (neC b o e hx) e1 (I.base.free b o e n hx)
 ·obtain⟨o',e1⟩:=I.base.there b o e hx;exact there b o' (neC b o e hx) e1
 ·obtain⟨m1,e1⟩:=I.base.tbls b ps e;obtain⟨m2,e2⟩:=tbls b _ e1;exact⟨m1++m2,by rw[e2,Array.append_assoc]⟩
 ·obtain⟨m,hn,hl⟩:=I.loc;refine⟨m,ns m hn,fun i x v e1 e2 e3=>?_⟩;obtain⟨u,r,l⟩:=hl i x v e1 e2 e3;refine⟨u,r,?_⟩;rcases l with l | ⟨k,c,e,z⟩
  ·exact .inl l
  ·exact .inr ⟨k,c,e,cellK x c e _ z⟩
 ·obtain⟨v,z⟩:=I.cell x c e;exact⟨v,cellK x c e v z⟩
 ·obtain⟨m,⟨o,_,_,ho,_⟩,_⟩:=I.loc;exact free _ o (fun z=>(hch _ z).2.1 rfl) ho I.free
 ·obtain⟨v,o,ho,hd⟩:=I.cell x c e;exact free c o (fun z=>(hch c z).2.2.1 x c e rfl) ho (I.freeC x c e)
 ·obtain⟨e,n,ne,nf,d⟩:=I.pin p hp;have nch:p.1∉ch:=fun z=>(hch p.1 z).2.2.2 p hp rfl;exact⟨keep p.1 p.2 ne nf nch e n,free p.1 p.2 nch e n,ne,nf,d⟩
theorem Inv.un (I:Inv X pins σ H s)(u:Un X.fs [] H H' s.heap h')(hok:HOk X.prog X.w H' h'):Inv X pins σ H' { s with heap:=h',toks:=t' }:=by
 obtain⟨m,⟨o,es,ep,ho,r⟩,_⟩:=id I.loc;obtain⟨sl,hL⟩:=u.any ho I.free (by simp);exact I.step (g':=s.gens) (d':=s.drawn) (ch:=[]) (fun _ z=>nomatch z) (fun b o _ hb _ e n=>u.keep b o e n hb (by simp)) (fun b o _ hb _ e n=>u.slot b o e n hb (by simp)) (fun b o _ e n=>u.free b o e n (by simp)) (fun b o _ e=>u.there b o e (by simp)) u.tups u.frzs u.tbls (fun m' hm=>by
  obtain⟨o',es',ep',ho',r'⟩:=hm;rw[ho] at ho';cases ho';exact⟨_,es',ep',hL,r'⟩) hok I.bare
theorem Inv.call (I:Inv X pins σ H s)(u:Un (frs X.stack) ch H H' s.heap h')(hok:HOk X.prog X.w H' h')(hg:AllBare g')(hch:∀b∈ch,(b∈X.ex\/X.s₀.heap.objs.size<=b)/\b≠X.env.locals/\(∀x c,X.env.cells.lookup x=some c->c≠b)/\∀p∈X.pn++pins,p.1≠b):
  Inv X pins σ H' { s with heap:=h',gens:=g',drawn:=d',toks:=t' }:=by
 obtain⟨m,⟨o,es,ep,ho,r⟩,_⟩:=id I.loc;obtain⟨sl,hL⟩:=u.any ho I.free fun z=>(hch _ z).2.1 rfl;exact I.step (ch:=ch) hch (fun b o hL hb hc e n=>u.keep b o e n (fun z=>(mem_cons.mp (I.stkSub b z)).elim hL hb) hc) (fun b o _ _ hc e n=>u.any e n hc) (fun b o hc e n=>u.free b o e n hc) (fun b o hc e=>u.there b o e hc) u.tups u.frzs u.tbls (fun m' hm=>by
  obtain⟨o',es',ep',ho',r'⟩:=hm;rw[ho] at ho';cases ho';exact⟨_,es',ep',hL,r'⟩) hok hg
theorem Inv.turned (I:Inv X pins σ H s)(k:∀b o,b≠it->s.heap.get? b=some o->h'.get? b=some o)(hn:H it=none)(hL:it≠X.env.locals)(h1:it∈X.ex\/X.s₀.heap.objs.size<=it)(h2:∀x c,X.env.cells.lookup x=some c->c≠it)(h3:∀p∈X.pn++pins,p.1≠it):Inv X pins σ H { s with heap:=h',toks:=t' }:=by
 have nit:∀b u,H b=some u->b≠it:=fun b u e z=>by rw[z,hn] at e;cases e
 refine I.step (g':=s.gens) (d':=s.drawn) (ch:=[it]) (fun b hb=>?_) (fun b o _ _ hc e _=>k b o (fun z=>hc (by simp[z])) e) (fun b o _ _ hc e _=>⟨o.slots,k b o (fun z=>hc (by simp[z])) e⟩) (fun _ _ _ _ n=>n)
  (fun b o hc e=>⟨o,k b o (fun z=>hc (by simp[z])) e⟩) (fun _ _ e=>e) (fun _ _ _ e=>e) (fun b ps e=>⟨#[],by rw[e];simp⟩) (fun m hm=>?_) (fun b u e=>?_) I.bare
 ·have e:b=it:=by simpa using hb
  subst e;exact⟨h1,hL,h2,h3⟩
 ·obtain⟨o,es,ep,ho,r⟩:=hm;exact⟨o,es,ep,k _ o (Ne.symm hL) ho,r⟩
 ·refine(I.hok b u e).stay (fun c v hc q=>k c v ?_ q) (fun _ q=>q) fun _ _ q=>q;rcases hc with z | z
  ·rw[z];exact nit b u e
  ·exact nit c _ z
theorem Inv.tok (I:Inv X pins σ H s)(t:Nat):Inv X pins σ H { s with toks:=t }:=I.un (h':=s.heap) (t':=t) Un.refl I.hok
theorem Inv.kept (I:Inv X pins σ H s)(k:∀b u,s.heap.get? b=some u->h'.get? b=some u):Inv X pins σ H { s with heap:=h',toks:=t' }:=I.un (Un.kept k) (I.hok.kept k)
theorem Inv.laid (I:Inv X pins σ H s)(k:∀b u,s.heap.get? b=some u->h'.get? b=some u)(hp:s.heap.objs.size<=a)(new:cK X.prog X.w (upd H a o) h' a o):
  Inv X pins σ (upd H a o) { s with heap:=h',toks:=t' }:=I.un (Un.laid k hp (I.hok.fresh hp)) (I.hok.laid k hp new)
theorem Inv.write (I:Inv X pins σ H s)(mu:Mut (H x))(he:e=x\/H e=some (.own x))(k:∀b u,b≠e->s.heap.get? b=some u->h'.get? b=some u)(heo:∃u,h'.get? e=some u)(new:cK X.prog X.w (upd H x o) h' x o):Inv X pins σ (upd H x o) { s with heap:=h',toks:=t' }:=I.un (Un.write mu he k heo) (I.hok.write mu he k heo new)
theorem Inv.weak (I:Inv X pins σ H s)(hl:σ'.length=σ.length)(w:∀(i:Nat) v,σ'[i]?=some (some v)->σ[i]?=some (some v)):Inv X pins σ' H s:=
 ⟨I.ok,I.os,I.bare,I.base,let ⟨m,hn,hl'⟩:=I.loc;⟨m,hn,fun i x v e1 e2 e3=>hl' i x v e1 (w i v e2) e3⟩,I.cell,I.free,I.freeC,I.pin,I.hok,hl.trans I.len⟩
theorem Inv.pins_of (I:Inv X pins σ H s)(h:∀p∈pins',s.heap.get? p.1=some p.2/\H p.1=none/\p.1≠X.env.locals/\p.1∉X.fs/\∀v,p.2.data≠.cell v):Inv X pins' σ H s:=
 ⟨I.ok,I.os,I.bare,I.base,I.loc,I.cell,I.free,I.freeC,fun p hp=>(mem_append.mp hp).elim (fun z=>I.pin p (mem_append_left _ z)) (h p),I.hok,I.len⟩
theorem wR {N:List Str}(hN:N.Nodup){i j:Nat}(a:N[i]?=some x)(b:N[j]?=some x):i=j:=by
 obtain⟨h1,e1⟩:=List.getElem?_eq_some_iff.mp a;obtain⟨h2,e2⟩:=List.getElem?_eq_some_iff.mp b;exact(getElem_inj hN).mp (e1.trans e2.symm)
theorem yS (I:Inv X pins σ H s)(hN:X.N.Nodup)(hi:X.N[i]?=some x)(hx:Loc X.env.scope x)(r:cA v u)(h:∀s',Inv X pins (σ.set i (some v)) H s'->(∃a,Heap.SameBut a s.heap s'.heap/\(a=X.env.locals\/X.env.cells.lookup x=some a))->Q () s')(hf:X.fn x=true\/X.env.scope.names.lookup x=some .local:=by first | exact .inl rfl | exact .inr rfl | assumption):wpAny M A (storeName X.env x u) Q E s:=by
 obtain⟨m,hn,hl⟩:=id I.loc;have hcls:(X.env.scope.kind == .class || (X.env.scope.kind == .module && X.env.locals != X.env.globals))=false:=by rw[I.ok.kind];rfl
 have hiσ:i < σ.length:=by rw[I.len];exact(List.getElem?_eq_some_iff.mp hi).1
 have cne:=I.cne;have tracked:∀{a:Addr} {h':Heap},(∃o,s.heap.get? a=some o/\H a=none)->Heap.SameBut a s.heap h'->HOk X.prog X.w H h':=fun {a h'} ha hs b ob e=>by
  obtain⟨_,_,hfree⟩:=ha;refine(I.hok b ob e).stay (fun c w' hc q=>(hs.2 c ?_).trans q) (fun _ q=>q) fun _ _ q=>q;rintro rfl;rcases hc with rfl | hc
  ·rw[hfree] at e;cases e
  ·rw[hfree] at hc;cases hc
 rcases hx with hk | hk
 ·refine wpAny_storeName_local hk hn (fun h' hn' hs=>?_) hcls;obtain⟨oL,_,_,hoL,_⟩:=id hn;refine h _ ⟨I.ok,I.os,I.bare,⟨fun b o e n hb hx=>?_,fun b o e n hb hx=>?_,I.base.free,fun b o e hx=>?_,I.base.tups,I.base.frzs,I.base.tbls⟩,⟨_,hn',fun j y v' e1 e2 e3=>?_⟩,fun y c e=>?_,I.free,I.freeC,fun p hp=>?_,tracked ⟨oL,hoL,I.free⟩ hs,by simpa using I.len⟩ ⟨_,hs,.inl rfl⟩
  ·exact(hs.2 b (Nat.ne_of_lt (Nat.lt_of_lt_of_le (Heap.lt_size e) I.ok.above))).trans (I.base.keep b o e n hb hx)
  ·obtain⟨sl,e1⟩:=I.base.slot b o e n hb hx;exact⟨sl,(hs.2 b (Nat.ne_of_lt (Nat.lt_of_lt_of_le (Heap.lt_size e) I.ok.above))).trans e1⟩
  ·obtain⟨o',e1⟩:=I.base.there b o e hx;exact⟨o',(hs.2 b (Nat.ne_of_lt (Nat.lt_of_lt_of_le (Heap.lt_size e) I.ok.above))).trans e1⟩
  ·by_cases hj:j=i
   ·subst hj;rw[hi] at e1;cases e1;rw[getElem?_set_self hiσ] at e2
    cases e2
    exact⟨u,r,.inl ⟨hk,by simp⟩⟩
   ·rw[getElem?_set_ne (Ne.symm hj)] at e2;obtain⟨u',r',q⟩:=hl j y v' e1 e2 e3;refine⟨u',r',?_⟩;rcases q with ⟨k,e⟩ | ⟨k,c,e,z⟩
    ·refine .inl ⟨k,?_⟩;have:y≠x:=fun e=>hj (wR hN e1 (e ▸ hi));simp[this,e]
    ·exact .inr ⟨k,c,e,z.sameBut hs (cne y c e)⟩
  ·obtain⟨w',z⟩:=I.cell y c e;exact⟨w',z.sameBut hs (cne y c e)⟩
  ·obtain⟨e,n,ne,nf,d⟩:=I.pin p hp;exact⟨(hs.2 p.1 ne).trans e,n,ne,nf,d⟩
 ·have hfn:X.fn x=true:=by
   rcases hf with z | z
   ·exact z
   ·rw[z] at hk;cases hk
  obtain⟨c,hc⟩:=I.ok.has x (.inl hk);obtain⟨w',z⟩:=I.cell x c hc;refine wpAny_storeName_cell I.ok.kind hk hc z (fun h' hc' hs=>?_);obtain⟨oc,hoc,hocd⟩:=id z;refine h { s with heap:=h' } ⟨I.ok,I.os,I.bare,⟨fun b o e n hb hx=>?_,fun b o e n hb hx=>?_,I.base.free,fun b o e hx=>?_,I.base.tups,I.base.frzs,I.base.tbls⟩,⟨m,hn.sameBut hs (Ne.symm (cne x c hc)),fun j y v' e1 e2 e3=>?_⟩,fun y c' e=>?_,I.free,I.freeC,fun p hp=>?_,tracked ⟨oc,hoc,I.freeC x c hc⟩ hs,by simpa using I.len⟩ ⟨c,hs,.inr hc⟩
  ·exact(hs.2 b (Nat.ne_of_lt (Nat.lt_of_lt_of_le (Heap.lt_size e) (I.ok.cab x c hfn hc)))).trans (I.base.keep b o e n hb hx)
  ·obtain⟨sl,e1⟩:=I.base.slot b o e n hb hx;exact⟨sl,(hs.2 b (Nat.ne_of_lt (Nat.lt_of_lt_of_le (Heap.lt_size e) (I.ok.cab x c hfn hc)))).trans e1⟩
  ·obtain⟨o',e1⟩:=I.base.there b o e hx;exact⟨o',(hs.2 b (Nat.ne_of_lt (Nat.lt_of_lt_of_le (Heap.lt_size e) (I.ok.cab x c hfn hc)))).trans e1⟩
  ·by_cases hj:j=i
   ·subst hj;rw[hi] at e1;cases e1;rw[getElem?_set_self hiσ] at e2
    cases e2
    exact⟨u,r,.inr ⟨.inl hk,c,hc,hc'⟩⟩
   ·rw[getElem?_set_ne (Ne.symm hj)] at e2;obtain⟨u',r',q⟩:=hl j y v' e1 e2 e3;refine⟨u',r',?_⟩;rcases q with q | ⟨k,c',e,z'⟩
    ·exact .inl q
    ·refine .inr ⟨k,c',e,z'.sameBut hs ?_⟩;rintro rfl;exact hj (wR hN e1 (I.ok.inj _ _ _ e hc ▸ hi))
  ·by_cases hcc:c'=c
   ·subst hcc;exact⟨_,hc'⟩
   ·obtain⟨w2,z2⟩:=I.cell y c' e;exact⟨w2,z2.sameBut hs hcc⟩
  ·obtain⟨e,n,ne,nf,d⟩:=I.pin p hp;refine⟨(hs.2 p.1 ?_).trans e,n,ne,nf,d⟩;intro q;rw[q,hoc] at e;have q':oc=p.2:=Option.some.inj e;exact d w' (by rw[<- q'];exact hocd)
theorem kI (I:Inv X pins σ H s)(hN:X.N.Nodup)(hi:X.N[i]?=some x)(hx:Loc X.env.scope x)(r:cA v u)(h:∀s',Inv X pins (σ.set i (some v)) H s'->Q () s')(hf:X.fn x=true\/X.env.scope.names.lookup x=some .local:=by first | exact .inl rfl | exact .inr rfl | assumption):wpAny M A (storeName X.env x u) Q E s:=
 yS I hN hi hx r (fun s' I' _=>h s' I') hf
theorem Inv.call' (I:Inv X pins σ H s)(ho:s'.os=s.os)(u:Un (frs X.stack) ch H H' s.heap s'.heap)(hok:HOk X.prog X.w H' s'.heap)(hg:AllBare s'.gens)(hch:∀b∈ch,(b∈X.ex\/X.s₀.heap.objs.size<=b)/\b≠X.env.locals/\(∀x c,X.env.cells.lookup x=some c->c≠b)/\∀p∈X.pn++pins,p.1≠b):Inv X pins σ H' s':=by
 obtain⟨h',g',d',t',o'⟩:=s';have e:o'=s.os:=ho;subst e;exact I.call (g':=g') (t':=t') (d':=d') u hok hg hch
end
abbrev XK:=Value->Option Addr->Hp->Prop
abbrev St:=List (Option V)
abbrev VK:=V->Hp->Prop
abbrev TE:=St->Hp->VK->Prop
abbrev TT:=St->Hp->(Bool->Hp->Prop)->Prop
abbrev TA:=St->Hp->(List V->Hp->Prop)->Prop
structure gO where
 nx:St->Hp->Prop
 rt:VK
 bk:St->Hp->Prop:=fun _ _=>False
 ct:St->Hp->Prop:=fun _ _=>False
abbrev TS:=gO->St->Hp->Prop
def EP (X:Cx)(pins:List (Addr × Obj))(σ:St)(Q:VK)(u:Value)(s':Shared):Prop:=∃v H',Inv X pins σ H' s'/\cA v u/\Q v H'
def TP (X:Cx)(pins:List (Addr × Obj))(σ:St)(Q:Bool->Hp->Prop)(b:Bool)(s':Shared):Prop:=∃H',Inv X pins σ H' s'/\Q b H'
def AP (X:Cx)(pins:List (Addr × Obj))(σ:St)(Q:List V->Hp->Prop)(us:List Value)(s':Shared):Prop:=∃vs H',Inv X pins σ H' s'/\bQ vs us/\Q vs H'
def SP (X:Cx)(pins:List (Addr × Obj))(D:gO)(f:Flow)(s':Shared):Prop:=
 match f with
 | .next=>∃σ' H',Inv X pins σ' H' s'/\D.nx σ' H'
 | .brk=>∃σ' H',Inv X pins σ' H' s'/\D.bk σ' H'
 | .cont=>∃σ' H',Inv X pins σ' H' s'/\D.ct σ' H'
 | .ret u=>∃v σ' H',Inv X pins σ' H' s'/\cA v u/\D.rt v H'
def PE (X:Cx)(e:Expr)(t:TE):Prop:=
 ∀(pins:List (Addr × Obj)) (s:Shared) (σ:St) (H:Hp) (Q:VK),Inv X pins σ H s->t σ H Q->wpAny (model X.prog X.w) X.A (eval e X.env) (EP X pins σ Q) X.xe s
def PT (X:Cx)(e:Expr)(t:TT):Prop:=
 ∀(pins:List (Addr × Obj)) (s:Shared) (σ:St) (H:Hp) (Q:Bool->Hp->Prop),Inv X pins σ H s->t σ H Q->wpAny (model X.prog X.w) X.A (isTrue e X.env (eval e X.env)) (TP X pins σ Q) X.xe s
def PW (X:Cx)(e:Expr)(t:TT):Prop:=
 ∀(whole:Sem Value) (pins:List (Addr × Obj)) (s:Shared) (σ:St) (H:Hp) (Q:Bool->Hp->Prop),Inv X pins σ H s->t σ H Q->wpAny (model X.prog X.w) X.A (isTrue e X.env whole) (TP X pins σ Q) X.xe s
theorem PW.pt (h:PW X e t):PT X e t:=h _
def PA (X:Cx)(es:List Expr)(t:TA):Prop:=
 ∀(pos:Pos) (pins:List (Addr × Obj)) (s:Shared) (σ:St) (H:Hp) (Q:List V->Hp->Prop),Inv X pins σ H s->t σ H Q->wpAny (model X.prog X.w) X.A (spliced (backTo pos (starEach es X.env))) (AP X pins σ Q) X.xe s
def PS (X:Cx)(st:Stmt)(t:TS):Prop:=
 ∀(pins:List (Addr × Obj)) (s:Shared) (σ:St) (H:Hp) (D:gO),Inv X pins σ H s->t D σ H->wpAny (model X.prog X.w) X.A (exec st X.env) (SP X pins D) X.xe s
def PSs (X:Cx)(st:List Stmt)(t:TS):Prop:=
 ∀(pins:List (Addr × Obj)) (s:Shared) (σ:St) (H:Hp) (D:gO),Inv X pins σ H s->t D σ H->wpAny (model X.prog X.w) X.A (execs st X.env) (SP X pins D) X.xe s
theorem thn (h:wpAny M A t Q E s)(hQ:∀a s,Q a s->Q' a s):wpAny M A t Q' E s:=wpAny_mono h hQ fun _ _ x=>x
section
variable {X:Cx}
def Tu (i:Nat):TE:=fun σ H Q=>∃v,σ[i]?=some (some v)/\Q v H
def tC (v:V):TE:=fun _ H Q=>Q v H
theorem Ro (hN:X.N[i]?=some x)(hv:Vis X.env.scope x)(hd:(x == ("__debug__":Str))=false:=by decide)(hcd:(x == ("__classdict__":Str))=false:=by decide):PE X (.Name x pos) (Tu i):=by
 intro pins s σ H Q I h;obtain⟨v,e,h⟩:=h;obtain⟨m,hn,hl⟩:=I.loc;obtain⟨u,r,l⟩:=hl i x v hN e hv;have fin:EP X pins σ Q u s:=⟨v,H,I,r,h⟩
 rcases l with ⟨hk,hm⟩ | ⟨hk,c,hc,hcell⟩
 ·exact wpAny_Name (wpAny_loadName_local I.ok.kind hk hn hm fin) hd
 ·rcases hk with hk | hk
  ·exact wpAny_Name (wpAny_loadName_cell I.ok.kind hk hc hcell fin) hd
  ·exact wpAny_Name (wpAny_loadName_free I.ok.kind hk hc hcell fin hcd) hd
theorem aE {i j pos}:PE X (.Constant (.int i) j pos) (tC (.int i)):=fun _ _ _ H _ I h=>wpAny_Constant_int ⟨.int i,H,I.tok _,⟨_,rfl⟩,h⟩
theorem gN {b j pos}:PE X (.Constant (.bool b) j pos) (tC (.bl b)):=fun _ _ _ H _ I h=>Constant_bool ⟨.bl b,H,I,rfl,h⟩
theorem mE {j pos}:PE X (.Constant .none j pos) (tC .non):=fun _ _ _ H _ I h=>Constant_none ⟨.non,H,I,rfl,h⟩
theorem dD {x j pos}:PE X (.Constant (.str x) j pos) (tC (.str x)):=fun _ _ _ H _ I h=>Calls.Constant_str ⟨.str x,H,I.tok _,⟨_,rfl⟩,h⟩
def Gl (X:Cx)(x:Str):Prop:=X.env.kindOf x=some .globalImplicit
theorem jA (I:Inv X pins σ H s)(hg:Gl X x)(hm:X.mg x=some u)(h:Q u s)(hd:(x == ("__debug__":Str))=false:=by decide):wpAny (model X.prog X.w) X.A (eval (.Name x pos) X.env) Q E s:=
 Calls.Name_function_global I.ok.kind hg (Calls.loadGlobal_global (by rw[I.ok.glob];exact I.mod.glob.keeps I.bk) hm h) hd
theorem kC (I:Inv X pins σ H s)(hg:Gl X x)(hm:X.mg x=none)(hv:bootBuiltins x=some u)(h:Q u s)(hn:x≠"__name__":=by decide)(hd:(x == ("__debug__":Str))=false:=by decide):wpAny (model X.prog X.w) X.A (eval (.Name x pos) X.env) Q E s:=by
 obtain⟨mb,h1,h2⟩:=I.mod.blt;exact Calls.Name_function_global I.ok.kind hg (Calls.loadGlobal_builtin (by rw[I.ok.glob];exact I.mod.glob.keeps I.bk) hm (by rw[I.ok.blt];exact h1.keeps I.bk) ((h2 x hn).trans hv) h) hd
theorem dM (hg:Gl X x)(hm:X.mg x=some u)(r:cA v u)(hd:(x == ("__debug__":Str))=false:=by decide):PE X (.Name x pos) (tC v):=
 fun _ _ _ H _ I h=>jA I hg hm ⟨v,H,I,r,h⟩ hd
theorem Ae (hg:Gl X x)(hm:X.mg x=none)(hv:bootBuiltins x=some u)(r:cA v u)(hn:x≠"__name__":=by decide)(hd:(x == ("__debug__":Str))=false:=by decide):PE X (.Name x pos) (tC v):=
 fun _ _ _ H _ I h=>kC I hg hm hv ⟨v,H,I,r,h⟩ hn hd
variable {a b:Expr} {ta tb:TE} {pos:Pos}
def PC (X:Cx)(op:CmpOp)(a b:Expr)(t:TE):Prop:=
 ∀(pins:List (Addr × Obj)) (s:Shared) (σ:St) (H:Hp) (Q:VK),Inv X pins σ H s->t σ H Q->
  wpAny (model X.prog X.w) X.A (eval a X.env) (fun v s₁=>wpAny (model X.prog X.w) X.A (eval b X.env) (fun u s₂=>wpAny (model X.prog X.w) X.A (compareOp op v u) (EP X pins σ Q) X.xe s₂) X.xe s₁) X.xe s
theorem Nr (b:Expr)(h:op≠.In)(h2:op≠.NotIn):behindInMarks op b=false:=by
 have e1:(op == CmpOp.In)=false:=by cases op<;>first | rfl | exact absurd rfl h
 have e2:(op == CmpOp.NotIn)=false:=by cases op<;>first | rfl | exact absurd rfl h2
 cases b<;>simp[behindInMarks,e1,e2]
def qn4 (ta:TE):TE:=fun σ H Q=>ta σ H fun x H1=>Q (.bl (decide (x=.non))) H1
theorem cA.none_iff (r:cA x v):(v == Value.none)=decide (x=.non):=by
 cases x with
 |non=>cases r;rfl
 |bl _=>cases r;rfl
 |int _=>obtain⟨t,rfl⟩:=r;rfl
 |str _=>obtain⟨t,rfl⟩:=r;rfl
 |byt _=>obtain⟨t,rfl⟩:=r;rfl
 |flt _=>obtain⟨t,rfl⟩:=r;rfl
 |ref _=>cases r;rfl
 |ty _=>cases r;rfl
theorem zR {j pos'}(ha:PE X a ta):PC X .Is a (.Constant .none j pos') (qn4 ta):=by
 intro pins s σ H Q I h;refine thn (ha pins s σ H _ I h) fun v s1 ⟨x,H1,I1,r1,q1⟩=>?_;exact Constant_none (is_none_gen ⟨.bl _,H1,I1,by rw[r1.none_iff];rfl,q1⟩)
def tB (t:TE):TT:=fun σ H Q=>t σ H fun x H1=>∃c,x=.bl c/\Q c H1
theorem sM (h:PC X op a b t)(h1:behindInMarks op b=false:=by first | exact Nr _ (by decide) (by decide) | rfl):PT X (.Compare a [op] [b] pos) (tB t):=by
 intro pins s σ H Q I hw;refine wpAny_isTrue_Compare1 (thn (h pins s σ H _ I hw) fun v s1 h1=>thn h1 fun u s2 h2=>thn h2 fun c s3 ⟨x,H1,I1,r1,q1⟩=>?_) h1;obtain⟨d,rfl,q⟩:=q1
 cases r1
 exact wpAny_truthy_bool ⟨H1,I1,q⟩
theorem cO (h:PE X e t)(he:∀whole,isTrue e X.env whole=(do let v <- whole;standAt e.pos;holding [v] (truthy v)):=by intro _;rfl):PT X e (tB t):=by
 intro pins s σ H Q I hw;refine isTrue_plain (thn (h pins s σ H _ I hw) fun v s1 ⟨x,H1,I1,r1,q1⟩=>?_) (he _);obtain⟨d,rfl,q⟩:=q1
 cases r1
 exact wpAny_truthy_bool ⟨H1,I1,q⟩
variable {tA tB':TT} {rest:List Expr}
def qm8 (t u:TT):TT:=fun σ H Q=>t σ H fun c H1=>if c=true then u σ H1 Q else Q false H1
def tOr (t u:TT):TT:=fun σ H Q=>t σ H fun c H1=>if c=true then Q true H1 else u σ H1 Q
def qn6 (t:TT):TT:=fun σ H Q=>t σ H fun c H1=>Q (!c) H1
theorem nY (ha:PT X a tA):PW X (.BoolOp .And [a] pos) tA:=by
 intro wh pins s σ H Q I h;refine isTrue_and (thn (ha pins s σ H Q I h) fun c s1 e=>?_)
 cases c with
 |true=>exact isTrue_and_nil e
 |false=>exact e
theorem iC (ha:PT X a tA):PW X (.BoolOp .Or [a] pos) tA:=by
 intro wh pins s σ H Q I h;refine isTrue_or (thn (ha pins s σ H Q I h) fun c s1 e=>?_)
 cases c with
 |false=>exact isTrue_or_nil e
 |true=>exact e
theorem rC (ha:PT X a tA)(hb:PW X (.BoolOp .And (b :: rest) pos) tB'):PW X (.BoolOp .And (a :: b :: rest) pos) (qm8 tA tB'):=by
 intro wh pins s σ H Q I h;refine isTrue_and (thn (ha pins s σ H _ I h) fun c s1 ⟨H1,I1,q1⟩=>?_)
 cases c with
 |true=>exact hb wh pins s1 σ H1 Q I1 q1
 |false=>exact⟨H1,I1,q1⟩
theorem iB (ha:PT X a tA)(hb:PW X (.BoolOp .Or (b :: rest) pos) tB'):PW X (.BoolOp .Or (a :: b :: rest) pos) (tOr tA tB'):=by
 intro wh pins s σ H Q I h;refine isTrue_or (thn (ha pins s σ H _ I h) fun c s1 ⟨H1,I1,q1⟩=>?_)
 cases c with
 |true=>exact⟨H1,I1,q1⟩
 |false=>exact hb wh pins s1 σ H1 Q I1 q1
theorem eJ (ha:PT X a tA):PT X (.UnaryOp .Not a pos) (qn6 tA):=by
 intro pins s σ H Q I h;exact isTrue_not (ha pins s σ H (fun c H1=>Q (!c) H1) I h)
def qi6 (ta tb:TE):TE:=fun σ H Q=>ta σ H fun x H1=>∃c,x=.bl c/\if c=true then tb σ H1 Q else Q (.bl false) H1
def qj8 (ta:TE):TE:=fun σ H Q=>ta σ H fun x H1=>∃c,x=.bl c/\Q (.bl (!c)) H1
theorem kA {op}(h:PE X a t):PE X (.BoolOp op [a] pos) t:=fun pins s σ H Q I hw=>BoolOp_one (h pins s σ H Q I hw)
theorem iV (ha:PE X a ta)(hb:PE X (.BoolOp .And (b :: rest) pos) tb):PE X (.BoolOp .And (a :: b :: rest) pos) (qi6 ta tb):=by
 intro pins s σ H Q I h;refine BoolOp_and (thn (ha pins s σ H _ I h) fun v s1 ⟨x,H1,I1,r1,q1⟩=>?_);obtain⟨c,rfl,q1⟩:=q1
 cases r1
 refine wpAny_truthy_bool ?_
 cases c with
 |true=>exact hb pins s1 σ H1 Q I1 q1
 |false=>exact⟨.bl false,H1,I1,rfl,q1⟩
theorem Rm (ha:PE X a ta):PE X (.UnaryOp .Not a pos) (qj8 ta):=by
 intro pins s σ H Q I h;refine UnaryOp_ (thn (ha pins s σ H _ I h) fun v s1 ⟨x,H1,I1,r1,q1⟩=>?_);obtain⟨c,rfl,q1⟩:=q1
 cases r1
 exact not_of (wpAny_truthy_bool ⟨.bl (!c),H1,I1,rfl,q1⟩)
def tIf (t:TT)(ta tb:TE):TE:=fun σ H Q=>t σ H fun c H1=>if c=true then ta σ H1 Q else tb σ H1 Q
theorem vO (hc:PT X c tA)(ha:PE X a ta)(hb:PE X b tb):PE X (.IfExp c a b pos) (tIf tA ta tb):=by
 intro pins s σ H Q I h;refine wpAny_IfExp (thn (hc pins s σ H _ I h) fun d s1 ⟨H1,I1,q1⟩=>?_)
 cases d with
 |true=>exact ha pins s1 σ H1 Q I1 q1
 |false=>exact hb pins s1 σ H1 Q I1 q1
end
def SqL (K:Frag)(H:Hp)(a:Addr)(xs:List V):Prop:=
 Rd H a (.lst xs)\/
  ∃(o:Obj) (its:Array Value) (n:Nat),K.lookup a=some o/\o.cls=.type "list"/\o.dict=none/\o.data=.seq its n/\its.size<=sizeLine/\bQ xs its.toList
def SqT (K:Frag)(H:Hp)(a:Addr)(xs:List V):Prop:=
 Rd H a (.tup xs)\/
  ∃(o:Obj) (its:Array Value) (n:Nat),K.lookup a=some o/\o.cls=.type "tuple"/\o.data=.seq its n/\its.size<=sizeLine/\bQ xs its.toList
def qm3:Value->Option V
 | .none=>some .non
 | .bool b=>some (.bl b)
 | .int i _=>some (.int i)
 | .str x _=>some (.str x)
 | .bytes b _=>some (.byt b)
 | .float b _=>some (.flt b)
 | .ref a=>some (.ref a)
 | .type n=>some (.ty n)
 |_=>none
theorem cA.abs (r:cA x u):qm3 u=some x:=by
 cases x with
 |non=>cases r;rfl
 |bl _=>cases r;rfl
 |int _=>obtain⟨t,rfl⟩:=r;rfl
 |str _=>obtain⟨t,rfl⟩:=r;rfl
 |byt _=>obtain⟨t,rfl⟩:=r;rfl
 |flt _=>obtain⟨t,rfl⟩:=r;rfl
 |ref _=>cases r;rfl
 |ty _=>cases r;rfl
theorem cA.inj (r:cA x u)(q:cA y u):x=y:=Option.some.inj (r.abs.symm.trans q.abs)
theorem bQ.inj:∀{xs ys:List V} {us:List Value},bQ xs us->bQ ys us->xs=ys
 |_,_,_,.nil,.nil=>rfl
 |_,_,_,.cons r t,.cons r' t'=>by rw[r.inj r',bQ.inj t t']
section
variable {X:Cx} {pins:List (Addr × Obj)} {σ:St} {H:Hp} {s:Shared} {a:Addr} {xs ys:List V}
theorem SqL.of {K:Frag}(h:H a=some (.lst xs)):SqL K H a xs:=.inl (.inl h)
theorem SqT.of {K:Frag}(h:H a=some (.tup xs)):SqT K H a xs:=.inl (.inl h)
theorem Inv.list (I:Inv X pins σ H s)(h:SqL X.K H a xs):∃its:List Value,bQ xs its/\PlainL s.heap a its.toArray/\xs.length<=sizeLine:=by
 rcases h with h | ⟨o,its,n,hk,hc,hd,hs,hz,r⟩
 ·obtain⟨z,its,n,r,e⟩:=h.ok I.hok;exact⟨its,r,⟨_,n,e,rfl,rfl,rfl⟩,z⟩
 ·refine⟨its.toList,r,⟨o,n,I.kIn a o hk,hc,hd,by simpa using hs⟩,?_⟩;have e:=r.length;simp only[Array.length_toList] at e;lia
theorem Inv.tuple (I:Inv X pins σ H s)(h:SqT X.K H a xs):∃its:List Value,bQ xs its/\IsTup s.heap a its.toArray/\xs.length<=sizeLine:=by
 rcases h with h | ⟨o,its,n,hk,hc,hs,hz,r⟩
 ·obtain⟨z,its,r,p⟩:=h.ok I.hok;exact⟨its,r,p,z⟩
 ·refine⟨its.toList,r,⟨o,I.kIn a o hk,hc,n,by simpa using hs⟩,?_⟩;have e:=r.length;simp only[Array.length_toList] at e;lia
theorem Inv.list_inj (I:Inv X pins σ H s)(h:SqL X.K H a xs)(h':SqL X.K H a ys):xs=ys:=by
 obtain⟨its,r,⟨o,n,e,_,_,d⟩,_⟩:=I.list h;obtain⟨its',r',⟨o',n',e',_,_,d'⟩,_⟩:=I.list h';rw[e] at e';cases e';rw[d] at d';injection d' with d1 _
 have:its=its':=by simpa using congrArg Array.toList d1
 subst this;exact r.inj r'
theorem Inv.tuple_inj (I:Inv X pins σ H s)(h:SqT X.K H a xs)(h':SqT X.K H a ys):xs=ys:=by
 obtain⟨its,r,⟨o,e,_,n,d⟩,_⟩:=I.tuple h;obtain⟨its',r',⟨o',e',_,n',d'⟩,_⟩:=I.tuple h';rw[e] at e';cases e';rw[d] at d';injection d' with d1 _
 have:its=its':=by simpa using congrArg Array.toList d1
 subst this;exact r.inj r'
end
abbrev Cx.wish (X:Cx)(E:Value->Shared->Prop):Cx:={ X with xe:=E }
abbrev Cx.nox (X:Cx):Cx:=X.wish fun _ _=>False
theorem Cx.Ok.wish {X:Cx}(ok:X.Ok)(E:Value->Shared->Prop):(X.wish E).Ok:=
 ⟨ok.mod,ok.kind,ok.glob,ok.blt,ok.above,ok.inj,ok.has,ok.cab,ok.hd,ok.frames,ok.stk,ok.exf,ok.bs,ok.bsz,ok.noex,ok.exfs,ok.funs,ok.frf⟩
theorem Cx.Ok.unwish {X:Cx}(ok:(X.wish E).Ok):X.Ok:=
 ⟨ok.mod,ok.kind,ok.glob,ok.blt,ok.above,ok.inj,ok.has,ok.cab,ok.hd,ok.frames,ok.stk,ok.exf,ok.bs,ok.bsz,ok.noex,ok.exfs,ok.funs,ok.frf⟩
section
variable {X:Cx} {pins:List (Addr × Obj)} {σ:St} {H:Hp} {s:Shared} {E:Value->Shared->Prop}
theorem Inv.wish (I:Inv X pins σ H s)(E:Value->Shared->Prop):Inv (X.wish E) pins σ H s:=⟨I.ok.wish E,I.os,I.bare,I.base,I.loc,I.cell,I.free,I.freeC,I.pin,I.hok,I.len⟩
theorem Inv.unwish (I:Inv (X.wish E) pins σ H s):Inv X pins σ H s:=⟨I.ok.unwish,I.os,I.bare,I.base,I.loc,I.cell,I.free,I.freeC,I.pin,I.hok,I.len⟩
theorem SP.unwish (h:SP (X.wish E) pins D f s'):SP X pins D f s':=by
 cases f with
 |next=>obtain⟨σ',H',I,q⟩:=h;exact⟨σ',H',I.unwish,q⟩
 |brk=>obtain⟨σ',H',I,q⟩:=h;exact⟨σ',H',I.unwish,q⟩
 |cont=>obtain⟨σ',H',I,q⟩:=h;exact⟨σ',H',I.unwish,q⟩
 |ret u=>obtain⟨v,σ',H',I,r,q⟩:=h;exact⟨v,σ',H',I.unwish,r,q⟩
theorem PSs.nox {st:List Stmt}(h:PSs X.nox st t):PSs X st t:=fun pins s σ H D I hw=>
 wpAny_mono (h pins s σ H D (I.wish _) hw) (fun _ _ q=>q.unwish) fun _ _ z=>False.elim z
end
section
variable {X:Cx} {st:Stmt} {rest:List Stmt} {t u:TS} {e:Expr} {te:TE} {pos:Pos}
def qk2:TS:=fun D σ H=>D.nx σ H
def gJ (t u:TS):TS:=fun D σ H=>t { D with nx:=u D } σ H
theorem bM:PSs X [] qk2:=fun _ _ σ H _ I h=>wpAny_execs_nil ⟨σ,H,I,h⟩
theorem aC (h1:PS X st t)(h2:PSs X rest u):PSs X (st :: rest) (gJ t u):=by
 intro pins s σ H D I h;refine wpAny_execs_cons (thn (h1 pins s σ H { D with nx:=u D } I h) fun f s1 q=>?_)
 cases f with
 |next=>
  obtain⟨σ',H',I',q⟩:=q;exact h2 pins s1 σ' H' D I' q
 |ret v=>exact q
 |brk=>exact q
 |cont=>exact q
theorem aF (h1:PS X st t):PSs X [st] t:=by
 intro pins s σ H D I h;refine wpAny_execs_cons (thn (h1 pins s σ H D I h) fun f s1 q=>?_)
 cases f with
 |next=>exact wpAny_execs_nil q
 |ret v=>exact q
 |brk=>exact q
 |cont=>exact q
def qh9:TS:=fun D σ H=>D.ct σ H
theorem De:PS X (.Continue pos) qh9:=fun _ _ σ H _ I h=>wpAny_Continue ⟨σ,H,I,h⟩
theorem Inv.quiet (I:Inv X pins σ H s):interactive X.env=false:=by simp[interactive,I.ok.kind]
def qj0 (te:TE):TS:=fun D σ H=>te σ H fun _ H1=>D.nx σ H1
theorem bX (he:PE X e te)(hs:swapsWith e none pos.line X.env=pure false:=by rfl):PS X (.Expr e pos) (qj0 te):=by
 intro pins s σ H D I h;exact wpAny_Expr_any (thn (he pins s σ H _ I h) fun v s1 ⟨x,H1,I1,r1,q1⟩=>⟨σ,H1,I1,q1⟩) I.quiet hs
def qn7 (te:TE):TS:=fun D σ H=>te σ H D.rt
theorem aV (he:PE X e te):PS X (.Return (some e) pos) (qn7 te):=by
 intro pins s σ H D I h;exact wpAny_Return_some (thn (he pins s σ H _ I h) fun v s1 ⟨x,H1,I1,r1,q1⟩=>⟨x,σ,H1,I1,r1,q1⟩)
def qm9 (c:TT)(t u:TS):TS:=fun D σ H=>c σ H fun b H1=>if b=true then t D σ H1 else u D σ H1
theorem cH (hc:PT X c tc)(ha:PSs X a t)(hb:PSs X b u):PS X (.If c a b pos) (qm9 tc t u):=by
 intro pins s σ H D I h;refine wpAny_If (thn (hc pins s σ H _ I h) fun d s1 ⟨H1,I1,q1⟩=>?_)
 cases d with
 |true=>exact ha pins s1 σ H1 D I1 q1
 |false=>exact hb pins s1 σ H1 D I1 q1
def Pu:TS:=fun _ _ _=>False
theorem jK:PS X st Pu:=fun _ _ _ _ _ _ h=>h.elim
theorem Ml:PSs X sts Pu:=fun _ _ _ _ _ _ h=>h.elim
end
abbrev TG:=V->St->Hp->(St->Hp->Prop)->Prop
abbrev TGs:=List V->St->Hp->(St->Hp->Prop)->Prop
def PG (X:Cx)(target:Expr)(t:TG):Prop:=
 ∀(pins:List (Addr × Obj)) (s:Shared) (σ:St) (H:Hp) (v:V) (u:Value) (Q:St->Hp->Prop),Inv X pins σ H s->cA v u->t v σ H Q->
  wpAny (model X.prog X.w) X.A (assign target X.env u) (fun _ s'=>∃σ' H',Inv X pins σ' H' s'/\Q σ' H') X.xe s
def PGs (X:Cx)(ts:List Expr)(t:TGs):Prop:=
 ∀(pins:List (Addr × Obj)) (s:Shared) (σ:St) (H:Hp) (vs:List V) (us:List Value) (Q:St->Hp->Prop),Inv X pins σ H s->bQ vs us->t vs σ H Q->
  wpAny (model X.prog X.w) X.A (assignInOrder ((assignEach ts X.env).map (·.2)) us) (fun _ s'=>∃σ' H',Inv X pins σ' H' s'/\Q σ' H') X.xe s
abbrev qd6:=V->V->V->Hp->(Hp->Prop)->Prop
def ql3 (X:Cx)(t:qd6):Prop:=
 ∀(pins:List (Addr × Obj)) (s:Shared) (σ:St) (H:Hp) (o i v:V) (ov iv u:Value) (Q:Hp->Prop),Inv X pins σ H s->cA o ov->cA i iv->cA v u->t o i v H Q->
  wpAny (model X.prog X.w) X.A (setItem ov iv u) (fun _ s'=>∃H',Inv X pins σ H' s'/\Q H') X.xe s
abbrev TIp:=V->V->Hp->VK->Prop
def PIp (X:Cx)(op:Operator)(t:TIp):Prop:=
 ∀(pins:List (Addr × Obj)) (s:Shared) (σ:St) (H:Hp) (x y:V) (v u:Value) (Q:VK),Inv X pins σ H s->cA x v->cA y u->t x y H Q->
  wpAny (model X.prog X.w) X.A (inplaceOp op v u) (EP X pins σ Q) X.xe s
section
variable {X:Cx} {pos:Pos}
def iN (i:Nat):TG:=fun v σ H Q=>Q (σ.set i (some v)) H
theorem bH (hN:X.N.Nodup)(hi:X.N[i]?=some x)(hx:Loc X.env.scope x)(hf:X.fn x=true\/X.env.scope.names.lookup x=some .local:=by first | exact .inl rfl | exact .inr rfl | assumption):PG X (.Name x pos) (iN i):=by
 intro pins s σ H v u Q I r h;exact wpAny_assign_Name (kI I hN hi hx r (fun s' I'=>⟨_,H,I',h⟩) hf)
def Dz:TGs:=fun vs σ H Q=>vs=[]/\Q σ H
def jR (t:TG)(u:TGs):TGs:=fun vs σ H Q=>∃v r,vs=v :: r/\t v σ H fun σ' H'=>u r σ' H' Q
theorem jU:PGs X [] Dz:=by
 intro pins s σ H vs us Q I r h;obtain⟨e,h⟩:=h;subst e
 cases r
 exact assignInOrder_nil ⟨σ,H,I,h⟩
theorem dH (h1:PG X e t)(h2:PGs X es u)(hs:(assignEach (e :: es) X.env).map (·.2)=assign e X.env :: (assignEach es X.env).map (·.2):=by rfl):PGs X (e :: es) (jR t u):=by
 intro pins s σ H vs us Q I r h;obtain⟨v,vr,e1,h⟩:=h;subst e1
 cases r with
 |cons r rr=>
  rw[hs];refine assignInOrder_cons (thn (h1 pins s σ H _ _ _ I r h) fun _ s1 ⟨σ1,H1,I1,q1⟩=>?_);exact h2 pins s1 σ1 H1 _ _ Q I1 rr q1
def Ce (K:Frag)(n:Nat)(t:TGs):TG:=fun v σ H Q=>∃a xs,v=.ref a/\SqT K H a xs/\xs.length=n/\t xs σ H Q
theorem mB (hc:X.calm=true)(h:PGs X es t)(hn:(assignEach es X.env).length=n:=by rfl)(hst:(assignEach es X.env).findIdx? (·.1)=none:=by rfl):PG X (.Tuple es k pos) (Ce X.K n t):=by
 intro pins s σ H v u Q I r hw;obtain⟨a,xs,e1,hq,hl,hw⟩:=hw;subst e1
 cases r
 obtain⟨its,rv,ht,hz⟩:=I.tuple hq;refine assign_Tuple_tuple (I.ok.hd hc) ht (by simp[hn,<- hl,rv.length]) hst fun h' hx=>?_;have I1:Inv X pins σ H { s with heap:=h' }:=I.kept (t':=s.toks) fun b o e=>hx b o (Nat.ne_of_lt (Heap.lt_size e)) e;exact h pins _ σ H xs _ Q I1 (by simpa using rv) hw
def qm0 (to ti:TE)(t:qd6):TG:=fun v σ H Q=>to σ H fun o H1=>ti σ H1 fun i H2=>t o i v H2 fun H3=>Q σ H3
theorem zV (ho:PE X o to)(hi:PE X i ti)(hs:ql3 X t)(ha:∀v,assign (.Subscript o i pos) X.env v=(do
   let ov <- holding [v] (eval o X.env)
   let iv <- holding [v,ov] (eval i X.env)
   standAt pos
   holding [v,ov,iv] (setItem ov iv v)
   release [v,ov,iv] []):=by intro _;rfl):PG X (.Subscript o i pos) (qm0 to ti t):=by
 intro pins s σ H v u Q I r h;rw[ha];refine wpAny_bind (wpAny_holding (thn (ho pins s σ H _ I h) fun ov s1 ⟨x,H1,I1,r1,q1⟩=>?_));refine wpAny_bind (wpAny_holding (thn (hi pins s1 σ H1 _ I1 q1) fun iv s2 ⟨y,H2,I2,r2,q2⟩=>?_));refine wpAny_bind (wpAny_standAt (wpAny_bind (wpAny_holding (thn (hs pins s2 σ H2 x y v ov iv u _ I2 r1 r2 r q2) fun _ s3 ⟨H3,I3,q3⟩=>?_))));exact wpAny_release ⟨σ,H3,I3,q3⟩
def Zq (te:TE)(g:TG):TS:=fun D σ H=>te σ H fun x H1=>g x σ H1 D.nx
theorem Ah (he:PE X e te)(hg:PG X tg g)(hs:swapsWithSole [tg] e pos.line X.env=pure false:=by rfl)(hw:swappedStores [tg] e X.env=pure none:=by rfl)(h1:(assignEach [tg] X.env).map (·.2)=[assign tg X.env]:=by rfl):PS X (.Assign [tg] e pos) (Zq te g):=by
 intro pins s σ H D I h;refine wpAny_Assign_stores (thn (he pins s σ H _ I h) fun v s1 ⟨x,H1,I1,r1,q1⟩=>?_) hs hw;rw[h1];exact thn (hg pins s1 σ H1 x v _ I1 r1 q1) fun _ s2 q=>q
theorem aS (hN:X.N.Nodup)(hi:X.N[i]?=some x)(hx:Loc X.env.scope x)(he:PE X e te)(hs:swapsWith e (some (.Name x pos')) pos.line X.env=pure false:=by rfl)(hf:X.fn x=true\/X.env.scope.names.lookup x=some .local:=by first | exact .inl rfl | exact .inr rfl | assumption):
  PS X (.Assign [.Name x pos'] e pos) (Zq te (iN i)):=by
 intro pins s σ H D I h;refine wpAny_Assign_Name (thn (he pins s σ H _ I h) fun v s1 ⟨y,H1,I1,r1,q1⟩=>?_) hs;exact kI I1 hN hi hx r1 (fun s2 I2=>⟨_,H1,I2,q1⟩) hf
def qp5 (i j:Nat)(ta:TA):TS:=fun D σ H=>ta σ H fun vs H1=>∃v w,vs=[v,w]/\D.nx ((σ.set i (some v)).set j (some w)) H1
theorem qa5 {kt k2 pt2}(hc:X.calm=true)(hN:X.N.Nodup)(hi:X.N[i]?=some x)(hj:X.N[j]?=some y)(hij:i≠j)(hx:X.env.scope.names.lookup x=some .local)(hy:X.env.scope.names.lookup y=some .local)(ha:PA X [a,b] ta)(hw:swappedStores [.Tuple [.Name x px,.Name y py] kt pt] (.Tuple [a,b] k2 pt2) X.env=pure (some [x,y]))(hs:swapsWithSole [.Tuple [.Name x px,.Name y py] kt pt] (.Tuple [a,b] k2 pt2) pos.line X.env=pure false:=by rfl):
  PS X (.Assign [.Tuple [.Name x px,.Name y py] kt pt] (.Tuple [a,b] k2 pt2) pos) (qp5 i j ta):=by
 intro pins s σ H D I h;rw[exec_Assign_arm];refine wpAny_bind (wpAny_standAt ?_);rw[hs];refine wpAny_bind (wpAny_pure ?_);rw[if_neg (by decide)];refine wpAny_bind (Tuple_ (thn (ha _ pins s σ H _ I h) fun us s1 ⟨vs,H1,I1,r1,q1⟩=>?_));obtain⟨v,w,e1,q1⟩:=q1;subst e1;obtain⟨u1,u2,rfl,rv,rw'⟩:∃u1 u2,us=[u1,u2]/\cA v u1/\cA w u2:=by
  cases r1 with
  |cons p q=>
   cases q with
   |cons p' q'=>
    cases q'
    exact⟨_,_,rfl,p,p'⟩
 refine wpAny_newObj_type ?_ (by show 2<=sizeLine;decide);have I2:Inv X pins σ H1 { s1 with heap:=s1.heap.push { cls:=.type "tuple",data:=.seq [u1,u2].toArray } }:=I1.kept (t':=s1.toks) fun b o e=>Heap.get?_push_of_some _ e;rw[hw];refine wpAny_bind (wpAny_pure ?_);show wpAny (model X.prog X.w) X.A (do rule "assign.swapped-stores";let items <- unpackItems (.ref s1.heap.objs.size) 2 none;assignInOrder [fun v=>bindName X.env y v,fun v=>bindName X.env x v] items.reverse;pure Flow.next) _ _ _;refine wpAny_bind (wpAny_rule (wpAny_bind (unpackItems_tuple (items:=#[u1,u2]) (I.ok.hd hc) (IsTup.new s1.heap _) fun h' hx'=>?_)));have I3:=I2.kept (h':=h') (t':=s1.toks) fun b o e=>hx' b o (Nat.ne_of_lt (Heap.lt_size e)) e;show wpAny _ _ (assignInOrder [fun v=>bindName X.env y v,fun v=>bindName X.env x v] [u2,u1] >>= fun _=>pure Flow.next) _ _ _;refine wpAny_bind (assignInOrder_cons (wpAny_bindName (kI I3 hN hj (.inl hy) rw' (fun s2 I4=>?_) (.inr hy))));refine assignInOrder_cons (wpAny_bindName (kI I4 hN hi (.inl hx) rv (fun s3 I5=>assignInOrder_nil (wpAny_pure ?_)) (.inr hx)));rw[set_comm _ _ (Ne.symm hij)] at I5;exact⟨_,H1,I5,q1⟩
def qm4 (i:Nat)(te:TE)(ti:TIp):TS:=fun D σ H=>∃x,σ[i]?=some (some x)/\te σ H fun y H1=>ti x y H1 fun z H2=>D.nx (σ.set i (some z)) H2
theorem Fh (hN:X.N.Nodup)(hi:X.N[i]?=some x)(hx:Loc X.env.scope x)(he:PE X e te)(ho:PIp X op ti)(hf:X.fn x=true\/X.env.scope.names.lookup x=some .local:=by first | exact .inl rfl | exact .inr rfl | assumption):
  PS X (.AugAssign (.Name x pos') op e pos) (qm4 i te ti):=by
 intro pins s σ H D I h;obtain⟨v,e1,h⟩:=h;obtain⟨m,hn,hl⟩:=I.loc;have vis:Vis X.env.scope x:=by rcases hx with k | k;exact .inl k;exact .inr (.inl k)
 obtain⟨u,r,l⟩:=hl i x v hi e1 vis;refine wpAny_AugAssign_Name ?_;have go:wpAny (model X.prog X.w) X.A (eval e X.env) (fun w s₂=>wpAny (model X.prog X.w) X.A (inplaceOp op u w) (fun r s₃=>wpAny (model X.prog X.w) X.A (storeName X.env x r) (fun _=>SP X pins D .next) X.xe s₃) X.xe s₂) X.xe s:=by
  refine thn (he pins s σ H _ I h) fun w s1 ⟨y,H1,I1,r1,q1⟩=>?_;refine thn (ho pins s1 σ H1 v y u w _ I1 r r1 q1) fun z s2 ⟨zv,H2,I2,r2,q2⟩=>?_;exact kI I2 hN hi hx r2 (fun s3 I3=>⟨_,H2,I3,q2⟩) hf
 rcases l with ⟨hk,hm⟩ | ⟨hk,c,hc,hcell⟩
 ·exact wpAny_loadName_local I.ok.kind hk hn hm go
 ·rcases hk with hk | hk
  ·exact wpAny_loadName_cell I.ok.kind hk hc hcell go
  ·rcases hx with k | k
   ·have:X.env.scope.names.lookup x=some .free:=hk;rw[k] at this;cases this
   ·have:X.env.scope.names.lookup x=some .free:=hk;rw[k] at this;cases this
def ipI (f:Int->Int->Int):TIp:=fun x y H Q=>∃i j,x=.int i/\y=.int j/\Q (.int (f i j)) H
theorem Ft:PIp X .Add (ipI fun i j=>i+j):=by
 intro pins s σ H x y v u Q I r1 r2 h;obtain⟨i,j,e1,e2,q⟩:=h;subst e1;subst e2;obtain⟨t,rfl⟩:=r1;obtain⟨t',rfl⟩:=r2;exact iadd_int ⟨.int _,H,I.tok _,⟨_,rfl⟩,q⟩
def Nm (c:TT)(tb:TS):TS:=fun D σ H=>∃W:Nat->St->Hp->Prop,(∃m,W m σ H)/\∀m σ H,W m σ H->
 c σ H fun b H1=>if b=true then ∃N:St->Hp->Prop,(∀σ' H',N σ' H'->∃m',m' < m/\W m' σ' H')/\tb { D with nx:=N,ct:=N,bk:=D.nx } σ H1 else D.nx σ H1
theorem uT (hp:PassesOwn (model X.prog X.w) X.A X.env X.xe)(hc:PT X c tc)(hb:PSs X body tb):PS X (.While c body [] pos) (Nm tc tb):=by
 intro pins s σ H D I h;obtain⟨W,⟨m0,w0⟩,turn⟩:=h;refine wpAny_While (codeAny_whileLoop (fun n s'=>∃σ' H',Inv X pins σ' H' s'/\W n σ' H') ?_ m0 ⟨σ,H,I,w0⟩);rintro n s1 ⟨σ1,H1,I1,w1⟩;refine wpAny_passesOwn hp (thn (hc pins s1 σ1 H1 _ I1 (turn n σ1 H1 w1)) fun b s2 ⟨H2,I2,q2⟩=>?_)
 cases b with
 |true=>
  obtain⟨N,hN,q2⟩:=q2;rw[if_pos rfl];refine wpAny_passesOwn hp (thn (hb pins s2 σ1 H2 _ I2 q2) fun f s3 q3=>?_)
  cases f with
  |next=>
   obtain⟨σ3,H3,I3,n3⟩:=q3;obtain⟨m',hm,w3⟩:=hN σ3 H3 n3;exact⟨m',hm,σ3,H3,I3,w3⟩
  |cont=>
   obtain⟨σ3,H3,I3,n3⟩:=q3;obtain⟨m',hm,w3⟩:=hN σ3 H3 n3;exact⟨m',hm,σ3,H3,I3,w3⟩
  |brk=>exact q3
  |ret v=>exact q3
 |false=>
  rw[if_neg Bool.false_ne_true];exact wpAny_execs_nil ⟨σ1,H2,I2,q2⟩
end
structure It where
 go:Nat->Hp->Prop
 yld:Nat->Hp->V->Hp->Prop
 stop:Nat->Hp->Prop
def oB (X:Cx)(pins:List (Addr × Obj))(H:Hp)(b:Addr):Prop:=
 H b=none/\b≠X.env.locals/\b∉X.fs/\(b∈X.ex\/X.s₀.heap.objs.size<=b)/\(∀x c,X.env.cells.lookup x=some c->c≠b)/\∀p∈X.pn++pins,p.1≠b
theorem Inv.fpOk (I:Inv X pins σ H s)(hb:s.heap.objs.size<=b)(hn:H' b=none):oB X pins H' b:=by
 refine⟨hn,Nat.ne_of_gt (Nat.lt_of_lt_of_le I.lt hb),I.nofs hb,.inr (Nat.le_trans I.sz hb),fun x c e z=>?_,fun p hp z=>?_⟩
 ·obtain⟨v,q⟩:=I.cell x c e;exact absurd (Nat.lt_of_lt_of_le q.lt (by rw[z];exact hb)) (Nat.lt_irrefl _)
 ·exact absurd (Nat.lt_of_lt_of_le (Heap.lt_size (I.pin p hp).1) (by rw[z];exact hb)) (Nat.lt_irrefl _)
structure Li (P:Program) (w:World) (K:Frag) (tg:Expr) (J:It) (fp:List Addr) (it:Addr) (tn:Nat->Heap->Prop):Prop where
 mem:it∈fp
 obj:∀i h,tn i h->∀b∈fp,∃o,h.get? b=some o/\∀v,o.data≠.cell v
 keep:∀i h h',tn i h->(∀b∈fp,∀o,h.get? b=some o->h'.get? b=some o)->tn i h'
 item:∀(X:Cx),X.prog=P->X.w=w->X.K=K->X.calm=true->∀(i:Nat) (pins:List (Addr × Obj)) (s:Shared) (σ:St) (H:Hp) (E:Value->Shared->Prop),Inv X pins σ H s->(∀b∈fp,oB X pins H b)->tn i s.heap->J.go i H->
  wpAny (model P w) X.A (pyNext (.ref it)) (fun r s1=>∃u,r=some u/\
   wpAny (model P w) X.A (letOwnedTupleGo tg (.ref it) u) (fun _ s2=>∃x H',Inv X pins σ H' s2/\cA x u/\J.yld i H x H'/\tn (i+1) s2.heap/\∀b∈fp,H' b=none) E s1) E s
 done:∀(X:Cx),X.prog=P->X.w=w->X.K=K->X.calm=true->∀(i:Nat) (pins:List (Addr × Obj)) (s:Shared) (σ:St) (H:Hp) (E:Value->Shared->Prop),Inv X pins σ H s->(∀b∈fp,oB X pins H b)->tn i s.heap->J.stop i H->
  wpAny (model P w) X.A (pyNext (.ref it)) (fun r s1=>r=none/\Inv X pins σ H s1) E s
 self:∀(A:Around) (i:Nat) (s:Shared) (Q:Value->Shared->Prop) (E:Value->Shared->Prop),tn i s.heap->Q (.ref it) s->wpAny (model P w) A (pyIter (.ref it)) Q E s
abbrev TI:=St->Hp->(It->Hp->Prop)->Prop
def PIE (X:Cx)(pins:List (Addr × Obj))(σ:St)(tg:Expr)(R:It->Hp->Prop)(itv:Value)(s2:Shared):Prop:=
 ∃(it:Addr) (fp:List Addr) (tn:Nat->Heap->Prop) (J:It) (H':Hp),itv=.ref it/\Inv X pins σ H' s2/\Li X.prog X.w X.K tg J fp it tn/\tn 0 s2.heap/\(∀b∈fp,oB X pins H' b)/\R J H'
def PI (X:Cx)(tg iter:Expr)(wi:TI):Prop:=
 ∀(pins:List (Addr × Obj)) (s:Shared) (σ:St) (H:Hp) (R:It->Hp->Prop),Inv X pins σ H s->wi σ H R->
  wpAny (model X.prog X.w) X.A (eval iter X.env) (fun v s1=>wpAny (model X.prog X.w) X.A (pyIter v) (PIE X pins σ tg R) X.xe s1) X.xe s
theorem Sl (ho : s.heap.get? it = some o)(hc : o.cls = .type n)(hd : o.data = .fields vs)(hn : ["enumerate", "zip", "dict_itemiterator", "dict_reverseitemiterator", "odict_iterator", "itertools.zip_longest", "itertools.pairwise"].contains n = false)(hQ : Q () s): wpAny M A (letOwnedTupleGo tg (.ref it) u) Q E s := by
  unfold letOwnedTupleGo
  cases tg <;> first
    | exact wpAny_pure hQ
    | (cases u <;> first
        | exact wpAny_pure hQ
        | (refine wpAny_bind (wpAny_load ho ?_)
           rw [hc, hd];show wpAny M A (if (["enumerate", "zip", "dict_itemiterator", "dict_reverseitemiterator", "odict_iterator", "itertools.zip_longest", "itertools.pairwise"].contains n && vs[0]? == some (rawInt _)) = true then _ else _) Q E s;rw [if_neg (by intro h; rw [hn, Bool.false_and] at h; cases h)];exact wpAny_pure hQ))
def Itl (K:Frag)(a:Addr):It:=
 ⟨fun i H=>∃xs x,SqL K H a xs/\xs[i]?=some x,fun i H x H'=>H'=H/\∀xs,SqL K H a xs->xs[i]?=some x,fun i H=>∃xs,SqL K H a xs/\xs.length<=i⟩
def Itt (K:Frag)(a:Addr):It:=
 ⟨fun i H=>∃xs x,SqT K H a xs/\xs[i]?=some x,fun i H x H'=>H'=H/\∀xs,SqT K H a xs->xs[i]?=some x,fun i H=>∃xs,SqT K H a xs/\xs.length<=i⟩
def Itr (lo:Int)(n:Nat):It:=⟨fun i _=>i < n,fun i H x H'=>H'=H/\x=.int (lo+i),fun i _=>n<=i⟩
theorem Mj {P:Program}{w:World}{K:Frag}{tg:Expr}(a it:Addr):Li P w K tg (Itl K a) [it] it (fun i h=>h.IsListIter it a i) where
 mem:=by simp
 obj:=fun i h st b hb=>by
  have e:b=it:=by simpa using hb
  subst e;obtain⟨o,e,c,d⟩:=st;exact⟨o,e,fun v z=>by rw[d] at z;cases z⟩
 keep:=fun i h h' st k=>st.at fun o e=>k it (by simp) o e
 item:=by
  intro X hP hw hK hc i pins s σ H E I hf st hg;subst hP hw hK;obtain⟨xs,x,hq,hx⟩:=hg;obtain⟨its,rv,p,hz⟩:=I.list hq;obtain⟨u,hu,ru⟩:=rv.get hx;obtain⟨f0,f1,f2,f3,f4,f5⟩:=hf it (by simp);refine wpAny_pyNext_list_item st p.isList (x:=u) (by simpa using hu) fun h' st' sb=>?_;have I1:Inv X pins σ H { s with heap:=h' }:=I.turned (t':=s.toks) (fun b o hb e=>(sb.2 b hb).trans e) f0 f1 f3 f4 f5;obtain⟨o,e,c,d⟩:=id st';exact⟨u,rfl,Sl (s:={ s with heap:=h' }) e c d (by decide) ⟨x,H,I1,ru,⟨rfl,fun ys hy=>by rw[I.list_inj hy hq];exact hx⟩,st',fun b hb=>(hf b hb).1⟩⟩
 done:=by
  intro X hP hw hK hc i pins s σ H E I hf st hg;subst hP hw hK;obtain⟨xs,hq,hx⟩:=hg;obtain⟨its,rv,p,hz⟩:=I.list hq;obtain⟨f0,f1,f2,f3,f4,f5⟩:=hf it (by simp);have hl:=rv.length;exact wpAny_pyNext_list_end (I.ok.hd hc) st p.isList (by simp;lia) fun h' eb=>⟨rfl,I.turned (t':=s.toks) (fun b o hb e=>eb b o hb e) f0 f1 f3 f4 f5⟩
 self:=fun _ _ _ _ _ st h=>wpAny_pyIter_listiter st h
theorem Gm {P:Program}{w:World}{K:Frag}{tg:Expr}(a it:Addr):Li P w K tg (Itt K a) [it] it (fun i h=>h.IsTupleIter it a i) where
 mem:=by simp
 obj:=fun i h st b hb=>by
  have e:b=it:=by simpa using hb
  subst e;obtain⟨o,e,c,d⟩:=st;exact⟨o,e,fun v z=>by rw[d] at z;cases z⟩
 keep:=fun i h h' st k=>st.at fun o e=>k it (by simp) o e
 item:=by
  intro X hP hw hK hc i pins s σ H E I hf st hg;subst hP hw hK;obtain⟨xs,x,hq,hx⟩:=hg;obtain⟨its,rv,p,hz⟩:=I.tuple hq;obtain⟨u,hu,ru⟩:=rv.get hx;obtain⟨f0,f1,f2,f3,f4,f5⟩:=hf it (by simp);refine wpAny_pyNext_tuple_item st (show s.heap.IsTuple a its.toArray from p) (x:=u) (by simpa using hu) fun h' st' sb=>?_;have I1:Inv X pins σ H { s with heap:=h' }:=I.turned (t':=s.toks) (fun b o hb e=>(sb.2 b hb).trans e) f0 f1 f3 f4 f5;obtain⟨o,e,c,d⟩:=id st';exact⟨u,rfl,Sl (s:={ s with heap:=h' }) e c d (by decide) ⟨x,H,I1,ru,⟨rfl,fun ys hy=>by rw[I.tuple_inj hy hq];exact hx⟩,st',fun b hb=>(hf b hb).1⟩⟩
 done:=by
  intro X hP hw hK hc i pins s σ H E I hf st hg;subst hP hw hK;obtain⟨xs,hq,hx⟩:=hg;obtain⟨its,rv,p,hz⟩:=I.tuple hq;obtain⟨f0,f1,f2,f3,f4,f5⟩:=hf it (by simp);have hl:=rv.length;exact wpAny_pyNext_tuple_end (I.ok.hd hc) st (show s.heap.IsTuple a its.toArray from p) (by simp;lia) fun h' eb=>⟨rfl,I.turned (t':=s.toks) (fun b o hb e=>eb b o hb e) f0 f1 f3 f4 f5⟩
 self:=fun _ _ _ _ _ st h=>wpAny_pyIter_tupleiter st h
theorem Gn {P:Program}{w:World}{K:Frag}{tg:Expr}(it:Addr)(lo:Int)(n:Nat):Li P w K tg (Itr lo n) [it] it (fun i h=>IsRangeIter h it (lo+(i:Nat)*1) ((n:Int) - (i:Nat)) 1) where
 mem:=by simp
 obj:=fun i h st b hb=>by
  have e:b=it:=by simpa using hb
  subst e;exact⟨_,st,fun v z=>by
   have z':Data.fields _=Data.cell v:=z
   cases z'⟩
 keep:=fun i h h' st k=>k it (by simp) _ st
 item:=by
  intro X hP hw hK hc i pins s σ H E I hf st hg;subst hP hw hK;obtain⟨f0,f1,f2,f3,f4,f5⟩:=hf it (by simp);have W:=Walks.range (prog:=X.prog) (w:=X.w) (I.ok.hd hc) it lo 1 n;refine W.item i s _ _ hg st fun v h' tk hv st' kk=>?_;obtain⟨t,rfl⟩:=hv;have I1:Inv X pins σ H { s with heap:=h',toks:=tk }:=I.turned (fun b o hb e=>kk b o (by simpa using hb) e) f0 f1 f3 f4 f5;refine⟨_,rfl,Sl (s:={ s with heap:=h',toks:=tk }) (n:="range_iterator") st' rfl rfl (by decide) ⟨.int (lo+i),H,I1,⟨t,?_⟩,⟨rfl,rfl⟩,st',fun b hb=>(hf b hb).1⟩⟩;rw[Int.mul_one]
 done:=by
  intro X hP hw hK hc i pins s σ H E I hf st hg;subst hP hw hK;obtain⟨f0,f1,f2,f3,f4,f5⟩:=hf it (by simp);exact wpAny_pyNext_range_end (I.ok.hd hc) st (by have:n<=i:=hg;lia) fun h' eb=>⟨rfl,I.turned (t':=s.toks) (fun b o hb e=>eb b o hb e) f0 f1 f3 f4 f5⟩
 self:=fun _ _ _ _ _ st h=>wpAny_pyIter_rangeiter st h
section
variable {X:Cx} {tg:Expr}
def qj1 (K:Frag)(tl:TE):TI:=fun σ H R=>tl σ H fun x H1=>∃a,x=.ref a/\(∃xs,SqL K H1 a xs)/\R (Itl K a) H1
def qp3 (K:Frag)(tl:TE):TI:=fun σ H R=>tl σ H fun x H1=>∃a,x=.ref a/\(∃xs,SqT K H1 a xs)/\R (Itt K a) H1
theorem cZ (hl:PE X l tl):PI X tg l (qj1 X.K tl):=by
 intro pins s σ H R I h;refine thn (hl pins s σ H _ I h) fun v s1 ⟨x,H1,I1,r1,q1⟩=>?_;obtain⟨a,e,⟨xs,hq⟩,q⟩:=q1;subst e
 cases r1
 obtain⟨its,rv,p,hz⟩:=I1.list hq;refine wpAny_pyIter_list p.isList ?_;refine⟨s1.heap.objs.size,[s1.heap.objs.size],_,_,H1,rfl,I1.kept (t':=s1.toks) fun b o e=>Heap.get?_push_of_some _ e,Mj a _,⟨_,Heap.get?_push_size _ rfl,rfl,rfl⟩,fun b hb=>?_,q⟩;have e:b=s1.heap.objs.size:=by simpa using hb
 subst e;exact I1.fpOk (Nat.le_refl _) (I1.hok.fresh (Nat.le_refl _))
theorem qa2 (hl:PE X l tl):PI X tg l (qp3 X.K tl):=by
 intro pins s σ H R I h;refine thn (hl pins s σ H _ I h) fun v s1 ⟨x,H1,I1,r1,q1⟩=>?_;obtain⟨a,e,⟨xs,hq⟩,q⟩:=q1;subst e
 cases r1
 obtain⟨its,rv,p,hz⟩:=I1.tuple hq;refine wpAny_pyIter_tuple (show s1.heap.IsTuple a its.toArray from p) ?_;refine⟨s1.heap.objs.size,[s1.heap.objs.size],_,_,H1,rfl,I1.kept (t':=s1.toks) fun b o e=>Heap.get?_push_of_some _ e,Gm a _,⟨_,Heap.get?_push_size _ rfl,rfl,rfl⟩,fun b hb=>?_,q⟩;have e:b=s1.heap.objs.size:=by simpa using hb
 subst e;exact I1.fpOk (Nat.le_refl _) (I1.hok.fresh (Nat.le_refl _))
theorem Cs {lo hi:Int}(I:Inv X pins σ H s)(h1:-(2 ^ 62)<=lo)(h2:lo < 2 ^ 62)(h3:-(2 ^ 62)<=hi)(h4:hi < 2 ^ 62)(q:R (Itr lo (hi - lo).toNat) H):wpAny (model X.prog X.w) X.A (pyIter (.ref s.heap.objs.size)) (PIE X pins σ tg R) E { s with heap:=s.heap.push { cls:=.type "range",data:=.fields #[.int lo t,.int hi u,.int 1 v] },toks:=tk }:=by
 refine wpAny_pyIter_range (IsRange.new ..) (small_one h1 h2 h3 h4) ?_;have I1:Inv X pins σ H { s with heap:=s.heap.push { cls:=.type "range",data:=.fields #[.int lo t,.int hi u,.int 1 v] },toks:=tk }:=I.kept fun b o e=>Heap.get?_push_of_some _ e;refine⟨(s.heap.push { cls:=.type "range",data:=.fields #[.int lo t,.int hi u,.int 1 v] }).objs.size,[(s.heap.push { cls:=.type "range",data:=.fields #[.int lo t,.int hi u,.int 1 v] }).objs.size],_,_,H,rfl,
  I1.kept (t':=tk) fun b o e=>Heap.get?_push_of_some _ e,Gn _ lo (hi - lo).toNat,?_,fun b hb=>?_,q⟩
 ·have e1:lo+((0:Nat):Int)*1=lo:=by simp
  have e2:(((hi - lo).toNat:Nat):Int) - ((0:Nat):Int)=Builtin.Range.rangeSize lo hi 1:=by rw[rangeSize_one];split<;>lia
  show IsRangeIter _ _ (lo+((0:Nat):Int)*1) ((((hi - lo).toNat:Nat):Int) - ((0:Nat):Int)) 1;rw[e1,e2];exact Heap.get?_push_size _ rfl
 ·have e:b=(s.heap.push { cls:=.type "range",data:=.fields #[.int lo t,.int hi u,.int 1 v] }).objs.size:=by simpa using hb
  subst e;exact I1.fpOk (Nat.le_refl _) (I1.hok.fresh (Nat.le_refl _))
def qi1 (ta:TA):TI:=fun σ H R=>ta σ H fun vs H1=>∃j:Int,vs=[.int j]/\-(2 ^ 62)<=j/\j < 2 ^ 62/\R (Itr 0 j.toNat) H1
def qi8 (ta:TA):TI:=fun σ H R=>ta σ H fun vs H1=>∃i j:Int,vs=[.int i,.int j]/\(-(2 ^ 62)<=i/\i < 2 ^ 62/\-(2 ^ 62)<=j/\j < 2 ^ 62)/\R (Itr i (j - i).toNat) H1
theorem fR (hg:Gl X "range")(hm:X.mg "range"=none)(ha:PA X [a] ta)(hs:starEach [a] X.env=[(false,eval a X.env)]:=by rfl):PI X tg (.Call (.Name "range" p) [a] [] pos) (qi1 ta):=by
 intro pins s σ H R I h;refine Call_ (kC I hg hm boot_range (PyProof.Rows.callWith_type1 (thn (ha pos pins s σ H _ I h) fun us s1 ⟨vs,H1,I1,r1,q1⟩=>?_) hs rfl));obtain⟨j,e,q1,q2,q⟩:=q1;subst e
 cases r1 with
 |cons r rr=>
  cases rr
  obtain⟨t,rfl⟩:=r;exact call_range_1 (Cs I1 (by decide) (by decide) q1 q2 (by simpa using q))
theorem rP (hg:Gl X "range")(hm:X.mg "range"=none)(ha:PA X [a,b] ta)(hs:starEach [a,b] X.env=[(false,eval a X.env),(false,eval b X.env)]:=by rfl)(hs2:starEach [b] X.env=[(false,eval b X.env)]:=by rfl):
  PI X tg (.Call (.Name "range" p) [a,b] [] pos) (qi8 ta):=by
 intro pins s σ H R I h;refine Call_ (kC I hg hm boot_range (PyProof.Rows.callWith_type1 (thn (ha pos pins s σ H _ I h) fun us s1 ⟨vs,H1,I1,r1,q1⟩=>?_) (by rw[hs,hs2]) (by rw[hs2];rfl)));obtain⟨i,j,e,⟨q1,q2,q3,q4⟩,q⟩:=q1;subst e
 cases r1 with
 |cons r rr=>
  cases rr with
  |cons r' rr=>
   cases rr
   obtain⟨t,rfl⟩:=r;obtain⟨t',rfl⟩:=r';exact call_range_2 (Cs I1 q1 q2 q3 q4 q)
def qn1 (wi:TI)(g:TG)(tb:TS):TS:=fun D σ H=>wi σ H fun J H1=>∃W:Nat->Nat->St->Hp->Prop,(∃m,W 0 m σ H1)/\∀i m σ H,W i m σ H->
 (J.stop i H/\D.nx σ H)\/(J.go i H/\∃N:St->Hp->Prop,(∀σ' H',N σ' H'->∃m',m' < m/\W (i+1) m' σ' H')/\∀x H',J.yld i H x H'->g x σ H' fun σ2 H2=>tb { D with nx:=N,ct:=N,bk:=D.nx } σ2 H2)
def uH (fp:List Addr)(h:Heap):List (Addr × Obj):=fp.filterMap fun b=>(h.get? b).map fun o=>(b,o)
theorem kU (hb:b∈fp)(e:h.get? b=some o):(b,o)∈uH fp h:=mem_filterMap.mpr ⟨b,hb,by rw[e];rfl⟩
theorem Mw (hp:p∈uH fp h):p.1∈fp/\h.get? p.1=some p.2:=by
 obtain⟨b,hb,e⟩:=mem_filterMap.mp hp
 cases q:h.get? b with
 |none=>rw[q] at e;cases e
 |some o=>
  rw[q] at e;have e':(b,o)=p:=Option.some.inj e;subst e';exact⟨hb,q⟩
theorem Inv.pinned (I:Inv X pins σ H s)(hf:∀b∈fp,oB X pins H b)(ho:∀b∈fp,∃o,s.heap.get? b=some o/\∀v,o.data≠.cell v):Inv X (pins++uH fp s.heap) σ H s:=
 I.pins_of fun p hp=>(mem_append.mp hp).elim (fun z=>I.pin p (mem_append_right _ z)) fun z=>by
  obtain⟨hb,e⟩:=Mw z;obtain⟨f0,f1,f2,_⟩:=hf p.1 hb;obtain⟨o,e',d⟩:=ho p.1 hb;rw[e] at e';cases e';exact⟨e,f0,f1,f2,d⟩
theorem Inv.unpinned (I:Inv X (pins++pl) σ H s):Inv X pins σ H s:=I.pins_of fun p hp=>I.pin p (mem_append_right _ (mem_append_left _ hp))
theorem fK {iter:Expr}(hp:PassesOwn (model X.prog X.w) X.A X.env X.xe)(hc:X.calm=true)(hi:PI X tg iter wi)(hg:PG X tg g)(hb:PSs X body tb)(hs:∀x,foldedSetIterable iter X.env x=pure x:=by intro _;rfl):PS X (.For tg iter body [] pos) (qn1 wi g tb):=by
 intro pins s σ H D I h;refine wpAny_For (thn (hi pins s σ H _ I h) fun v s1 h1=>thn h1 fun itv s2 h2=>?_) hs;obtain⟨it,fp,tn,J,H2,e,I2,T,st2,f2,W,⟨m0,w0⟩,turn⟩:=h2;subst e;have stat:∀{H':Hp},(∀b∈fp,H' b=none)->∀b∈fp,oB X pins H' b:=fun hn b hb=>⟨hn b hb,(f2 b hb).2⟩
 refine codeAny_forLoop_any (fun n s'=>∃i σ' H',Inv X pins σ' H' s'/\tn i s'.heap/\(∀b∈fp,H' b=none)/\W i n σ' H') ?_ m0 ⟨0,σ,H2,I2,st2,fun b hb=>(f2 b hb).1,w0⟩;rintro n s3 ⟨i,σ3,H3,I3,st3,fr3,w3⟩;rcases turn i n σ3 H3 w3 with ⟨stop,qn⟩ | ⟨go,N,hN,step⟩
 ·refine wpAny_passesOwn hp (thn (T.done X rfl rfl rfl hc i pins s3 σ3 H3 X.xe I3 (stat fr3) st3 stop) fun r s4 ⟨hr,I4⟩=>?_);subst hr;exact wpAny_execs_nil ⟨σ3,H3,I4,qn⟩
 ·refine wpAny_passesOwn hp (thn (T.item X rfl rfl rfl hc i pins s3 σ3 H3 X.xe I3 (stat fr3) st3 go) fun r s4 ⟨u,hr,h4⟩=>?_);subst hr;refine wpAny_passesOwn hp (thn h4 fun _ s5 ⟨x,H5,I5,r5,y5,st5,fr5⟩=>?_);have I5':=I5.pinned (stat fr5) (T.obj _ _ st5);refine wpAny_passesOwn hp (thn (hg _ s5 σ3 H5 x u _ I5' r5 (step x H5 y5)) fun _ s6 ⟨σ6,H6,I6,q6⟩=>?_);refine wpAny_passesOwn hp (thn (hb _ s6 σ6 H6 _ I6 q6) fun f s7 q7=>?_);have again:∀{σ7:St} {H7:Hp},Inv X (pins++uH fp s5.heap) σ7 H7 s7->N σ7 H7->∃m,m < n/\∃i σ' H',Inv X pins σ' H' s7/\tn i s7.heap/\(∀b∈fp,H' b=none)/\W i m σ' H':=fun {σ7 H7} I7 n7=>by
   obtain⟨m',hm,w7⟩:=hN σ7 H7 n7;refine⟨m',hm,i+1,σ7,H7,I7.unpinned,T.keep _ _ _ st5 fun b hb o e=>(I7.pin (b,o) (mem_append_right _ (mem_append_right _ (kU hb e)))).1,fun b hb=>?_,w7⟩;obtain⟨o,e,d⟩:=T.obj _ _ st5 b hb;exact(I7.pin (b,o) (mem_append_right _ (mem_append_right _ (kU hb e)))).2.1
  cases f with
  |next=>obtain⟨σ7,H7,I7,n7⟩:=q7;exact again I7 n7
  |cont=>obtain⟨σ7,H7,I7,n7⟩:=q7;exact again I7 n7
  |brk=>obtain⟨σ7,H7,I7,q7⟩:=q7;exact⟨σ7,H7,I7.unpinned,q7⟩
  |ret v=>obtain⟨x7,σ7,H7,I7,r7,q7⟩:=q7;exact⟨x7,σ7,H7,I7.unpinned,r7,q7⟩
end
theorem gC {K:Frag}{g:TG}{tb:TS}{D:gO}(Pv:Nat->St->Hp->Prop)(h0:Pv 0 σ H)(hl:∀i σ H,i<=xs.length->Pv i σ H->SqL K H a xs)(hs:∀i x σ H,xs[i]?=some x->Pv i σ H->g x σ H fun σ2 H2=>tb { D with nx:=Pv (i+1),ct:=Pv (i+1),bk:=D.nx } σ2 H2)(hd:∀σ H,Pv xs.length σ H->D.nx σ H):
  ∃W:Nat->Nat->St->Hp->Prop,(∃m,W 0 m σ H)/\∀i m σ H,W i m σ H->
   ((Itl K a).stop i H/\D.nx σ H)\/((Itl K a).go i H/\∃N:St->Hp->Prop,(∀σ' H',N σ' H'->∃m',m' < m/\W (i+1) m' σ' H')/\∀x H',(Itl K a).yld i H x H'->g x σ H' fun σ2 H2=>tb { D with nx:=N,ct:=N,bk:=D.nx } σ2 H2):=by
 refine⟨fun i m σ H=>m=xs.length - i/\i<=xs.length/\Pv i σ H,⟨xs.length,by simp,Nat.zero_le _,h0⟩,?_⟩;rintro i m σ H ⟨rfl,hi,p⟩;have q:=hl i σ H hi p
 by_cases hlt:i < xs.length
 ·refine .inr ⟨⟨xs,xs[i],q,by simp[hlt]⟩,Pv (i+1),fun σ' H' p'=>⟨xs.length - (i+1),by lia,rfl,hlt,p'⟩,fun x H' y=>?_⟩;obtain⟨e,y⟩:=y;subst e;exact hs i x σ _ (y xs q) p
 ·have e:i=xs.length:=by lia
  subst e;exact .inl ⟨⟨xs,q,Nat.le_refl _⟩,hd σ H p⟩
theorem Vm {K:Frag}{g:TG}{tb:TS}{D:gO}(Pv:Nat->St->Hp->Prop)(h0:Pv 0 σ H)(hl:∀i σ H,i<=xs.length->Pv i σ H->SqT K H a xs)(hs:∀i x σ H,xs[i]?=some x->Pv i σ H->g x σ H fun σ2 H2=>tb { D with nx:=Pv (i+1),ct:=Pv (i+1),bk:=D.nx } σ2 H2)(hd:∀σ H,Pv xs.length σ H->D.nx σ H):
  ∃W:Nat->Nat->St->Hp->Prop,(∃m,W 0 m σ H)/\∀i m σ H,W i m σ H->
   ((Itt K a).stop i H/\D.nx σ H)\/((Itt K a).go i H/\∃N:St->Hp->Prop,(∀σ' H',N σ' H'->∃m',m' < m/\W (i+1) m' σ' H')/\∀x H',(Itt K a).yld i H x H'->g x σ H' fun σ2 H2=>tb { D with nx:=N,ct:=N,bk:=D.nx } σ2 H2):=by
 refine⟨fun i m σ H=>m=xs.length - i/\i<=xs.length/\Pv i σ H,⟨xs.length,by simp,Nat.zero_le _,h0⟩,?_⟩;rintro i m σ H ⟨rfl,hi,p⟩;have q:=hl i σ H hi p
 by_cases hlt:i < xs.length
 ·refine .inr ⟨⟨xs,xs[i],q,by simp[hlt]⟩,Pv (i+1),fun σ' H' p'=>⟨xs.length - (i+1),by lia,rfl,hlt,p'⟩,fun x H' y=>?_⟩;obtain⟨e,y⟩:=y;subst e;exact hs i x σ _ (y xs q) p
 ·have e:i=xs.length:=by lia
  subst e;exact .inl ⟨⟨xs,q,Nat.le_refl _⟩,hd σ H p⟩
theorem iD {lo:Int}{g:TG}{tb:TS}{D:gO}(Pv:Nat->St->Hp->Prop)(h0:Pv 0 σ H)(hs:∀i σ H,i < n->Pv i σ H->g (.int (lo+i)) σ H fun σ2 H2=>tb { D with nx:=Pv (i+1),ct:=Pv (i+1),bk:=D.nx } σ2 H2)(hd:∀σ H,Pv n σ H->D.nx σ H):
  ∃W:Nat->Nat->St->Hp->Prop,(∃m,W 0 m σ H)/\∀i m σ H,W i m σ H->
   ((Itr lo n).stop i H/\D.nx σ H)\/((Itr lo n).go i H/\∃N:St->Hp->Prop,(∀σ' H',N σ' H'->∃m',m' < m/\W (i+1) m' σ' H')/\∀x H',(Itr lo n).yld i H x H'->g x σ H' fun σ2 H2=>tb { D with nx:=N,ct:=N,bk:=D.nx } σ2 H2):=by
 refine⟨fun i m σ H=>m=n - i/\i<=n/\Pv i σ H,⟨n,by simp,Nat.zero_le _,h0⟩,?_⟩;rintro i m σ H ⟨rfl,hi,p⟩
 by_cases hlt:i < n
 ·refine .inr ⟨hlt,Pv (i+1),fun σ' H' p'=>⟨n - (i+1),by lia,rfl,hlt,p'⟩,fun x H' y=>?_⟩;obtain⟨e,y⟩:=y;subst e y;exact hs i σ _ hlt p
 ·have e:i=n:=by lia
  subst e;exact .inl ⟨Nat.le_refl _,hd σ H p⟩
theorem vA (Pv:St->Hp->Prop)(μ:St->Hp->Nat)(h0:Pv σ H)(hs:∀σ H,Pv σ H->c σ H fun b H1=>if b=true then tb { D with nx:=fun σ' H'=>Pv σ' H'/\μ σ' H' < μ σ H,ct:=fun σ' H'=>Pv σ' H'/\μ σ' H' < μ σ H,bk:=D.nx } σ H1 else D.nx σ H1)(mono:∀σ H Q Q',(∀b H1,Q b H1->Q' b H1)->c σ H Q->c σ H Q'):Nm c tb D σ H:=by
 refine⟨fun m σ H=>m=μ σ H/\Pv σ H,⟨_,rfl,h0⟩,?_⟩;rintro m σ H ⟨rfl,p⟩;refine mono σ H _ _ (fun b H1 q=>?_) (hs σ H p)
 cases b with
 |true=>exact⟨_,fun σ' H' ⟨p',l⟩=>⟨_,l,rfl,p'⟩,q⟩
 |false=>exact q
abbrev R2:=V->V->Hp->VK->Prop
def OpR (X:Cx)(f:Value->Value->Sem Value)(r:R2):Prop:=
 ∀(pins:List (Addr × Obj)) (s:Shared) (σ:St) (H:Hp) (x y:V) (v u:Value) (Q:VK),Inv X pins σ H s->cA x v->cA y u->r x y H Q->
  wpAny (model X.prog X.w) X.A (f v u) (EP X pins σ Q) X.xe s
def UnR (X:Cx)(f:Value->Sem Value)(r:V->Hp->VK->Prop):Prop:=
 ∀(pins:List (Addr × Obj)) (s:Shared) (σ:St) (H:Hp) (x:V) (v:Value) (Q:VK),Inv X pins σ H s->cA x v->r x H Q->
  wpAny (model X.prog X.w) X.A (f v) (EP X pins σ Q) X.xe s
def kL (X:Cx)(f:Value)(r:List V->Hp->VK->Prop):Prop:=
 ∀(pins:List (Addr × Obj)) (s:Shared) (σ:St) (H:Hp) (xs:List V) (us:List Value) (Q:VK),Inv X pins σ H s->bQ xs us->r xs H Q->
  wpAny (model X.prog X.w) X.A (call f us) (EP X pins σ Q) X.xe s
def tOp (r:R2)(ta tb:TE):TE:=fun σ H Q=>ta σ H fun x H1=>tb σ H1 fun y H2=>r x y H2 Q
def tUn (r:V->Hp->VK->Prop)(ta:TE):TE:=fun σ H Q=>ta σ H fun x H1=>r x H1 Q
def rI (C:Int->Int->Prop)(g:Int->Int->V):R2:=fun x y H Q=>∃i j,x=.int i/\y=.int j/\C i j/\Q (g i j) H
def rI0 (g:Int->Int->V):R2:=fun x y H Q=>∃i j,x=.int i/\y=.int j/\Q (g i j) H
def rU (g:Int->V):V->Hp->VK->Prop:=fun x H Q=>∃i,x=.int i/\Q (g i) H
section
variable {X:Cx} {a b c:Expr} {ta tb tc:TE} {pos:Pos}
theorem Yu (ha:PE X a ta)(hb:PE X b tb){R:V->V->Hp->Prop}(I:Inv X pins σ H s)(h:ta σ H fun x H1=>tb σ H1 fun y H2=>R x y H2){f:Value->Value->Sem Value}(hf:∀v u s2 x y H2,Inv X pins σ H2 s2->cA x v->cA y u->R x y H2->wpAny (model X.prog X.w) X.A (f v u) Q X.xe s2):
  wpAny (model X.prog X.w) X.A (eval a X.env) (fun v s₁=>wpAny (model X.prog X.w) X.A (eval b X.env) (fun u s₂=>wpAny (model X.prog X.w) X.A (f v u) Q X.xe s₂) X.xe s₁) X.xe s:=by
 refine thn (ha pins s σ H _ I h) fun v s1 ⟨x,H1,I1,r1,q1⟩=>?_;refine thn (hb pins s1 σ H1 _ I1 q1) fun u s2 ⟨y,H2,I2,r2,q2⟩=>?_;exact hf v u s2 x y H2 I2 r1 r2 q2
theorem aP (ho:OpR X (binaryOp op) r)(ha:PE X a ta)(hb:PE X b tb):PE X (.BinOp a op b pos) (tOp r ta tb):=by
 intro pins s σ H Q I h;exact wpAny_BinOp (Yu ha hb I h fun v u s2 x y H2 I2 rx ry q=>ho pins s2 σ H2 x y v u Q I2 rx ry q)
theorem wH (ho:UnR X (unaryOp op) r)(ha:PE X a ta):PE X (.UnaryOp op a pos) (tUn r ta):=by
 intro pins s σ H Q I h;exact UnaryOp_ (thn (ha pins s σ H _ I h) fun v s1 ⟨x,H1,I1,r1,q1⟩=>ho pins s1 σ H1 x v Q I1 r1 q1)
theorem opI {g:Int->Int->Int}(rule:∀(i j:Int) (t u:Tok) (s:Shared) (Q:Value->Shared->Prop) (E:Value->Shared->Prop),C i j->Q (.int (g i j) s.toks) { s with toks:=s.toks+1 }->wpAny (model X.prog X.w) X.A (f (.int i t) (.int j u)) Q E s):
  OpR X f (rI C fun i j=>.int (g i j)):=by
 intro pins s σ H x y v u Q I rx ry h;obtain⟨i,j,rfl,rfl,hc,q⟩:=h;obtain⟨t,rfl⟩:=rx;obtain⟨t',rfl⟩:=ry;exact rule i j t t' s _ _ hc ⟨.int (g i j),H,I.tok _,⟨_,rfl⟩,q⟩
theorem qh8 {g:Int->Int->Int}(rule:∀(i j:Int) (t u:Tok) (s:Shared) (Q:Value->Shared->Prop) (E:Value->Shared->Prop),Q (.int (g i j) s.toks) { s with toks:=s.toks+1 }->wpAny (model X.prog X.w) X.A (f (.int i t) (.int j u)) Q E s):
  OpR X f (rI0 fun i j=>.int (g i j)):=by
 intro pins s σ H x y v u Q I rx ry h;obtain⟨i,j,rfl,rfl,q⟩:=h;obtain⟨t,rfl⟩:=rx;obtain⟨t',rfl⟩:=ry;exact rule i j t t' s _ _ ⟨.int (g i j),H,I.tok _,⟨_,rfl⟩,q⟩
theorem qe0 {g:Int->Int->Bool}(rule:∀(i j:Int) (t u:Tok) (s:Shared) (Q:Value->Shared->Prop) (E:Value->Shared->Prop),Q (.bool (g i j)) s->wpAny (model X.prog X.w) X.A (f (.int i t) (.int j u)) Q E s):
  OpR X f (rI0 fun i j=>.bl (g i j)):=by
 intro pins s σ H x y v u Q I rx ry h;obtain⟨i,j,rfl,rfl,q⟩:=h;obtain⟨t,rfl⟩:=rx;obtain⟨t',rfl⟩:=ry;exact rule i j t t' s _ _ ⟨.bl (g i j),H,I,rfl,q⟩
def qm1 (i j:Int):Prop:=0 < j/\j < 1073741824
def Yn (i j:Int):Prop:=(-(2 ^ 64) < i/\i < 2 ^ 64)\/(-(2 ^ 64) < j/\j < 2 ^ 64)
theorem Yn.ok (h:Yn i j):IntMulOk i j:=by
 rcases h with ⟨h1,h2⟩ | ⟨h1,h2⟩
 ·exact .of_left (intBits_le_64 h1 h2)
 ·exact .of_right (intBits_le_64 h1 h2)
theorem dL:OpR X (binaryOp .Add) (rI0 fun i j=>.int (i+j)):=qh8 fun _ _ _ _ _ _ _ q=>add_int q
theorem gR:OpR X (binaryOp .Sub) (rI0 fun i j=>.int (i - j)):=qh8 fun _ _ _ _ _ _ _ q=>sub_int q
theorem hG:OpR X (binaryOp .Mult) (rI Yn fun i j=>.int (i*j)):=opI fun _ _ _ _ _ _ _ hc q=>mul_int q hc.ok
theorem zT:OpR X (binaryOp .FloorDiv) (rI qm1 fun i j=>.int (i / j)):=opI fun i j _ _ _ _ _ hc q=>by
 have h1:(0:Int) < j:=hc.1;have h2:j < 1073741824:=hc.2;exact floordiv_int (by lia) (by rw[Int.fdiv_eq_ediv_of_nonneg i (by lia)];exact q) (.inl (PyProof.noPylong_small (by lia)))
theorem cT:OpR X (binaryOp .Mod) (rI (fun _ j=>0 < j) fun i j=>.int (i % j)):=opI fun i j _ _ _ _ _ hc q=>by
 have h1:(0:Int) < j:=hc;exact mod_int' (by lia) (by rw[Int.fmod_eq_emod_of_nonneg i (by lia)];exact q)
theorem kW:OpR X (binaryOp .Mod) (rI (fun _ j=>j≠0) fun i j=>.int (i.fmod j)):=opI fun _ _ _ _ _ _ _ hc q=>mod_int' hc q
theorem unI {g:Int->Int}(rule:∀(i:Int) (t:Tok) (s:Shared) (Q:Value->Shared->Prop) (E:Value->Shared->Prop),Q (.int (g i) s.toks) { s with toks:=s.toks+1 }->wpAny (model X.prog X.w) X.A (f (.int i t)) Q E s):
  UnR X f (rU fun i=>.int (g i)):=by
 intro pins s σ H x v Q I rx h;obtain⟨i,rfl,q⟩:=h;obtain⟨t,rfl⟩:=rx;exact rule i t s _ _ ⟨.int (g i),H,I.tok _,⟨_,rfl⟩,q⟩
theorem oN:UnR X (unaryOp .USub) (rU fun i=>.int (-i)):=unI fun _ _ _ _ _ q=>neg_int q
end
def ql7:V->V->Bool
 | .non,.non=>true | .non,.int _=>true | .int _,.non=>true | .non,.bl _=>true | .bl _,.non=>true | .non,.str _=>true | .str _,.non=>true
 | .int _,.int _=>true | .bl _,.bl _=>true | .str _,.str _=>true | .byt _,.byt _=>true
 | .int _,.str _=>true | .str _,.int _=>true | .bl _,.str _=>true | .str _,.bl _=>true
 |_,_=>false
def rEq:R2:=fun x y H Q=>ql7 x y=true/\Q (.bl (decide (x=y))) H
def rNe:R2:=fun x y H Q=>ql7 x y=true/\Q (.bl (!decide (x=y))) H
theorem Ig:decide (V.int i=V.int j)=(i == j):=by
 rw[Bool.eq_iff_iff];simp
theorem Rk:decide (V.bl i=V.bl j)=(i == j):=by
 rw[Bool.eq_iff_iff];simp
theorem Jy:decide (V.str i=V.str j)=(i == j):=by
 rw[Bool.eq_iff_iff];simp
theorem Jc:decide (V.byt i=V.byt j)=(i.toList == j.toList):=by
 rw[Bool.eq_iff_iff]
 cases i
 cases j
 simp
section
variable {X:Cx} {a b c:Expr} {ta tb tc:TE} {pos:Pos}
theorem cS (I:Inv X pins σ H s)(q:Q (.bl k) H)(e:k=k'):EP X pins σ Q (.bool k') s:=by
 subst e;exact⟨.bl k,H,I,rfl,q⟩
theorem fZ:OpR X (compareOp .Eq) rEq:=by
 intro pins s σ H x y v u Q I rx ry h;obtain⟨hs,q⟩:=h
 cases x with
 |non=>
  cases rx
  cases y with
  |non=>cases ry;exact PySem.EqNone.eq_none_none (cS I q (by simp))
  |bl j=>cases ry;exact PySem.EqNone.eq_none_bool (cS I q (by simp))
  |int j=>obtain⟨t',rfl⟩:=ry;exact PySem.EqNone.eq_none_int (cS I q (by simp))
  |str j=>obtain⟨t',rfl⟩:=ry;exact PySem.EqNone.eq_none_str (cS I q (by simp))
  |_=>exact absurd (show false=true from hs) Bool.false_ne_true
 |bl i=>
  cases rx
  cases y with
  |non=>cases ry;exact PySem.EqNone.eq_bool_none (cS I q (by simp))
  |bl j=>cases ry;exact eq_bool (cS I q Rk)
  |str j=>obtain⟨t',rfl⟩:=ry;exact PySem.EqMixed.eq_bool_str (cS I q (by simp))
  |_=>exact absurd (show false=true from hs) Bool.false_ne_true
 |int i=>
  obtain⟨t,rfl⟩:=rx
  cases y with
  |non=>cases ry;exact PySem.EqNone.eq_int_none (cS I q (by simp))
  |int j=>obtain⟨t',rfl⟩:=ry;exact eq_int (cS I q Ig)
  |str j=>obtain⟨t',rfl⟩:=ry;exact PySem.EqMixed.eq_int_str (cS I q (by simp))
  |_=>exact absurd (show false=true from hs) Bool.false_ne_true
 |str i=>
  obtain⟨t,rfl⟩:=rx
  cases y with
  |non=>cases ry;exact PySem.EqNone.eq_str_none (cS I q (by simp))
  |bl j=>cases ry;exact PySem.EqMixed.eq_str_bool (cS I q (by simp))
  |int j=>obtain⟨t',rfl⟩:=ry;exact PySem.EqMixed.eq_str_int (cS I q (by simp))
  |str j=>obtain⟨t',rfl⟩:=ry;exact eq_str (cS I q Jy)
  |_=>exact absurd (show false=true from hs) Bool.false_ne_true
 |byt i=>
  obtain⟨t,rfl⟩:=rx
  cases y with
  |byt j=>obtain⟨t',rfl⟩:=ry;exact W.eq_bytes (cS I q Jc)
  |_=>exact absurd (show false=true from hs) Bool.false_ne_true
 |_=>cases y<;>exact absurd (show false=true from hs) Bool.false_ne_true
theorem sZ:OpR X (compareOp .NotEq) rNe:=by
 intro pins s σ H x y v u Q I rx ry h;obtain⟨hs,q⟩:=h
 cases x with
 |non=>
  cases rx
  cases y with
  |non=>cases ry;exact PySem.EqNone.ne_none_none (cS I q (by simp))
  |bl j=>cases ry;exact PySem.EqNone.ne_none_bool (cS I q (by simp))
  |int j=>obtain⟨t',rfl⟩:=ry;exact PySem.EqNone.ne_none_int (cS I q (by simp))
  |str j=>obtain⟨t',rfl⟩:=ry;exact PySem.EqNone.ne_none_str (cS I q (by simp))
  |_=>exact absurd (show false=true from hs) Bool.false_ne_true
 |bl i=>
  cases rx
  cases y with
  |non=>cases ry;exact PySem.EqNone.ne_bool_none (cS I q (by simp))
  |bl j=>cases ry;exact ne_bool (cS I q (congrArg not Rk))
  |str j=>obtain⟨t',rfl⟩:=ry;exact PySem.EqMixed.ne_bool_str (cS I q (by simp))
  |_=>exact absurd (show false=true from hs) Bool.false_ne_true
 |int i=>
  obtain⟨t,rfl⟩:=rx
  cases y with
  |non=>cases ry;exact PySem.EqNone.ne_int_none (cS I q (by simp))
  |int j=>obtain⟨t',rfl⟩:=ry;exact ne_int (cS I q (congrArg not Ig))
  |str j=>obtain⟨t',rfl⟩:=ry;exact PySem.EqMixed.ne_int_str (cS I q (by simp))
  |_=>exact absurd (show false=true from hs) Bool.false_ne_true
 |str i=>
  obtain⟨t,rfl⟩:=rx
  cases y with
  |non=>cases ry;exact PySem.EqNone.ne_str_none (cS I q (by simp))
  |bl j=>cases ry;exact PySem.EqMixed.ne_str_bool (cS I q (by simp))
  |int j=>obtain⟨t',rfl⟩:=ry;exact PySem.EqMixed.ne_str_int (cS I q (by simp))
  |str j=>obtain⟨t',rfl⟩:=ry;exact ne_str (cS I q (congrArg not Jy))
  |_=>exact absurd (show false=true from hs) Bool.false_ne_true
 |byt i=>
  obtain⟨t,rfl⟩:=rx
  cases y with
  |byt j=>obtain⟨t',rfl⟩:=ry;exact W.ne_bytes (cS I q (congrArg not Jc))
  |_=>exact absurd (show false=true from hs) Bool.false_ne_true
 |_=>cases y<;>exact absurd (show false=true from hs) Bool.false_ne_true
theorem Di:OpR X (compareOp .Lt) (rI0 fun i j=>.bl (decide (i < j))):=qe0 fun _ _ _ _ _ _ _ q=>lt_int q
theorem Ej:OpR X (compareOp .Gt) (rI0 fun i j=>.bl (decide (j < i))):=qe0 fun _ _ _ _ _ _ _ q=>gt_int q
theorem Ol:OpR X (compareOp .GtE) (rI0 fun i j=>.bl (decide (j<=i))):=qe0 fun _ _ _ _ _ _ _ q=>ge_int q
theorem bO (b:Expr)(h:op≠.In:=by decide)(h2:op≠.NotIn:=by decide):behindInMarks op b=false:=by
 have e1:(op == CmpOp.In)=false:=by cases op<;>first | rfl | exact absurd rfl h
 have e2:(op == CmpOp.NotIn)=false:=by cases op<;>first | rfl | exact absurd rfl h2
 cases b<;>simp[behindInMarks,e1,e2]
theorem gP (ho:OpR X (compareOp op) r)(ha:PE X a ta)(hb:PE X b tb)(hm:behindInMarks op b=false):PE X (.Compare a [op] [b] pos) (tOp r ta tb):=by
 intro pins s σ H Q I h;exact wpAny_Compare1 (Yu ha hb I h fun v u s2 x y H2 I2 rx ry q=>ho pins s2 σ H2 x y v u Q I2 rx ry q) hm
def qi3 (t:TE):TT:=fun σ H Q=>t σ H fun x H'=>∃k,x=.bl k/\Q k H'
theorem bK (ho:OpR X (compareOp op) r)(ha:PE X a ta)(hb:PE X b tb)(hm:behindInMarks op b=false):PT X (.Compare a [op] [b] pos) (qi3 (tOp r ta tb)):=by
 intro pins s σ H Q I h;refine wpAny_isTrue_Compare1 (thn (ha pins s σ H _ I h) fun v s1 ⟨x,H1,I1,r1,q1⟩=>thn (hb pins s1 σ H1 _ I1 q1) fun u s2 ⟨y,H2,I2,r2,q2⟩=>
  thn (ho pins s2 σ H2 x y v u _ I2 r1 r2 q2) fun c s3 ⟨z,H3,I3,r3,k,e,q3⟩=>?_) hm
 subst e
 cases r3
 exact wpAny_truthy_bool ⟨H3,I3,q3⟩
theorem Av:(sizeLine:Nat) < 2 ^ 63:=by rw[sizeLine_eq];decide
theorem xL (r:bQ [x] us):∃u,us=[u]/\cA x u:=by
 cases r with
 |cons r1 r2=>cases r2;exact⟨_,rfl,r1⟩
theorem yT (r:bQ [x,y] us):∃u w',us=[u,w']/\cA x u/\cA y w':=by
 cases r with
 |cons r1 r2=>
  cases r2 with
  |cons r3 r4=>cases r4;exact⟨_,_,rfl,r1,r3⟩
theorem Ed:kL X (.builtin "abs") (fun xs H Q=>∃i,xs=[.int i]/\Q (.int (if i < 0 then -i else i)) H):=by
 intro pins s σ H xs us Q I r h;obtain⟨i,rfl,q⟩:=h;obtain⟨u,rfl,t,rfl⟩:=xL r;exact call_abs_int fun u tk=>⟨.int (if i < 0 then -i else i),H,I.tok _,⟨_,rfl⟩,q⟩
theorem zB (hc:X.calm=true):kL X (.builtin "min") (fun xs H Q=>∃i j,xs=[.int i,.int j]/\Q (.int (if j < i then j else i)) H):=by
 intro pins s σ H xs us Q I r h;obtain⟨i,j,rfl,q⟩:=h;obtain⟨u,w',rfl,⟨t,rfl⟩,⟨t',rfl⟩⟩:=yT r;refine min_two_ints (I.ok.hd hc) fun h' tk k=>⟨_,H,I.kept k,?_,q⟩
 by_cases hj:j < i
 ·rw[if_pos hj,if_pos hj];exact⟨_,rfl⟩
 ·rw[if_neg hj,if_neg hj];exact⟨_,rfl⟩
end
structure Fa (h:Heap) (x dx C:Addr) (mA:Str->Option Value):Prop where
 obj:h.get? x=some (W.instObj C dx)
 ns:h.Ns1 dx mA
 ne:dx≠x
theorem rO {h:Heap}(n:h.Ns1 dx mA):∃od,h.get? dx=some od/\∀name,W.lookIn name od=some (mA name):=by
 obtain⟨o,es,ep,ho,hd,hk,_,hm⟩:=n;refine⟨o,ho,fun name=>?_⟩;have e:=hm name;unfold nsFind findBy at e;rw[<- Array.find?_toList] at e;unfold W.lookIn;rw[hd];dsimp only;split
 ·rename_i y q
  rw[q] at e;exact congrArg some e
 ·rename_i q
  rw[q] at e;have a:es.toList.any (·.refKey)=false:=by
   rw[any_eq_false];intro y hy;obtain⟨z,t,hkey⟩:=hk y (Array.mem_toList_iff.mp hy);simp[DictEntry.refKey,hkey]
  have a':¬es.toList.any (·.refKey)=true:=by rw[a];exact Bool.false_ne_true
  rw[if_neg a'];exact congrArg some e
theorem Fa.look (I:Fa h x dx C mA):∃od,W.InstAt h x (W.instObj C dx) C (some od)/\∀name,W.lookIn name od=some (mA name):=
 let ⟨od,ho,hl⟩:=rO I.ns
 ⟨od,⟨I.obj,rfl,rfl,ho⟩,hl⟩
section
variable {prog:Program} {w:World} {A:Around} {E:Value->Shared->Prop} {s:Shared} {K:Frag} {x dx C f:Addr} {mA:Str->Option Value} {name:Str} {v:Value}
theorem Vs (X:K.In s.heap)(I:Fa s.heap x dx C mA)(hg:W.plainGet K C name=true)(hh:W.hasDictIn K C=true)(ha:W.findIn K (.ref C) name=some none)(hv:mA name=some v)(hv':W.handedIn v=true)(h:Q v { s with toks:=s.toks+1 }):
  wpAny (model prog w) A (getAttr (.ref x) name expr) Q E s:=by
 obtain⟨od,J,hl⟩:=I.look;exact W.get_value X J (W.plainGet_of hg).1 (W.findObj_own hh ha rfl (by rw[hl,hv])) hv' h
theorem Of (X:K.In s.heap)(I:Fa s.heap x dx C mA)(hg:W.plainGet K C name=true)(hf:W.findIn K (.ref C) name=some (some (.ref f)))(ht:W.isFn K (.ref f)=true)(hv:mA name=none)(h:Q (.ref f,[.ref x]) s):
  wpAny (model prog w) A (getMethod (.ref x) name pl) Q E s:=by
 obtain⟨od,J,hl⟩:=I.look;exact W.method_fn X J (W.plainGet_of hg).1 (W.plainGet_of hg).2 hf (beq_iff_eq.mp ht) (by show (W.lookIn name od).map (·.isSome)=some false;rw[hl,hv];rfl) h
theorem Vi (X:K.In s.heap)(I:Fa s.heap x dx C mA)(hs:W.findIn K (.ref C) "__setattr__"=some (some (.builtin "object.__setattr__")))(hp:W.plainOver K C=true)(ht:W.takerIn K C name=some none)(hh:W.hasDictIn K C=true)(hw:PySem.Within mA ns)(hsz:ns.length<=sizeLine)(h:∀h',Fa h' x dx C (fun y=>if y=name then some v else mA y)->Heap.SameBut dx s.heap h'->Q () { s with heap:=h',toks:=s.toks+2 }):
  wpAny (model prog w) A (setAttr (.ref x) name v) Q E s:=by
 obtain⟨od,J,hl⟩:=I.look;refine W.set_plain X J hs (W.osa_open (s:={ s with toks:=s.toks+1 }) (r:=none) X J hp ht fun b=>?_);obtain⟨cd,hc,hd'⟩:=W.any_some hh;have hx:s.heap.get? x=some ⟨.ref C,some dx,.plain,#[]⟩:=I.obj;refine wpAny_bind (wpAny_pure (wpAny_bind (wpAny_bind (wpAny_loadPart hx (wpAny_bind (W.Looks.here (s:={ s with toks:=s.toks+1 }) (W.looks_clsIn X hc) ?_))))));rw[hd'];refine wpAny_pure (a:=some dx) (wpAny_bind (wpAny_pure (wpAny_bind ?_)));refine wpAny_nsSet1 (s:={ s with toks:=s.toks+1 }) I.ns fun h' hn2 hs2=>?_;obtain⟨oD,esD,epD,hoD,hdD,hcD⟩:=hn2.count (PySem.Within.cons name v hw);refine wpAny_bind (wpAny_lookBehind hoD (by rw[hdD];exact pastItsLine_dict (Nat.le_trans hcD (by rw[length_cons];lia))) ?_);exact wpAny_pure (h _ ⟨(hs2.2 _ (Ne.symm I.ne)).trans I.obj,hn2,I.ne⟩ hs2)
theorem Cj (X:K.In s.heap)(hm:W.makesIn K C=true)(hi:W.findIn K (.ref C) "__init__"=some (some (.ref f)))(hf:W.typeIn K (.ref f)=some (.type "function"))(h:codeAny (model prog w) (A.under (.builtin "type.__call__" ⟨.ref C :: vs,kw⟩)) (.call (.ref f) ⟨.ref (s.heap.objs.size+1) :: vs,kw⟩) (W.InitBack (s.heap.objs.size+1) R)
   { s with heap:=(s.heap.push W.emptyDict).push (W.instObj C s.heap.objs.size) }):
  codeAny (model prog w) A (.call (.ref C) ⟨vs,kw⟩) R s:=by
 obtain⟨hh,g,d,t,os⟩:=s;exact W.make_core (W.makes_of X hm) (W.looks_findIn X hi) (fun self=>W.bind_fn X self hf) (.inl rfl) h
end
def fD (f:Str)(v:V):List (Str × V)->List (Str × V)
 | []=>[(f,v)]
 | (g,x) :: r=>if g=f then (g,v) :: r else (g,x) :: fD f v r
theorem bN (f g:Str)(v:V):∀fs:List (Str × V),(fD f v fs).lookup g=if g=f then some v else fs.lookup g
 | []=>by
  show List.lookup g [(f,v)]=_
  by_cases h:g=f
  ·have hb:(g == f)=true:=beq_iff_eq.mpr h;simp only[List.lookup,hb,if_pos h]
  ·have hb:(g == f)=false:=beq_eq_false_iff_ne.mpr h;simp only[List.lookup,hb,if_neg h]
 | (k,x) :: r=>by
  have ih:=bN f g v r;rw[show fD f v ((k,x) :: r)=(if k=f then (k,v) :: r else (k,x) :: fD f v r) from rfl]
  by_cases hk:k=f
  ·rw[if_pos hk]
   by_cases h:g=k
   ·have hb:(g == k)=true:=beq_iff_eq.mpr h;simp only[List.lookup,hb,if_pos (h.trans hk)]
   ·have hb:(g == k)=false:=beq_eq_false_iff_ne.mpr h;simp only[List.lookup,hb,if_neg (fun e:g=f=>h (e.trans hk.symm))]
  ·rw[if_neg hk]
   by_cases h:g=k
   ·have hb:(g == k)=true:=beq_iff_eq.mpr h;simp only[List.lookup,hb,if_neg (fun e:g=f=>hk (h.symm.trans e))]
   ·have hb:(g == k)=false:=beq_eq_false_iff_ne.mpr h;simp only[List.lookup,hb];exact ih
theorem rJ (f:Str)(v:V):∀fs:List (Str × V),f∈(fD f v fs).map (·.1)/\∀g,g∈fs.map (·.1)->g∈(fD f v fs).map (·.1)
 | []=>⟨by simp[fD],fun g h=>by simp at h⟩
 | (k,x) :: r=>by
  obtain⟨i1,i2⟩:=rJ f v r;rw[show fD f v ((k,x) :: r)=(if k=f then (k,v) :: r else (k,x) :: fD f v r) from rfl]
  by_cases hk:k=f
  ·rw[if_pos hk];subst hk;exact⟨by simp,fun g h=>by simpa using h⟩
  ·rw[if_neg hk];refine⟨?_,fun g h=>?_⟩
   ·rw[map_cons];exact mem_cons_of_mem _ i1
   ·rw[map_cons] at h ⊢;rcases mem_cons.mp h with e | e
    ·exact mem_cons.mpr (.inl e)
    ·exact mem_cons_of_mem _ (i2 g e)
theorem fE (f:Str)(v:V):∀fs:List (Str × V),(fD f v fs).length<=fs.length+1
 | []=>by simp[fD]
 | (k,x) :: r=>by
  have ih:=fE f v r;rw[show fD f v ((k,x) :: r)=(if k=f then (k,v) :: r else (k,x) :: fD f v r) from rfl]
  by_cases hk:k=f
  ·rw[if_pos hk,length_cons,length_cons];lia
  ·rw[if_neg hk,length_cons,length_cons];lia
theorem kF.some_of (r:kF (some v) o):∃u,o=some u/\cA v u:=by
 cases o with
 |none=>exact(show False from r).elim
 |some u=>exact⟨u,rfl,r⟩
theorem kF.none_of (r:kF none o):o=none:=by
 cases o with
 |none=>rfl
 |some u=>exact(show False from r).elim
theorem xS (r:cA v u):W.handedIn u=true:=by
 cases v with
 |non=>cases (show u=Value.none from r);rfl
 |bl b=>cases (show u=Value.bool b from r);rfl
 |int i=>obtain⟨t,e⟩:=(show ∃t,u=Value.int i t from r);cases e;rfl
 |str x=>obtain⟨t,e⟩:=(show ∃t,u=Value.str x t from r);cases e;rfl
 |byt b=>obtain⟨t,e⟩:=(show ∃t,u=Value.bytes b t from r);cases e;rfl
 |flt b=>obtain⟨t,e⟩:=(show ∃t,u=Value.float b t from r);cases e;rfl
 |ref a=>cases (show u=Value.ref a from r);rfl
 |ty n=>cases (show u=Value.type n from r);rfl
section
variable {P:Program} {w:World} {H H':Hp} {h h':Heap} {a C dx:Addr} {fs fs':List (Str × V)}
theorem tV (hok:HOk P w H h)(e:H a=some (.ins C dx fs)):∃mA,Fa h a dx C mA/\(∀f,kF (fs.lookup f) (mA f))/\PySem.Within mA (fs.map (·.1))/\fs.length<=1000/\H dx=some (.own a):=by
 obtain⟨d,z,ne,ob,mA,n,r,q⟩:=(show cK P w H h a (.ins C dx fs) from hok a _ e)
 exact⟨mA,⟨ob,n,ne⟩,r,q,z,d⟩
end
structure Cls (K:Frag) (C:Addr):Prop where
 pg:W.plainGet K C Str.empty=true
 hd:W.hasDictIn K C=true
 po:W.plainOver K C=true
 sa:W.findIn K (.ref C) "__setattr__"=some (some (.builtin "object.__setattr__"))
theorem Cls.get {K:Frag}(c:Cls K C)(f:Str):W.plainGet K C f=true:=c.pg
def gX (K:Frag)(C:Addr)(f:Str):Prop:=W.findIn K (.ref C) f=some none
theorem gX.taker {K:Frag}(n:gX K C f):W.takerIn K C f=some none:=by
 unfold W.takerIn;rw[show W.findIn K (.ref C) f=some none from n];rfl
structure gQ (K:Frag) (C:Addr) (m:Str) (f:Addr):Prop where
 at_:W.findIn K (.ref C) m=some (some (.ref f))
 fn:W.isFn K (.ref f)=true
 kp:W.keepIn K (.ref f)=true
section
variable {X:Cx} {pins:List (Addr × Obj)} {σ:St} {H:Hp} {s:Shared} {a C dx:Addr} {fs:List (Str × V)} {f:Str} {v:V} {A:Around} {E:Value->Shared->Prop}
theorem Fi (I:Inv X pins σ H s)(e:H a=some (.ins C dx fs))(c:Cls X.K C)(n:gX X.K C f)(l:fs.lookup f=some v)(h:∀u s',Inv X pins σ H s'->cA v u->Q u s'):wpAny (model X.prog X.w) A (getAttr (.ref a) f b) Q E s:=by
 obtain⟨mA,O,r,_,_,_⟩:=tV I.hok e;obtain⟨u,hu,ru⟩:=kF.some_of (v:=v) (o:=mA f) (by rw[<- l];exact r f);exact Vs I.kIn O (c.get f) c.hd n hu (xS ru) (h u _ (I.tok _) ru)
theorem jQ (I:Inv X pins σ H s)(e:H a=some (.ins C dx fs))(c:Cls X.K C)(k:gQ X.K C m g)(l:fs.lookup m=none)(h:Q (.ref g,[.ref a]) s):wpAny (model X.prog X.w) A (getMethod (.ref a) m pl) Q E s:=by
 obtain⟨mA,O,r,_,_,_⟩:=tV I.hok e;have hn:mA m=none:=kF.none_of (by rw[<- l];exact r m);exact Of I.kIn O (c.get m) k.at_ k.fn hn h
theorem Gb (I:Inv X pins σ H s)(e:H a=some (.ins C dx fs))(c:Cls X.K C)(n:gX X.K C f)(hl:fs.length < 1000)(ry:cA y u)(h:∀s',Inv X pins σ (upd H a (.ins C dx (fD f y fs))) s'->Q () s'):wpAny (model X.prog X.w) A (setAttr (.ref a) f u) Q E s:=by
 obtain⟨mA,O,r,wi,_,ho⟩:=tV I.hok e;have hz:(fs.map (·.1)).length<=sizeLine:=by rw[length_map,sizeLine_eq];lia
 refine Vi I.kIn O c.sa c.po n.taker c.hd wi hz fun h' O' sb=>h _ ?_;have hd:∃o,h'.get? dx=some o:=let ⟨o,_,_,e',_⟩:=O'.ns;⟨o,e'⟩
 refine I.write (x:=a) (e:=dx) (by rw[e];exact True.intro) (.inr ho) (fun b q hb z=>(sb.2 b hb).trans z) hd ?_;refine⟨by rw[aL O.ne];exact ho,?_,O.ne,O'.obj,_,O'.ns,fun g=>?_,fun g hg=>?_⟩
 ·have:=fE f y fs;lia
 ·show kF ((fD f y fs).lookup g) (if g=f then some u else mA g);rw[bN]
  by_cases q:g=f
  ·rw[if_pos q,if_pos q];exact ry
  ·rw[if_neg q,if_neg q];exact r g
 ·by_cases q:g=f
  ·rw[q];exact(rJ f y fs).1
  ·refine(rJ f y fs).2 g (wi g fun z=>hg ?_);show (if g=f then some u else mA g)=none;rw[if_neg q];exact z
theorem Inv.made (I:Inv X pins σ H s):Inv X pins σ (upd (upd H s.heap.objs.size (.own (s.heap.objs.size+1))) (s.heap.objs.size+1) (.ins C s.heap.objs.size []))
  { s with heap:=(s.heap.push W.emptyDict).push (W.instObj C s.heap.objs.size) }:=by
 have e1:(s.heap.push W.emptyDict).get? s.heap.objs.size=some W.emptyDict:=Heap.get?_push_size s.heap rfl;have e2:((s.heap.push W.emptyDict).push (W.instObj C s.heap.objs.size)).get? (s.heap.objs.size+1)=some (W.instObj C s.heap.objs.size):=by
  have:=Heap.get?_push_size (s.heap.push W.emptyDict) (o:=W.instObj C s.heap.objs.size) rfl
  rwa [Heap.size_push] at this
 have e3:(s.heap.push W.emptyDict).Ns s.heap.objs.size (fun _=>none):=⟨W.emptyDict,#[],_,e1,rfl,(fun e he=>absurd he (by simp)),fun _=>rfl⟩
 have I1:=I.laid (a:=s.heap.objs.size) (o:=.own (s.heap.objs.size+1)) (h':=s.heap.push W.emptyDict) (t':=s.toks) (fun b u q=>Heap.get?_push_of_some _ q) (Nat.le_refl _) ⟨_,e1⟩;refine I1.laid (a:=s.heap.objs.size+1) (o:=.ins C s.heap.objs.size []) (t':=s.toks) (fun b u q=>Heap.get?_push_of_some _ q) (Nat.le_of_eq (Heap.size_push _ _)) ?_;have ne:s.heap.objs.size≠s.heap.objs.size+1:=Nat.ne_of_lt (Nat.lt_succ_self _);refine⟨by rw[aL ne,aB],Nat.zero_le _,ne,e2,fun _=>none,(Heap.Ns1.of_empty e3).at fun o q=>Heap.get?_push_of_some _ q,fun _=>True.intro,fun y hy=>absurd rfl hy⟩
theorem Jk (hb:attributeBase e f env (eval e env)=eval e env)(h:wpAny (model prog w) A (eval e env) (fun o s₁=>wpAny (model prog w) A (getAttr o f true) Q E s₁) E s):wpAny (model prog w) A (eval (.Attribute e f pos) env) Q E s:=
 Attribute_any_ h (by rw[arm_eval_Attribute,hb])
end
def ql6 (K:Frag)(ta:TE)(f:Str):TE:=fun σ H Q=>ta σ H fun x H1=>∃a C dx fs v,x=.ref a/\H1 a=some (.ins C dx fs)/\Cls K C/\gX K C f/\fs.lookup f=some v/\Q v H1
def qp6 (K:Frag)(ta tv:TE)(f:Str):TS:=fun D σ H=>tv σ H fun y H1=>ta σ H1 fun x H2=>∃a C dx fs,x=.ref a/\H2 a=some (.ins C dx fs)/\Cls K C/\gX K C f/\fs.length < 1000/\
 D.nx σ (upd H2 a (.ins C dx (fD f y fs)))
section
variable {X:Cx} {o e value:Expr} {f:Str} {pos pos' tpos:Pos} {ta tv:TE}
theorem bZ (he:PE X e ta)(hb:attributeBase e f X.env (eval e X.env)=eval e X.env):PE X (.Attribute e f pos) (ql6 X.K ta f):=by
 intro pins s σ H Q I h;refine Jk hb (thn (he pins s σ H _ I h) fun u s1 ⟨x,H1,I1,rx,a,C,dx,fs,v,ex,ea,c,n,l,q⟩=>?_);subst ex;obtain rfl:u=Value.ref a:=rx;exact Fi I1 ea c n l fun u' s2 I2 ru=>⟨v,H1,I2,ru,q⟩
theorem lZ (ha:PE X o ta)(hv:PE X value tv)(hs:swapsWith value (some (.Attribute o f pos')) pos.line X.env=pure false):PS X (.Assign [.Attribute o f pos'] value pos) (qp6 X.K ta tv f):=by
 intro pins s σ H D I h;refine plainObj_wpAny_Assign_Attribute (thn (hv pins s σ H _ I h) fun u s1 ⟨y,H1,I1,ry,q⟩=>thn (ha pins s1 σ H1 _ I1 q) fun ov s2 ⟨x,H2,I2,rx,a,C,dx,fs,ex,ea,c,n,l,q2⟩=>?_) hs;subst ex;obtain rfl:ov=Value.ref a:=rx;exact Gb I2 ea c n l ry fun s3 I3=>⟨σ,_,I3,q2⟩
end
section
variable {X:Cx} {pins:List (Addr × Obj)} {σ:St} {H:Hp} {s:Shared} {A:Around} {E:Value->Shared->Prop} {Q:Value->Shared->Prop} {c:Value} {b:Bool}
inductive kQ (K:Frag) (H:Hp):V->Value->Prop where
 |non:kQ K H .non (.type "NoneType")
 |bl (x:Bool):kQ K H (.bl x) (.type "bool")
 |int (i:Int):kQ K H (.int i) (.type "int")
 |str (x:Str):kQ K H (.str x) (.type "str")
 |flt (x:UInt64):kQ K H (.flt x) (.type "float")
 |lst {a:Addr} {xs:List V} (e:H a=some (.lst xs)):kQ K H (.ref a) (.type "list")
 |frz {a:Addr} {o:Obj} {xs:List V} (e:H a=some (.frz o (.lst xs))):kQ K H (.ref a) (.type "list")
 |tup {a:Addr} {xs:List V} (e:H a=some (.tup xs)):kQ K H (.ref a) (.type "tuple")
 |dK {a:Addr} {kvs:List (Key × V)} (e:H a=some (.dK kvs)):kQ K H (.ref a) (.type "dict")
 |dT {a:Addr} {kvs:List (List Key × V)} (e:H a=some (.dT kvs)):kQ K H (.ref a) (.type "dict")
 |ins {a C dx:Addr} {fs:List (Str × V)} (e:H a=some (.ins C dx fs)) (cl:Cls K C) (ha:W.findIn K (.ref C) "__class__"=some (some (.builtin "object.__class__")))
   (hn:W.specialIn K (.builtin "object.__class__") "__get__"=some (some (.builtin "getset_descriptor.__get__"))) (htk:W.takesIn K (.builtin "object.__class__")=some true)
   (hm:W.mroIn K C (.type "object")=some true):kQ K H (.ref a) (.ref C)
theorem Le (I:Inv X pins σ H s)(rx:cA x u)(ty:kQ X.K H x t)(e:W.kitOne X.K t c=some b)(h:∀tk,Q (.bool b) { s with toks:=tk }):
  wpAny (model X.prog X.w) A (call (.builtin "isinstance") [u,c]) Q E s:=by
 cases ty with
 |non=>cases (show u=Value.none from rx);exact W.kia_one W.kitx_none I.kIn True.intro e (fun z=>nomatch z) h
 |bl y=>cases (show u=Value.bool y from rx);exact W.kia_one W.kitx_bool I.kIn True.intro e (fun z=>nomatch z) h
 |int i=>obtain⟨t,q⟩:=(show ∃t,u=Value.int i t from rx);cases q;exact W.kia_one W.kitx_int I.kIn True.intro e (fun z=>nomatch z) h
 |str y=>obtain⟨t,q⟩:=(show ∃t,u=Value.str y t from rx);cases q;exact W.kia_one W.kitx_str I.kIn True.intro e (fun z=>nomatch z) h
 |flt y=>obtain⟨t,q⟩:=(show ∃t,u=Value.float y t from rx);cases q;exact W.kia_one W.kitx_float I.kIn True.intro e (fun z=>nomatch z) h
 | @lst a xs ea=>
  cases (show u=Value.ref a from rx)
  obtain⟨_,_,n,_,h1⟩:=(show cK X.prog X.w H s.heap a (.lst xs) from I.hok a _ ea)
  exact W.kia_one W.kitx_list I.kIn ⟨_,h1,rfl⟩ e (fun z=>nomatch z) h
 | @frz a ob xs ea=>
  cases (show u=Value.ref a from rx)
  obtain⟨_,_,_,n,_,h1⟩:=(show cK X.prog X.w H s.heap a (.frz ob (.lst xs)) from I.hok a _ ea)
  exact W.kia_one W.kitx_list I.kIn ⟨_,h1,rfl⟩ e (fun z=>nomatch z) h
 | @tup a xs ea=>
  cases (show u=Value.ref a from rx)
  obtain⟨_,_,_,p⟩:=(show cK X.prog X.w H s.heap a (.tup xs) from I.hok a _ ea)
  obtain⟨o,h1,h2,_⟩:=p;exact W.kia_one W.kitx_tuple I.kIn ⟨o,h1,h2⟩ e (fun z=>nomatch z) h
 | @dK a kvs ea=>
  cases (show u=Value.ref a from rx)
  obtain⟨_,_,vs,_,p⟩:=(show cK X.prog X.w H s.heap a (.dK kvs) from I.hok a _ ea)
  obtain⟨o,es,ep,h1,h2,_⟩:=p;exact W.kia_one W.kitx_dict I.kIn ⟨o,h1,h2.1⟩ e (fun z=>nomatch z) h
 | @dT a kvs ea=>
  cases (show u=Value.ref a from rx)
  obtain⟨_,_,xs,_,o,es,ep,h1,h2,_⟩:=(show cK X.prog X.w H s.heap a (.dT kvs) from I.hok a _ ea)
  exact W.kia_one W.kitx_dict I.kIn ⟨o,h1,h2.1⟩ e (fun z=>nomatch z) h
 | @ins a C dx fs ea cl ha hn htk hm=>
  cases (show u=Value.ref a from rx)
  obtain⟨mA,O,_⟩:=tV I.hok ea;obtain⟨od,J,_⟩:=O.look;exact W.kia_one (W.kitx_own (cl.get _) cl.hd ha hn htk hm) I.kIn J e (fun z=>nomatch z) h
end
structure gM (k:Nat) (A:Around):Prop where
 hd:A.handled=none
 dp:A.depth+3*k+5 < recursionLimit
 un:A.units+16*k+200 < cLine
theorem gM.mono (r:gM k A)(h:j<=k):gM j A:=⟨r.hd,by have:=r.dp;lia,by have:=r.un;lia⟩
theorem gM.deeper (r:gM (k+1) A)(env:Env):gM k (A.deeper env):=
 ⟨r.hd,by have:=r.dp;show A.depth+1+3*k+5 < _;lia,by have:=r.un;show A.units+3+16*k+200 < _;lia⟩
theorem Hh {A:Around}:(A.under (.builtin "type.__call__" ⟨.ref C :: us,kw⟩)).depth=A.depth+1:=by
 first | rfl | simp[Around.under,Code.weight,Code.isCreation,Code.isGuard,Code.isCaller,Code.frames,Code.isFrame,guardIds]
theorem Fd {A:Around}:(A.under (.builtin "type.__call__" ⟨.ref C :: us,kw⟩)).units=A.units+1:=by
 first | rfl | simp[Around.under,Code.cUnits,Code.frames,Code.isFrame]
theorem gM.make (r:gM (k+1) A)(C:Addr)(us:List Value)(kw:List (Str × Value)):gM k (A.under (.builtin "type.__call__" ⟨.ref C :: us,kw⟩)):=
 ⟨r.hd,by have:=r.dp;rw[Hh];lia,by have:=r.un;rw[Fd];lia⟩
theorem gM.depth (r:gM k A):A.depth < recursionLimit:=by have:=r.dp;lia
theorem gM.units (r:gM k A):A.units+64 < cLine:=by have:=r.un;lia
def qb2:TA:=fun _ H Q=>Q [] H
def qk0 (ta:TE)(tr:TA):TA:=fun σ H Q=>ta σ H fun x H1=>tr σ H1 fun xs H2=>Q (x :: xs) H2
section
variable {X:Cx} {e:Expr} {es:List Expr} {te:TE} {t:TA} {pos:Pos}
theorem aD:PA X [] qb2:=fun _ _ _ _ H Q I h=>Calls.spliced_nil ⟨[],H,I,.nil,h⟩
theorem aA (ha:PE X e te)(hr:PA X es t)(hs:starEach (e :: es) X.env=(false,eval e X.env) :: starEach es X.env:=by rfl):PA X (e :: es) (qk0 te t):=by
 intro pos pins s σ H Q I h;rw[hs];show wpAny _ _ (spliced ((false,eval e X.env) :: backTo pos (starEach es X.env))) _ _ s;refine Calls.spliced_cons (thn (ha pins s σ H _ I h) fun u s1 ⟨x,H1,I1,r1,q1⟩=>?_);exact thn (hr pos pins s1 σ H1 _ I1 q1) fun us s2 ⟨xs,H2,I2,r2,q2⟩=>⟨x :: xs,H2,I2,.cons r1 r2,q2⟩
def qm6 (t:TA):TE:=fun σ H Q=>t σ H fun xs H1=>xs.length<=sizeLine/\∀p,H1 p=none->Q (.ref p) (upd H1 p (.tup xs))
def qn9 (t:TA):TE:=fun σ H Q=>t σ H fun xs H1=>xs.length<=sizeLine/\∀p,H1 p=none->Q (.ref p) (upd H1 p (.lst xs))
theorem cU {x1}(h:PA X es t):PE X (.Tuple es x1 pos) (qm6 t):=by
 intro pins s σ H Q I hq;refine wpAny_Tuple_spliced (thn (h pos pins s σ H _ I hq) fun us s1 ⟨xs,H1,I1,r,z,q⟩=>⟨by rw[<- r.length];exact z,?_⟩);have hf:H1 s1.heap.objs.size=none:=I1.hok.fresh (Nat.le_refl _);refine⟨.ref s1.heap.objs.size,upd H1 s1.heap.objs.size (.tup xs),I1.laid (t':=s1.toks) (fun b u e=>Heap.get?_push_of_some _ e) (Nat.le_refl _) ?_,rfl,q _ hf⟩;exact⟨z,us,r,⟨_,Heap.get?_push_size _ rfl,rfl,_,rfl⟩⟩
theorem dG (h:PA X es t):PE X (.List es pos) (qn9 t):=by
 intro pins s σ H Q I hq;refine wpAny_List_spliced (thn (h pos pins s σ H _ I hq) fun us s1 ⟨xs,H1,I1,r,z,q⟩=>⟨by rw[<- r.length];exact z,?_⟩);have hf:H1 s1.heap.objs.size=none:=I1.hok.fresh (Nat.le_refl _);refine⟨.ref s1.heap.objs.size,upd H1 s1.heap.objs.size (.lst xs),I1.laid (t':=s1.toks) (fun b u e=>Heap.get?_push_of_some _ e) (Nat.le_refl _) ?_,rfl,q _ hf⟩;exact⟨z,us,0,r,Heap.get?_push_size _ rfl⟩
end
abbrev Sp:=List V->Hp->VK->XK->Prop
abbrev CXT:=List Env->Hp->Shared->XK->Value->Shared->Prop
structure Go (P:Program) (w:World) (K:Frag) (mg:Str->Option Value) (base:Heap) (A:Around) (outer:List Env) (s:Shared) (H:Hp):Prop where
 frames:A.frames=some outer
 mod:Mod K mg base
 bs:∀b o,base.get? b=some o->s.heap.get? b=some o/\H b=none
 bsz:base.objs.size<=s.heap.objs.size
 funs:s.heap.FunFrames base outer
 frf:∀b∈frs outer,H b=none
 hok:HOk P w H s.heap
 bare:AllBare s.gens
def CE (outer:List Env)(P:Program)(w:World)(H:Hp)(s:Shared)(Q:VK)(u:Value)(s':Shared):Prop:=
 ∃v H',s'.os=s.os/\AllBare s'.gens/\Un (frs outer) [] H H' s.heap s'.heap/\HOk P w H' s'.heap/\cA v u/\Q v H'
def CR (CX:CXT)(outer:List Env)(P:Program)(w:World)(H:Hp)(s:Shared)(Q:VK)(E:XK)(r:Result)(s':Shared):Prop:=
 match r with
 | .ok (.ret u)=>CE outer P w H s Q u s'
 | .ok _=>False
 | .error e=>CX outer H s E e s'
structure aK (P:Program) (w:World) (K:Frag) (mg:Str->Option Value) (base:Heap) (CX:CXT) (k:Nat) (f:Addr) (fd:FuncData) (ps:List Str) (sp:Sp):Prop where
 len:∀vs H Q E,sp vs H Q E->vs.length=ps.length
 run:∀(A:Around) (outer:List Env) (s:Shared) (H:Hp) (args:Args) (us:List Value) (vs:List V) (Q:VK) (E:XK),gM k A->Go P w K mg base A outer s H->BindsTo s fd args (ps.zip us)->bQ vs us->sp vs H Q E->
  codeAny (model P w) A (.call (.ref f) args) (CR CX outer P w H s Q E) s
theorem aK.mono {K:Frag}(F:aK P w K mg base CX j f fd ps sp)(h:j<=k):
  aK P w K mg base CX k f fd ps sp:=⟨F.len,fun A outer s H args us vs Q E hr=>F.run A outer s H args us vs Q E (hr.mono h)⟩
theorem Go.make {K:Frag}(e:Go P w K mg base A outer s H)(C:Addr)(us:List Value)(kw:List (Str × Value)):
  Go P w K mg base (A.under (.builtin "type.__call__" ⟨.ref C :: us,kw⟩)) outer s H:=⟨by first | exact e.frames | (simpa[Around.under,Code.envs,Code.isFrame,pushEnvs] using e.frames),e.mod,e.bs,e.bsz,e.funs,e.frf,e.hok,e.bare⟩
section
variable {X:Cx} {pins:List (Addr × Obj)} {σ:St} {H:Hp} {s s':Shared}
theorem Inv.env0 (I:Inv X pins σ H s):Go X.prog X.w X.K X.mg X.base X.A X.stack s H:=
 ⟨I.ok.frames,I.ok.mod,I.bs,Nat.le_trans I.ok.bsz I.sz,I.stack,I.stkFree,I.hok,I.bare⟩
theorem Inv.after (I:Inv X pins σ H s)(h:CE X.stack X.prog X.w H s Q u s'):EP X pins σ Q u s':=by
 obtain⟨v,H',os,bare,un,hok,r,q⟩:=h;obtain⟨hh,g,d,t,os'⟩:=s';obtain rfl:os'=s.os:=os;exact⟨v,H',I.call (h':=hh) (g':=g) (d':=d) (t':=t) (ch:=[]) un hok bare (fun b z=>absurd z (by simp)),r,q⟩
end
def qe7 (sp:Sp)(dvs:List V)(E:XK)(t:TA):TE:=fun σ H Q=>t σ H fun vs H1=>sp (vs++dvs) H1 Q E
def Xr (C:Addr)(m:Str)(sp:Sp)(dvs:List V)(E:XK)(ta:TE)(t:TA):TE:=fun σ H Q=>ta σ H fun x H1=>∃a dx fs,x=.ref a/\H1 a=some (.ins C dx fs)/\fs.lookup m=none/\
 t σ H1 fun vs H2=>sp (x :: (vs++dvs)) H2 Q E
def qk9 (C:Addr)(sp:Sp)(dvs:List V)(E:XK)(t:TA):TE:=fun σ H Q=>t σ H fun vs H1=>∀x dx,H1 x=none->H1 dx=none->dx≠x->
 sp (.ref x :: (vs++dvs)) (upd (upd H1 dx (.own x)) x (.ins C dx [])) (fun v H2=>v=.non/\Q (.ref x) H2) E
def aM (K:Frag)(fd:FuncData)(ps:List Str)(ds:List Value):Prop:=
 ∀(s:Shared) (us:List Value),K.In s.heap->(us++ds).length=ps.length->BindsTo s fd ⟨us,[]⟩ (ps.zip (us++ds))
theorem aM.all {K:Frag}(h:∀us:List Value,us.length=ps.length->bindArgs fd ⟨us,[]⟩=pure (ps.zip us)):aM K fd ps []:=fun s us _ hl=>by
 rw[append_nil] at hl ⊢;exact .of_eq (h us hl)
def jZ (CX:CXT)(X:Cx)(E:XK):Prop:=∀(pins:List (Addr × Obj)) (σ:St) (H:Hp) (s:Shared) (e:Value) (s':Shared),Inv X pins σ H s->CX X.stack H s E e s'->X.xe e s'
section
variable {X:Cx} {CX:CXT} {k:Nat} {f C:Addr} {fd:FuncData} {ps:List Str} {sp:Sp} {dvs:List V} {ds:List Value} {E:XK} {x m:Str} {p pos apos:Pos} {e o:Expr} {es:List Expr} {ta:TE} {t:TA}
theorem uV (F:aK X.prog X.w X.K X.mg X.base CX k f fd ps sp)(hr:gM k X.A)(hb:aM X.K fd ps ds)(hd:bQ dvs ds)(hx:jZ CX X E)(I:Inv X pins σ H s)(r:bQ vs us)(h:sp (vs++dvs) H Q E):wpAny (model X.prog X.w) X.A (call (.ref f) us) (EP X pins σ Q) X.xe s:=by
 have r2:bQ (vs++dvs) (us++ds):=r.append hd;have hl:(us++ds).length=ps.length:=by rw[<- r2.length];exact F.len _ _ _ _ h
 refine wpAny_call (codeAny_mono (F.run X.A X.stack s H ⟨us,[]⟩ (us++ds) (vs++dvs) Q E hr I.env0 (hb s us I.kIn hl) r2 h) fun r s' hq=>?_)
 cases r with
 |error e=>exact hx pins σ H s e s' I hq
 |ok fl=>
  cases fl with
  |ret u=>exact I.after hq
  |next=>exact False.elim hq
  |brk=>exact False.elim hq
  |cont=>exact False.elim hq
theorem aI (F:aK X.prog X.w X.K X.mg X.base CX k f fd ps sp)(hr:gM k X.A)(hg:Gl X x)(hm:X.mg x=some (.ref f))(hk:W.keepIn X.K (.ref f)=true)(hb:aM X.K fd ps ds)(hd:bQ dvs ds)(hx:jZ CX X E)(ha:PA X (e :: es) t)(hdb:(x == ("__debug__":Str))=false:=by decide)(he:starEach (e :: es) X.env=(false,eval e X.env) :: starEach es X.env:=by rfl)(hpl:(backTo pos (starEach es X.env)).any (·.1)=false:=by rfl) :
  PE X (.Call (.Name x p) (e :: es) [] pos) (qe7 sp dvs E t):=by
 intro pins s σ H Q I h;refine wpAny_Call_Name_kw (jA I hg hm ?_ hdb);refine W.callWith_K (h₀:=X.base) I.ok.mod.kin hk (thn (ha pos pins s σ H _ I h) fun us s1 ⟨vs,H1,I1,r,q⟩=>⟨I1.kIn,?_⟩) he hpl;exact uV F hr hb hd hx I1 r q
theorem Ji (he:PE X o ta)(c:Cls X.K C)(hm:gQ X.K C m f)(F:aK X.prog X.w X.K X.mg X.base CX k f fd ps sp)(hr:gM k X.A)(hb:aM X.K fd ps ds)(hd:bQ dvs ds)(hx:jZ CX X E)(ha:PA X (e :: es) t)(hst:starEach (e :: es) X.env=(false,eval e X.env) :: starEach es X.env:=by rfl)(hpl:(backTo pos (starEach es X.env)).any (·.1)=false:=by rfl)(ht:eval (.Call (.Attribute o m apos) (e :: es) [] pos) X.env=(do
   let ov <- eval o X.env
   standAt apos.atName
   let (f,first) <- holding [ov] (getMethod ov m pl)
   callWith pos f first (backTo pos (starEach (e :: es) X.env)) (backToKw pos (keywordEach [] X.env))):=by rfl):
  PE X (.Call (.Attribute o m apos) (e :: es) [] pos) (Xr C m sp dvs E ta t):=by
 intro pins s σ H Q I h;refine W.methodCall_KW (pl:=pl) (thn (he pins s σ H _ I h) fun u s1 ⟨x,H1,I1,rx,a,dx,fs,ex,ea,l,q⟩=>?_) ht;subst ex;obtain rfl:u=Value.ref a:=rx;refine jQ I1 ea c hm l ?_;refine W.callWith_K (first:=[.ref a]) (h₀:=X.base) I.ok.mod.kin hm.kp (thn (ha pos pins s1 σ H1 _ I1 q) fun us s2 ⟨vs,H2,I2,r,q2⟩=>⟨I2.kIn,?_⟩) hst hpl;exact uV (us:=.ref a :: us) (vs:=.ref a :: vs) F hr hb hd hx I2 (.cons rfl r) q2
theorem gH (he:PE X o ta)(c:Cls X.K C)(hm:gQ X.K C m f)(F:aK X.prog X.w X.K X.mg X.base CX k f fd ps sp)(hr:gM k X.A)(hb:aM X.K fd ps ds)(hd:bQ dvs ds)(hx:jZ CX X E)(ht:eval (.Call (.Attribute o m apos) [] [] pos) X.env=(do
   let ov <- eval o X.env
   standAt apos.atName
   let (f,first) <- holding [ov] (getMethod ov m pl)
   callWith pos f first (backTo pos (starEach [] X.env)) (backToKw pos (keywordEach [] X.env))):=by rfl):
  PE X (.Call (.Attribute o m apos) [] [] pos) (Xr C m sp dvs E ta qb2):=by
 intro pins s σ H Q I h;refine W.methodCall_KW (pl:=pl) (thn (he pins s σ H _ I h) fun u s1 ⟨x,H1,I1,rx,a,dx,fs,ex,ea,l,q⟩=>?_) ht;subst ex;obtain rfl:u=Value.ref a:=rx;refine jQ I1 ea c hm l ?_;exact W.callWith_K0 (first:=[.ref a]) I1.kIn hm.kp (uV (us:=[.ref a]) (vs:=[.ref a]) F hr hb hd hx I1 (.cons rfl .nil) q)
structure Mk (K:Frag) (C f:Addr):Prop where
 makes:W.makesIn K C=true
 init:W.findIn K (.ref C) "__init__"=some (some (.ref f))
 fn:W.isFn K (.ref f)=true
 kp:W.keepIn K (.ref C)=true
theorem Ny (M:Mk X.K C f)(F:aK X.prog X.w X.K X.mg X.base CX k f fd ps sp)(hr:gM (k+1) X.A)(hb:aM X.K fd ps ds)(hd:bQ dvs ds)(hx:jZ CX X E)(I:Inv X pins σ H s)(r:bQ vs us)(h:∀x dx,H x=none->H dx=none->dx≠x->sp (.ref x :: (vs++dvs)) (upd (upd H dx (.own x)) x (.ins C dx [])) (fun v H2=>v=.non/\Q (.ref x) H2) E):
  wpAny (model X.prog X.w) X.A (call (.ref C) us) (EP X pins σ Q) X.xe s:=by
 have hq:=h (s.heap.objs.size+1) s.heap.objs.size (I.hok.fresh (Nat.le_succ _)) (I.hok.fresh (Nat.le_refl _)) (Nat.ne_of_lt (Nat.lt_succ_self _));have I2:=Inv.made (C:=C) I;have r2:bQ (V.ref (s.heap.objs.size+1) :: (vs++dvs)) (Value.ref (s.heap.objs.size+1) :: (us++ds)):=.cons rfl (r.append hd);have hl:(Value.ref (s.heap.objs.size+1) :: us++ds).length=ps.length:=by
  have e:=r2.length;rw[F.len _ _ _ _ hq] at e;exact e.symm
 refine wpAny_call (Cj (f:=f) I.kIn M.makes M.init (beq_iff_eq.mp M.fn) (codeAny_mono (F.run _ X.stack _ _ ⟨Value.ref (s.heap.objs.size+1) :: us,[]⟩ (Value.ref (s.heap.objs.size+1) :: (us++ds)) _ _ E (hr.make C us [])
  (I2.env0.make C us []) (hb _ (Value.ref (s.heap.objs.size+1) :: us) I2.kIn hl) r2 hq) fun r s' hq'=>?_))
 cases r with
 |error e=>exact hx pins σ _ _ e s' I2 hq'
 |ok fl=>
  cases fl with
  |ret u=>
   obtain⟨v,H',I3,rv,ev,q3⟩:=I2.after hq';subst ev;exact⟨rv,⟨V.ref (s.heap.objs.size+1),H',I3,rfl,q3⟩⟩
  |next=>exact False.elim hq'
  |brk=>exact False.elim hq'
  |cont=>exact False.elim hq'
theorem qR (M:Mk X.K C f)(F:aK X.prog X.w X.K X.mg X.base CX k f fd ps sp)(hr:gM (k+1) X.A)(hg:Gl X x)(hm:X.mg x=some (.ref C))(hb:aM X.K fd ps ds)(hd:bQ dvs ds)(hx:jZ CX X E)(ha:PA X (e :: es) t)(hdb:(x == ("__debug__":Str))=false:=by decide)(he:starEach (e :: es) X.env=(false,eval e X.env) :: starEach es X.env:=by rfl)(hpl:(backTo pos (starEach es X.env)).any (·.1)=false:=by rfl) :
  PE X (.Call (.Name x p) (e :: es) [] pos) (qk9 C sp dvs E t):=by
 intro pins s σ H Q I h;refine wpAny_Call_Name_kw (jA I hg hm ?_ hdb);refine W.callWith_K (h₀:=X.base) I.ok.mod.kin M.kp (thn (ha pos pins s σ H _ I h) fun us s1 ⟨vs,H1,I1,r,q⟩=>⟨I1.kIn,?_⟩) he hpl;exact Ny M F hr hb hd hx I1 r q
end
structure aQ (N P:List Str) (sc:Scope):Prop where
 kind:sc.kind=.function
 co:sc.isCoroutine=false
 gen:sc.isGenerator=false
 nd:N.Nodup
 pre:N.take P.length=P
 par:∀x∈P,sc.names.lookup x=some .local\/sc.names.lookup x=some .cell
 nofree:∀y∈sc.names,y.2≠.free
theorem sK9 (a:sc.kind=.function:=by rfl)(b:sc.isCoroutine=false:=by rfl)(c:sc.isGenerator=false:=by rfl)(d:N.take P.length=P:=by rfl)(e:(decide N.Nodup&&decide (∀x∈P,sc.names.lookup x=some .local\/sc.names.lookup x=some .cell)&&decide (∀y∈sc.names,y.2≠.free))=true:=by decide +kernel):aQ N P sc:=by
 rw[Bool.and_eq_true,Bool.and_eq_true] at e
 exact ⟨a,b,c,of_decide_eq_true e.1.1,d,of_decide_eq_true e.1.2,of_decide_eq_true e.2⟩
theorem zl9 (n:Nat)(h:n<=16:=by decide):n<=sizeLine:=Nat.le_trans h (by decide)
abbrev kI9 (K:Frag)(g:Addr):Prop:=W.keepIn K (.ref g)=true
abbrev mI9 (mg:Str->Option Value)(x:Str)(g:Addr):Prop:=mg x=some (.ref g)
theorem zF {kindOf:Str->Option NameKind}:∀{binds:List (Str × Value)} {m:Str->Option Value},(∀v,(x,v)∉binds)->bindL kindOf binds m x=m x
 | [],_,_=>rfl
 | (n,v) :: r,m,h=>by
  unfold bindL;rw[zF fun w hw=>h w (mem_cons_of_mem _ hw)];split
  ·have:x≠n:=by rintro rfl;exact h v mem_cons_self
   simp[this]
  ·rfl
theorem yV {kindOf:Str->Option NameKind}:∀{binds:List (Str × Value)} {m:Str->Option Value},(∀v,(x,v)∉binds)->bindC kindOf binds m x=m x
 | [],_,_=>rfl
 | (n,v) :: r,m,h=>by
  unfold bindC;rw[yV fun w hw=>h w (mem_cons_of_mem _ hw)];split
  ·rfl
  ·have:x≠n:=by rintro rfl;exact h v mem_cons_self
   simp[this]
theorem xT {kindOf:Str->Option NameKind}:∀{P:List Str} {vs:List Value} {i:Nat} {m:Str->Option Value},P.Nodup->P[i]?=some x->vs[i]?=some v->kindOf x=some .local->
  bindL kindOf (P.zip vs) m x=some v
 | [],_,_,_,_,h,_,_=>by simp at h
 |_ :: _,[],_,_,_,_,h,_=>by simp at h
 |p :: P,w :: vs,0,m,nd,h1,h2,hk=>by
  simp at h1 h2;subst h1;subst h2;show bindL kindOf ((p,w) :: P.zip vs) m p=_;unfold bindL;rw[zF fun v hv=>(nodup_cons.mp nd).1 (of_mem_zip hv).1,if_pos hk];simp
 |p :: P,w :: vs,i+1,m,nd,h1,h2,hk=>by
  show bindL kindOf ((p,w) :: P.zip vs) m x=_;unfold bindL;exact xT (i:=i) (nodup_cons.mp nd).2 (by simpa using h1) (by simpa using h2) hk
theorem yX {kindOf:Str->Option NameKind}:∀{P:List Str} {vs:List Value} {i:Nat} {m:Str->Option Value},P.Nodup->P[i]?=some x->vs[i]?=some v->kindOf x≠some .local->
  bindC kindOf (P.zip vs) m x=some v
 | [],_,_,_,_,h,_,_=>by simp at h
 |_ :: _,[],_,_,_,_,h,_=>by simp at h
 |p :: P,w :: vs,0,m,nd,h1,h2,hk=>by
  simp at h1 h2;subst h1;subst h2;show bindC kindOf ((p,w) :: P.zip vs) m p=_;unfold bindC;rw[yV fun v hv=>(nodup_cons.mp nd).1 (of_mem_zip hv).1,if_neg hk];simp
 |p :: P,w :: vs,i+1,m,nd,h1,h2,hk=>by
  show bindC kindOf ((p,w) :: P.zip vs) m x=_;unfold bindC;exact yX (i:=i) (nodup_cons.mp nd).2 (by simpa using h1) (by simpa using h2) hk
def start (N:List Str)(vs:List V):St:=vs.map some++replicate (N.length - vs.length) none
def wY (CX:CXT)(P:Program)(w:World)(K:Frag)(mg:Str->Option Value)(base:Heap)(N:List Str)(qual:Str)(scope:Scope)(f:Addr)(cd:Value)(A:Around)(outer:List Env)(s:Shared)(H:Hp)(E:XK):Cx where
 prog:=P
 w:=w
 K:=K
 mg:=mg
 base:=base
 A:=A.deeper (envOfC qual scope s.heap.objs.size f cd)
 N:=N
 s₀:=s
 H₀:=H
 env:=envOfC qual scope s.heap.objs.size f cd
 outer:=outer
 stack:=envOfC qual scope s.heap.objs.size f cd :: outer
 ex:=[]
 calm:=true
 fn:=fun _=>true
 pn:=[]
 xe:=fun e s'=>wpAny (model P w) (A.deeper (envOfC qual scope s.heap.objs.size f cd)) (leaving (envOfC qual scope s.heap.objs.size f cd) e) (fun _ s''=>CX outer H s E e s'') (fun e' s''=>CX outer H s E e' s'') s'
theorem Dv {sc:Scope}(h:sc.names.lookup x=some .cell):∃c,(cellsFrom n sc.names []).lookup x=some c:=by
 have q:=W.cellsFrom_some sc.names n [] (.inl h);exact Option.isSome_iff_exists.mp q
theorem Ld {K:Frag}(S:aQ N ps scope)(hd:A.handled=none)(e0:Go P w K mg base A outer s H)(hl:vs.length=ps.length)(r:bQ vs us)(x:InCallC s s.heap.objs.size (bindL (envOfC qual scope s.heap.objs.size f cd).kindOf (ps.zip us) fun _=>none) (cellsFrom (s.heap.objs.size+1) scope.names []) (bindC (envOfC qual scope s.heap.objs.size f cd).kindOf (ps.zip us) fun _=>none) s1):
  Inv (wY CX P w K mg base N qual scope f cd A outer s H E) [] (start N vs) H s1:=by
 have hpl:ps.length<=N.length:=by have:=congrArg List.length S.pre;rw[length_take] at this;lia
 obtain⟨h1,tk,rfl,hk⟩:=x.done;have noA:∀b:Addr,b∉(wY CX P w K mg base N qual scope f cd A outer s H E).ex:=fun b z=>absurd (show b∈([]:List Addr) from z) (by simp);refine⟨⟨e0.mod,S.kind,rfl,rfl,Nat.le_refl _,fun y z c h1 h2=>?_,fun y hy=>?_,fun y c _ h=>?_,fun _=>hd,Around.frames_deeper e0.frames,.inr ⟨rfl,rfl⟩,fun b z=>absurd z (noA b),e0.bs,e0.bsz,fun b _ _=>noA b,fun b z=>absurd z (noA b),e0.funs,e0.frf⟩,
  rfl,e0.bare,Un.kept hk,⟨_,x.toInCall.ns,fun i y v h1 h2 h3=>?_⟩,fun y c h=>⟨_,x.cell y c h⟩,e0.hok.fresh (Nat.le_refl _),fun y c h=>?_,fun p hp=>absurd (show p∈([]:List (Addr × Obj)) from hp) (by simp),e0.hok.kept hk,?_⟩
 ·exact name_of_addr x.apart (PySem.mem_of_lookup h1) (PySem.mem_of_lookup h2)
 ·have hy:scope.names.lookup y=some .cell\/scope.names.lookup y=some .free:=hy;rcases hy with hy | hy
  ·exact Dv hy
  ·exact absurd rfl (S.nofree _ (PySem.mem_of_lookup hy))
 ·exact Nat.le_of_lt (x.above y c (PySem.mem_of_lookup h))
 ·have hi:i < vs.length:=by
   unfold start at h2
   by_cases hi:i < vs.length
   ·exact hi
   ·rw[getElem?_append_right (by simpa using hi)] at h2;rw[getElem?_replicate] at h2;split at h2<;>cases h2
  have ha:vs[i]?=some v:=by
   unfold start at h2;rw[getElem?_append_left (by simpa using hi),getElem?_map] at h2
   cases e:vs[i]? with
   |none=>rw[e] at h2;cases h2
   |some a=>rw[e] at h2;cases h2;rfl
  obtain⟨u,hu,rv⟩:=r.get ha;have hp:ps[i]?=some y:=by
   rw[<- S.pre,getElem?_take_of_lt (by lia)];exact h1
  have ndP:ps.Nodup:=by rw[<- S.pre];exact S.nd.sublist (take_sublist _ _)
  refine⟨u,rv,?_⟩;rcases S.par y (mem_of_getElem? hp) with k | k
  ·exact .inl ⟨k,xT ndP hp hu k⟩
  ·obtain⟨c,e⟩:=Dv (n:=s.heap.objs.size+1) k;refine .inr ⟨.inl k,c,e,?_⟩;have q:=x.cell y c e;rw[yX ndP hp hu (by show scope.names.lookup y≠_;rw[k];decide)] at q;exact q
 ·exact e0.hok.fresh (Nat.le_of_lt (x.above y c (PySem.mem_of_lookup h)))
 ·unfold start;show _=N.length;rw[List.length_append,length_map,length_replicate];lia
theorem qe8 {K:Frag}{dV kV doc pm cdv ct oc:Value}(lk:K.lookup f=some ⟨oc,od,.func (W.fnOf name qual params body scope dV kV doc pm an cdv ct),osl⟩)(hcd:W.codeIn K cdv qual=true)(S:aQ N ps scope)(len:∀vs H Q E,sp vs H Q E->vs.length=ps.length)(hbody:∀(A:Around) (outer:List Env) (s:Shared) (H:Hp) (vs:List V) (Q:VK) (E:XK),gM k (A.deeper (envOfC qual scope s.heap.objs.size f cdv))->sp vs H Q E->
   ∃t,PSs (wY CX P w K mg base N qual scope f cdv A outer s H E) body t/\t { nx:=fun _ H'=>Q .non H',rt:=Q } (start N vs) H):
  aK P w K mg base CX (k+1) f (W.fnOf name qual params body scope dV kV doc pm an cdv ct) ps sp:=by
 refine⟨len,fun A outer s H args us vs Q E hr e0 hb r hsp=>?_⟩;have hl:=len _ _ _ _ hsp;have KX:K.In s.heap:=e0.mod.kin.keeps fun b o e=>(e0.bs b o e).1;have lim:s.heap.NoLimit:=e0.mod.nolimit.keeps fun b o e=>(e0.bs b o e).1;have hkind:∀y∈ps.zip us,scope.names.lookup y.1=some .local\/(scope.names.lookup y.1=some .cell/\((cellsFrom (s.heap.objs.size+1) scope.names []).lookup y.1).isSome=true):=fun ⟨n,v⟩ hy=>by
  rcases S.par n (of_mem_zip hy).1 with q | q
  ·exact .inl q
  ·exact .inr ⟨q,W.cellsFrom_some _ _ _ (.inl q)⟩
 refine codeAny_call_function hr.depth (KX _ _ lk) rfl S.co S.gen rfl (W.codeRec_of KX hcd) (hb _ _ _ _ ?_);refine wpAny_newFunctionEnv_cells S.kind hkind fun env he s1 x=>?_;subst he;refine⟨lim.keeps x.toInCall.keep,codeAny_func ?_⟩;obtain⟨t,ht,hq⟩:=hbody A outer s H vs Q E (hr.deeper _) hsp;have I:Inv (wY CX P w K mg base N qual scope f cdv A outer s H E) [] (start N vs) H s1:=Ld S hr.hd e0 hl r x;refine wpAny_mono (ht [] s1 (start N vs) H _ I hq) (fun fl s' hs=>?_) fun e s' hs=>hs;have fin:∀{σ':St} {H':Hp} {v:V} {u:Value},Inv (wY CX P w K mg base N qual scope f cdv A outer s H E) [] σ' H' s'->cA v u->Q v H'->CE outer P w H s Q u s':=
  fun {σ' H' v u} J rv q=>⟨v,H',J.os,J.bare,J.base,J.hok,rv,q⟩
 cases fl with
 |ret u=>
  obtain⟨v,σ',H',J,rv,q⟩:=hs;exact fin J rv q
 |next=>
  obtain⟨σ',H',J,q⟩:=hs;exact fin (v:=V.non) (u:=Value.none) J rfl q
 |brk=>
  obtain⟨_,_,_,q⟩:=hs;exact False.elim q
 |cont=>
  obtain⟨_,_,_,q⟩:=hs;exact False.elim q
section
variable {X:Cx} {x:Str} {p pos:Pos} {e:Expr} {es:List Expr} {t:TA} {id T:String} {r:List V->Hp->VK->Prop}
def tCB (r:List V->Hp->VK->Prop)(t:TA):TE:=fun σ H Q=>t σ H fun vs H1=>r vs H1 Q
theorem bV (hc:kL X (.builtin id) r)(hg:Gl X x)(hm:X.mg x=none)(hv:bootBuiltins x=some (.builtin id))(ha:PA X (e :: es) t)(hn:x≠"__name__":=by decide)(hdb:(x == ("__debug__":Str))=false:=by decide)(he:starEach (e :: es) X.env=(false,eval e X.env) :: starEach es X.env:=by rfl)(hpl:(backTo pos (starEach es X.env)).any (·.1)=false:=by rfl):PE X (.Call (.Name x p) (e :: es) [] pos) (tCB r t):=by
 intro pins s σ H Q I h;refine wpAny_Call_Name_kw (kC I hg hm hv ?_ hn hdb);exact PyProof.Rows.callWith_builtin1 (thn (ha pos pins s σ H _ I h) fun us s1 ⟨vs,H1,I1,r1,q1⟩=>hc pins s1 σ H1 vs us Q I1 r1 q1) he hpl
theorem iF (hc:kL X (.type T) r)(hg:Gl X x)(hm:X.mg x=none)(hv:bootBuiltins x=some (.type T))(ha:PA X (e :: es) t)(hn:x≠"__name__":=by decide)(hdb:(x == ("__debug__":Str))=false:=by decide)(he:starEach (e :: es) X.env=(false,eval e X.env) :: starEach es X.env:=by rfl)(hpl:(backTo pos (starEach es X.env)).any (·.1)=false:=by rfl):PE X (.Call (.Name x p) (e :: es) [] pos) (tCB r t):=by
 intro pins s σ H Q I h;refine wpAny_Call_Name_kw (kC I hg hm hv ?_ hn hdb);exact PyProof.Rows.callWith_type1 (thn (ha pos pins s σ H _ I h) fun us s1 ⟨vs,H1,I1,r1,q1⟩=>hc pins s1 σ H1 vs us Q I1 r1 q1) he hpl
end
end L2
namespace HT
open PySem PyProof.Rows
section
variable {prog:Program} {w:World} {A:Around} {E:Value->Shared->Prop} {s:Shared}
theorem cat_tup (ht:IsTup s.heap t vs.toArray)(hb:IsTup s.heap b ws.toArray)(hv:vs≠[])(h1:ws=[]->Q (.ref t) s)(h2:ws≠[]->Q (.ref s.heap.objs.size) { s with heap:=s.heap.push { cls:=.type "tuple",data:=.seq (vs++ws).toArray } })(hsz:vs.length+ws.length<=sizeLine):wpAny (model prog w) A (binaryOp .Add (.ref t) (.ref b)) Q E s:=by
 obtain⟨⟨cls,dd,data,sl⟩,ho,hc,n,hd⟩:=id ht;obtain⟨⟨cls2,dd2,data2,sl2⟩,ho2,hc2,n2,hd2⟩:=id hb;simp only at hc hd hc2 hd2;subst hc hd hc2 hd2;have e:vs.toArray++ws.toArray=(vs++ws).toArray:=by simp
 by_cases hw:ws=[]
 ·exact concat_meets ⟨_,ho,rfl⟩ ⟨_,ho2,rfl⟩ noFill_tuple_add seq_tuple_add PySem.F.slot_tuple_add PySem.F.entry_tuple_add (PySem.F.args_tuple_add_2 _ _)
   (tuple_addW1 t b vs.toArray ws.toArray n n2 dd dd2 sl sl2 (by simpa using hv) (by simp[hw])) ⟨ho,ho2,h1 hw⟩
 ·refine concat_meets ⟨_,ho,rfl⟩ ⟨_,ho2,rfl⟩ noFill_tuple_add seq_tuple_add PySem.F.slot_tuple_add PySem.F.entry_tuple_add (PySem.F.args_tuple_add_2 _ _)
   (tuple_addW2 t b vs.toArray ws.toArray n n2 dd dd2 sl sl2 (by simpa using hv) (by simpa using hw) (by rw[size_toArray,size_toArray];exact hsz)) ⟨ho,ho2,?_⟩
  rw[e];exact h2 hw
def sIx (n d:Nat):Option Int->Nat
 |none=>d
 |some v=>if v < 0 then (v+(n:Int)).toNat else min v.toNat n
end
end HT
namespace L2
open PySem PySem.Spec PyProof.Rows
abbrev TO:=St->Hp->(Option Int->Hp->Prop)->Prop
def PO (X:Cx)(e:Option Expr)(t:TO):Prop:=
 ∀(pins:List (Addr × Obj)) (s:Shared) (σ:St) (H:Hp) (Q:Option Int->Hp->Prop),Inv X pins σ H s->t σ H Q->
  wpAny (model X.prog X.w) X.A (evalPart e X.env) (fun u s'=>∃o H',Inv X pins σ H' s'/\IsPart u o/\Q o H') X.xe s
def Wr:TO:=fun _ H Q=>Q none H
def ql1 (t:TE):TO:=fun σ H Q=>t σ H fun x H1=>∃i,x=.int i/\Q (some i) H1
section
variable {X:Cx} {e:Expr} {te:TE} {lo hi:Option Expr} {tl th:TO} {pos p2:Pos}
theorem kR:PO X none Wr:=by
 intro pins s σ H Q I h;rw[evalPart_none];exact wpAny_pure ⟨none,H,I,.none,h⟩
theorem jB (h:PE X e te):PO X (some e) (ql1 te):=by
 intro pins s σ H Q I hw;rw[evalPart_some];refine thn (h pins s σ H _ I hw) fun u s1 ⟨x,H1,I1,r1,q1⟩=>?_;obtain⟨i,rfl,q⟩:=q1;obtain⟨t,rfl⟩:=r1;exact⟨some i,H1,I1,.int i t,q⟩
def SlR (X:Cx)(r:V->Option Int->Option Int->Hp->VK->Prop):Prop:=
 ∀(pins:List (Addr × Obj)) (s:Shared) (σ:St) (H:Hp) (x:V) (v vl vu:Value) (lo hi:Option Int) (sl:Addr) (Q:VK),Inv X pins σ H s->cA x v->s.heap.IsSliceOf sl vl vu .none->IsPart vl lo->IsPart vu hi->r x lo hi H Q->
  ∃T id,typeLookup (.type T) "__getitem__"=pure (some (.builtin id))/\s.TypeIs v T/\wpAny (model X.prog X.w) X.A (getItem v (.ref sl)) (EP X pins σ Q) X.xe s
def tSl (r:V->Option Int->Option Int->Hp->VK->Prop)(te:TE)(tl th:TO):TE:=fun σ H Q=>te σ H fun x H1=>tl σ H1 fun l H2=>th σ H2 fun u H3=>r x l u H3 Q
theorem iI (hr:SlR X r)(he:PE X e te)(hl:PO X lo tl)(hu:PO X hi th):PE X (.Subscript e (.Slice lo hi none p2) pos) (tSl r te tl th):=by
 intro pins s σ H Q I h;refine Subscript_ (thn (he pins s σ H _ I h) fun v s1 ⟨x,H1,I1,r1,q1⟩=>?_);refine wpAny_Slice (thn (hl pins s1 σ H1 _ I1 q1) fun vl s2 ⟨l,H2,I2,pl,q2⟩=>thn (hu pins s2 σ H2 _ I2 q2) fun vu s3 ⟨u,H3,I3,pu,q3⟩=>?_);rw[evalPart_none];refine wpAny_pure ?_;have I4:Inv X pins σ H3 { s3 with heap:=s3.heap.push { cls:=.type "slice",data:=.fields #[vl,vu,.none] } }:=I3.kept (t':=s3.toks) fun b ob q=>Heap.get?_push_of_some _ q;obtain⟨T,id,hT,ht,hg⟩:=hr pins { s3 with heap:=s3.heap.push { cls:=.type "slice",data:=.fields #[vl,vu,.none] } } σ H3 x v vl vu l u s3.heap.objs.size Q I4 r1 (Heap.IsSliceOf.new ..) pl pu q3;show wpAny (model X.prog X.w) X.A (subscriptTail e (.Slice lo hi none p2) v (.ref s3.heap.objs.size)) (EP X pins σ Q) X.xe { s3 with heap:=s3.heap.push { cls:=.type "slice",data:=.fields #[vl,vu,.none] } };exact tail_any (ops:=[.ref s3.heap.objs.size,v]) ht hT hg (by with_unfolding_all rfl)
def qW (xs:List V)(lo hi:Option Int):List V:=(xs.drop (HT.sIx xs.length 0 lo)).take (HT.sIx xs.length xs.length hi - HT.sIx xs.length 0 lo)
theorem Dj (xs:List V)(lo hi:Option Int):(qW xs lo hi).length<=xs.length:=by
 unfold qW;exact Nat.le_trans (length_take_le' _ _) (by rw[length_drop];exact Nat.sub_le _ _)
def qj4 (K:Frag):R2:=fun x y H Q=>∃a b xs ys,x=.ref a/\y=.ref b/\SqT K H a xs/\SqT K H b ys/\xs≠[]/\xs.length+ys.length<=sizeLine/\
 (ys=[]->Q (.ref a) H)/\(ys≠[]->∀p,H p=none->Q (.ref p) (upd H p (.tup (xs++ys))))
theorem bQ.nil_iff (r:bQ xs us):us=[]↔xs=[]:=by
 cases r with
 |nil=>simp
 |cons _ _=>simp
theorem nU:OpR X (binaryOp .Add) (qj4 X.K):=by
 intro pins s σ H x y v u Q I rx ry h;obtain⟨a,b,xs,ys,rfl,rfl,ha,hb,hx,hz,q1,q2⟩:=h
 cases rx
 cases ry
 obtain⟨its,r1,p1,_⟩:=I.tuple ha;obtain⟨its2,r2,p2,_⟩:=I.tuple hb;refine HT.cat_tup p1 p2 (fun z=>hx (r1.nil_iff.mp z)) (fun z=>⟨.ref a,H,I,rfl,q1 (r2.nil_iff.mp z)⟩) (fun z=>?_) (by rw[<- r1.length,<- r2.length];exact hz);refine⟨.ref s.heap.objs.size,_,I.laid (t':=s.toks) (o:=.tup (xs++ys)) (fun b ob q=>Heap.get?_push_of_some _ q) (Nat.le_refl _) ?_,rfl,q2 (fun w=>z (r2.nil_iff.mpr w)) _ (I.hok.fresh (Nat.le_refl _))⟩;exact⟨by rw[List.length_append];exact hz,_,r1.append r2,IsTup.new _ _⟩
end
def ixN (n:Nat)(i:Int):Option Nat:=if 0<=i then (if i < n then some i.toNat else none) else if -(n:Int)<=i then some (i+n).toNat else none
def atI {α:Type}(xs:List α)(i:Int):Option α:=(ixN xs.length i).bind fun j=>xs[j]?
theorem Jh (h:ixN n i=some j):seqIndex? i n=some j/\j < n/\-(n:Int)<=i/\i < n:=by
 unfold ixN at h
 by_cases h0:0<=i
 ·rw[if_pos h0] at h
  by_cases h1:i < n
  ·rw[if_pos h1] at h;have e:i.toNat=j:=Option.some.inj h;exact⟨by rw[seqIndex_of h0 h1,e],by lia,by lia,h1⟩
  ·rw[if_neg h1] at h;cases h
 ·rw[if_neg h0] at h
  by_cases h1:-(n:Int)<=i
  ·rw[if_pos h1] at h;have e:(i+n).toNat=j:=Option.some.inj h;exact⟨by rw[seqIndex_neg (by lia) h1,e],by lia,h1,by lia⟩
  ·rw[if_neg h1] at h;cases h
theorem Ip (h:atI xs i=some v):∃j,seqIndex? i xs.length=some j/\xs[j]?=some v/\j < xs.length/\-(xs.length:Int)<=i/\i < xs.length:=by
 unfold atI at h
 cases e:ixN xs.length i with
 |none=>rw[e] at h;cases h
 |some j=>
  rw[e] at h;obtain⟨h1,h2,h3,h4⟩:=Jh e;exact⟨j,h1,h,h2,h3,h4⟩
theorem bY {xs:List α}{j:Nat}{v:α}(h:xs[j]?=some v):atI xs (j:Int)=some v:=by
 have hj:j < xs.length:=(List.getElem?_eq_some_iff.mp h).1;have e:ixN xs.length (j:Int)=some j:=by
  unfold ixN;rw[if_pos (by lia),if_pos (by lia)];simp
 unfold atI;rw[e];exact h
def Uw (b:Expr):Prop:=∀o i,subscripted b false o i=operate [o,i] (getItem o i)
def IxR (X:Cx)(r:R2):Prop:=
 ∀(value slice:Expr) (pins:List (Addr × Obj)) (s:Shared) (σ:St) (H:Hp) (x y:V) (v u:Value) (Q:VK),Inv X pins σ H s->cA x v->cA y u->r x y H Q->
  subscripted slice false v u=operate [v,u] (getItem v u)->wpAny (model X.prog X.w) X.A (subscriptTail value slice v u) (EP X pins σ Q) X.xe s
def MtR (X:Cx)(id:String)(r:V->List V->Hp->VK->Prop):Prop:=
 ∀(pins:List (Addr × Obj)) (s:Shared) (σ:St) (H:Hp) (x:V) (xs:List V) (v:Value) (us:List Value) (Q:VK),Inv X pins σ H s->cA x v->bQ xs us->r x xs H Q->
  wpAny (model X.prog X.w) X.A (call (.builtin id) (v :: us)) (EP X pins σ Q) X.xe s
section
variable {X:Cx} {a b:Expr} {ta tb:TE} {pos:Pos}
theorem aU (hr:IxR X r)(ha:PE X a ta)(hb:PE X b tb)(hs:Uw b):PE X (.Subscript a b pos) (tOp r ta tb):=by
 intro pins s σ H Q I h;exact Subscript_ (Yu ha hb I h fun v u s2 x y H2 I2 rx ry q=>hr a b pins s2 σ H2 x y v u Q I2 rx ry q (hs _ _))
def qk8 (K:Frag):R2:=fun x y H Q=>∃p xs i v,x=.ref p/\y=.int i/\SqL K H p xs/\atI xs i=some v/\Q v H
def Uc (K:Frag):R2:=fun x y H Q=>∃p xs i v,x=.ref p/\y=.int i/\SqT K H p xs/\atI xs i=some v/\Q v H
theorem bU:IxR X (qk8 X.K):=by
 intro value slice pins s σ H x y v u Q I rx ry h hs;obtain⟨p,xs,i,z,rfl,rfl,hq,he,q⟩:=h
 cases rx
 obtain⟨t,rfl⟩:=ry;obtain⟨its,r,pl,hz⟩:=I.list hq;obtain⟨j,h1,h2,h3,h4,h5⟩:=Ip he;obtain⟨w,ew,rw'⟩:=r.get h2;have hl:=r.length;have hn:=Av;have fin:EP X pins σ Q w s:=⟨z,H,I,rw',q⟩
 by_cases h0:0<=i
 ·have hj:i.toNat=j:=by
   rw[seqIndex_of h0 h5] at h1;exact Option.some.inj h1
  exact item_listR pl.isList h0 (by lia) (by rw[hj];simpa using ew) fin hs
 ·have hj:(i+(its.toArray.size:Int)).toNat=j:=by
   rw[seqIndex_neg (by lia) h4] at h1;rw[size_toArray,<- hl];exact Option.some.inj h1
  exact subscriptTail_builtinR (x:=w) pl.isList.typeIs slot_list_getitem.lookup
   (wpAny_getItem_list_neg (Q:=fun r s'=>r=w/\EP X pins σ Q r s') pl.isList (by lia) (by rw[size_toArray]<;>lia) (by lia) (by rw[hj];simpa using ew) ⟨rfl,fin⟩) hs
theorem bC:IxR X (Uc X.K):=by
 intro value slice pins s σ H x y v u Q I rx ry h hs;obtain⟨p,xs,i,z,rfl,rfl,hq,he,q⟩:=h
 cases rx
 obtain⟨t,rfl⟩:=ry;obtain⟨its,r,pl,hz⟩:=I.tuple hq;obtain⟨j,h1,h2,h3,h4,h5⟩:=Ip he;obtain⟨w,ew,rw'⟩:=r.get h2;have hl:=r.length;have hn:=Av;have fin:EP X pins σ Q w s:=⟨z,H,I,rw',q⟩
 exact subscriptTail_builtinR (x:=w) pl.typeIs slot_tuple_getitem.lookup
  (getItem_tuple (j:=j) (Q:=fun r s'=>r=w/\EP X pins σ Q r s') pl (by lia) (by lia) (by rw[size_toArray,<- hl];exact h1) (by simpa using ew) ⟨rfl,fin⟩) hs
theorem Fy (its:List Value)(n j:Nat)(u:Value):Obj.mapSeq (·.setIfInBounds j u) { cls:=.type "list",data:=.seq its.toArray n }={ cls:=.type "list",data:=.seq (its.set j u).toArray n }:=by
 simp[Obj.mapSeq]
theorem Inv.lst (I:Inv X pins σ H s)(h:H p=some (.lst xs)):
  ∃(its:List Value) (n:Nat),bQ xs its/\s.heap.get? p=some { cls:=.type "list",data:=.seq its.toArray n }/\xs.length<=sizeLine:=by
 obtain⟨z,its,n,r,e⟩:=I.hok p _ h;exact⟨its,n,r,e,z⟩
theorem Inv.lstUpd {its its':List Value}(I:Inv X pins σ H s)(h:H p=some (.lst xs))(ho:s.heap.get? p=some { cls:=.type "list",data:=.seq its.toArray n })(hf:f { cls:=.type "list",data:=.seq its.toArray n }={ cls:=.type "list",data:=.seq its'.toArray n' })(r:bQ ys its')(hz:ys.length<=sizeLine)(t:Nat):
  Inv X pins σ (upd H p (.lst ys)) { s with heap:=s.heap.update p f,toks:=t }:=by
 have e:(s.heap.update p f).get? p=some { cls:=.type "list",data:=.seq its'.toArray n' }:=by
  rw[Heap.get?_update_self f ho (by rw[hf]<;>rfl),hf]
 refine I.write (x:=p) (e:=p) (by rw[h];trivial) (.inl rfl) (fun b u hb q=>(Heap.get?_update_other _ _ (Ne.symm hb)).trans q) ⟨_,e⟩ ?_;exact⟨hz,its',n',r,e⟩
def qh6:V->V->V->Hp->(Hp->Prop)->Prop:=fun o i v H Q=>∃p xs k j,o=.ref p/\i=.int k/\H p=some (.lst xs)/\ixN xs.length k=some j/\Q (upd H p (.lst (xs.set j v)))
theorem qT:ql3 X qh6:=by
 intro pins s σ H o i v ov iv u Q I ro ri rv h;obtain⟨p,xs,k,j,rfl,rfl,hp,hj,q⟩:=h
 cases ro
 obtain⟨t,rfl⟩:=ri;obtain⟨its,n,r,ho,hz⟩:=I.lst hp;obtain⟨h1,h2,h3,h4⟩:=Jh hj;have hl:=r.length;have hn:=Av;have I':Inv X pins σ (upd H p (.lst (xs.set j v))) { s with heap:=s.heap.update p (Obj.mapSeq (·.setIfInBounds j u)) }:=
  I.lstUpd hp ho (Fy its n j u) (r.set rv j) (by rw[length_set];exact hz) s.toks
 by_cases h0:0<=k
 ·have hk:k.toNat=j:=by
   rw[seqIndex_of h0 h4] at h1;exact Option.some.inj h1
  exact W.ki_setAt ho h0 (by lia) (by rw[size_toArray,<- hl];exact h4) (by rw[hk];exact⟨_,I',q⟩)
 ·have hk:(k+(its.toArray.size:Int)).toNat=j:=by
   rw[seqIndex_neg (by lia) h3] at h1;rw[size_toArray,<- hl];exact Option.some.inj h1
  exact W.ki_setBack ho (by lia) (by rw[size_toArray,<- hl];exact h3) (by lia) (by rw[hk];exact⟨_,I',q⟩)
theorem sbA (lo hi:Option Int)(n:Nat):(sliceBounds lo hi none n).1=((HT.sIx n 0 lo:Nat):Int):=by
 cases lo with
 |none=>simp[sliceBounds,HT.sIx]
 |some i=>
  simp only[sliceBounds,HT.sIx,Option.getD_none,show (1:Int) > 0 by decide,if_true]
  by_cases h:i < 0
  ·simp only[h,if_true]<;>lia
  ·simp only[h,if_false]<;>lia
theorem Bj (lo hi:Option Int)(n:Nat):(sliceBounds lo hi none n).1=((HT.sIx n 0 lo:Nat):Int)/\(sliceBounds lo hi none n).2.1=((HT.sIx n n hi:Nat):Int)/\(sliceBounds lo hi none n).2.2=1:=by
 refine⟨sbA lo hi n,?_,rfl⟩
 cases hi with
 |none=>simp[sliceBounds,HT.sIx]
 |some i=>exact sbA (some i) lo n
theorem xJ (its:List Value)(lo hi:Option Int):slicePick its.toArray lo hi none=((its.drop (HT.sIx its.length 0 lo)).take (HT.sIx its.length its.length hi - HT.sIx its.length 0 lo)).toArray:=by
 obtain⟨h1,h2,h3⟩:=Bj lo hi its.toArray.size;unfold slicePick;rw[h1,h2,h3];simp only[sliceRange_one,pick_run,size_toArray]<;>rfl
def qk7 (K:Frag):V->Option Int->Option Int->Hp->VK->Prop:=fun x lo hi H Q=>∃a xs,x=.ref a/\SqL K H a xs/\∀p,H p=none->Q (.ref p) (upd H p (.lst (qW xs lo hi)))
theorem jV:SlR X (qk7 X.K):=by
 intro pins s σ H x v vl vu lo hi sl Q I rx hs pl pu h;obtain⟨a,xs,rfl,hx,q⟩:=h
 cases rx
 obtain⟨its,r,ht,hz⟩:=I.list hx;have hlen:=r.length;refine⟨"list",_,slot_list_getitem.lookup,ht.isList.typeIs,?_⟩;refine wpAny_getItem_list_slice ht.isList hs pl pu .none (by simp) ?_ (by rw[size_toArray]<;>lia);rw[xJ,<- hlen];refine⟨.ref s.heap.objs.size,_,I.laid (t':=s.toks) (o:=.lst (qW xs lo hi)) (fun b ob q=>Heap.get?_push_of_some _ q) (Nat.le_refl _) ?_,rfl,q _ (I.hok.fresh (Nat.le_refl _))⟩;exact⟨Nat.le_trans (Dj xs lo hi) hz,_,0,(r.drop (HT.sIx xs.length 0 lo)).take (HT.sIx xs.length xs.length hi - HT.sIx xs.length 0 lo),Heap.get?_push_size _ rfl⟩
def mC:V->Bool
 | .non=>true
 | .bl _=>true
 | .int _=>true
 | .str _=>true
 |_=>false
def eqV:V->V->Bool
 | .non,.non=>true
 | .bl a,.bl b=>a == b
 | .bl a,.int b=>(if a then 1 else 0) == b
 | .int a,.bl b=>a == (if b then 1 else 0)
 | .int a,.int b=>a == b
 | .str a,.str b=>a == b
 |_,_=>false
theorem qd3 (ry:cA y u)(rx:cA x v)(fy:mC y=true)(fx:mC x=true):SeqAt.EqAt A s u v (eqV y x):=by
 cases y with
 |non=>
  cases ry
  cases x with
  |non=>cases rx;exact SeqAt.EqAt.same _
  |bl b=>cases rx;exact SeqAt.EqAt.none_bool b
  |int b=>obtain⟨t,rfl⟩:=rx;exact SeqAt.EqAt.none_int b t
  |str b=>obtain⟨t,rfl⟩:=rx;exact SeqAt.EqAt.none_str b t
  |_=>exact absurd (show false=true from fx) Bool.false_ne_true
 |bl a=>
  cases ry
  cases x with
  |non=>cases rx;exact SeqAt.EqAt.bool_none a
  |bl b=>cases rx;exact SeqAt.EqAt.bool_bool a b
  |int b=>obtain⟨t,rfl⟩:=rx;exact SeqAt.EqAt.bool_int a b t
  |str b=>obtain⟨t,rfl⟩:=rx;exact SeqAt.EqAt.bool_str a b t
  |_=>exact absurd (show false=true from fx) Bool.false_ne_true
 |int a=>
  obtain⟨t',rfl⟩:=ry
  cases x with
  |non=>cases rx;exact SeqAt.EqAt.int_none a t'
  |bl b=>cases rx;exact SeqAt.EqAt.int_bool a t' b
  |int b=>obtain⟨t,rfl⟩:=rx;exact SeqAt.EqAt.int_int a t' b t
  |str b=>obtain⟨t,rfl⟩:=rx;exact SeqAt.EqAt.int_str a t' b t
  |_=>exact absurd (show false=true from fx) Bool.false_ne_true
 |str a=>
  obtain⟨t',rfl⟩:=ry
  cases x with
  |non=>cases rx;exact SeqAt.EqAt.str_none a t'
  |bl b=>cases rx;exact SeqAt.EqAt.str_bool a t' b
  |int b=>obtain⟨t,rfl⟩:=rx;exact SeqAt.EqAt.str_int a t' b t
  |str b=>obtain⟨t,rfl⟩:=rx;exact SeqAt.EqAt.str_str a t' b t
  |_=>exact absurd (show false=true from fx) Bool.false_ne_true
 |_=>exact absurd (show false=true from fy) Bool.false_ne_true
def eqU (x:V)(u:Value):Bool:=match u with
 | .none=>eqV .non x
 | .bool b=>eqV (.bl b) x
 | .int i _=>eqV (.int i) x
 | .str z _=>eqV (.str z) x
 |_=>false
theorem Op (r:cA y u)(f:mC y=true):eqU x u=eqV y x:=by
 cases y with
 |non=>cases r;rfl
 |bl b=>cases r;rfl
 |int i=>obtain⟨t,rfl⟩:=r;rfl
 |str z=>obtain⟨t,rfl⟩:=r;rfl
 |_=>exact absurd (show false=true from f) Bool.false_ne_true
theorem pT:∀{xs:List V} {us:List Value},bQ xs us->xs.all mC=true->us.any (eqU x)=xs.any fun y=>eqV y x
 |_,_,.nil,_=>rfl
 |y :: xs,u :: us,.cons r t,f=>by
  rw[all_cons,Bool.and_eq_true] at f;rw[any_cons,any_cons,Op r f.1,pT t f.2]
theorem lQ (rx:cA x v)(fx:mC x=true):∀{xs:List V} {us:List Value},bQ xs us->xs.all mC=true->∀u∈us,SeqAt.EqAt A s u v (eqU x u)
 |_,_,.nil,_=>fun u hu=>by cases hu
 |y :: xs,u :: us,.cons r t,f=>fun u' hu=>by
  rw[all_cons,Bool.and_eq_true] at f;rcases mem_cons.mp hu with rfl | hu
  ·rw[Op r f.1];exact qd3 r rx f.1 fx
  ·exact lQ rx fx t f.2 u' hu
def inV (x:V)(xs:List V):Bool:=xs.any fun y=>eqV y x
def rIn (K:Frag)(neg:Bool):R2:=fun x y H Q=>∃p xs,y=.ref p/\(SqL K H p xs\/SqT K H p xs)/\mC x=true/\xs.all mC=true/\Q (.bl (if neg then !inV x xs else inV x xs)) H
theorem yW:OpR X (compareOp .In) (rIn X.K false):=by
 intro pins s σ H x y v u Q I rx ry h;obtain⟨p,xs,rfl,hq,fx,fs,q⟩:=h
 cases ry
 rcases hq with hq | hq
 ·obtain⟨its,r,pl,hz⟩:=I.list hq;refine SeqAt.in_listAt (eqU x) pl.isList (fun w hw=>lQ rx fx r fs w (by simpa using hw)) ⟨.bl _,H,I,rfl,?_⟩;rw[show its.toArray.any (eqU x)=its.any (eqU x) by simp,pT r fs];exact q
 ·obtain⟨its,r,pl,hz⟩:=I.tuple hq;refine SeqAt.in_tupleAt (eqU x) pl (fun w hw=>lQ rx fx r fs w (by simpa using hw)) ⟨.bl _,H,I,rfl,?_⟩;rw[show its.toArray.any (eqU x)=its.any (eqU x) by simp,pT r fs];exact q
theorem qM:OpR X (compareOp .NotIn) (rIn X.K true):=by
 intro pins s σ H x y v u Q I rx ry h;obtain⟨p,xs,rfl,hq,fx,fs,q⟩:=h
 cases ry
 rcases hq with hq | hq
 ·obtain⟨its,r,pl,hz⟩:=I.list hq;refine SeqAt.notIn_listAt (eqU x) pl.isList (fun w hw=>lQ rx fx r fs w (by simpa using hw)) ⟨.bl _,H,I,rfl,?_⟩;rw[show its.toArray.any (eqU x)=its.any (eqU x) by simp,pT r fs];exact q
 ·obtain⟨its,r,pl,hz⟩:=I.tuple hq;refine SeqAt.notIn_tupleAt (eqU x) pl (fun w hw=>lQ rx fx r fs w (by simpa using hw)) ⟨.bl _,H,I,rfl,?_⟩;rw[show its.toArray.any (eqU x)=its.any (eqU x) by simp,pT r fs];exact q
theorem cJ:kL X (.builtin "len") (fun xs H Q=>∃p ys,xs=[.ref p]/\(SqL X.K H p ys\/SqT X.K H p ys)/\Q (.int ys.length) H):=by
 intro pins s σ H xs us Q I r h;obtain⟨p,ys,rfl,hq,q⟩:=h;obtain⟨u,rfl,rx⟩:=xL r
 cases rx
 have hn:=Av;rcases hq with hq | hq
 ·obtain⟨its,r',pl,hz⟩:=I.list hq;have hlen:=r'.length;exact Calls.call_len_list pl.isList (by simp only[size_toArray]<;>lia) ⟨.int ys.length,H,I.tok _,⟨s.toks+1,by rw[size_toArray,hlen]⟩,q⟩
 ·obtain⟨its,r',pl,hz⟩:=I.tuple hq;have hlen:=r'.length;exact len_tuple pl (by simp only[size_toArray]<;>lia) ⟨.int ys.length,H,I.tok _,⟨s.toks+1,by rw[size_toArray,hlen]⟩,q⟩
theorem gW:kL X (.type "list") (fun xs H Q=>∃p ys,xs=[.ref p]/\(SqL X.K H p ys\/SqT X.K H p ys)/\∀l,H l=none->Q (.ref l) (upd H l (.lst ys))):=by
 intro pins s σ H xs us Q I r h;obtain⟨p,ys,rfl,hq,q⟩:=h;obtain⟨u,rfl,rx⟩:=xL r
 cases rx
 have fin:∀(its:List Value),bQ ys its->ys.length<=sizeLine->∀(h':Heap) (c':Nat),(∀b o',s.heap.get? b=some o'->h'.get? b=some o')->
   h'.get? s.heap.objs.size=some { cls:=.type "list",dict:=none,data:=.seq its.toArray c',slots:=#[] }->EP X pins σ Q (.ref s.heap.objs.size) { s with heap:=h' }:=fun its r' hz h' c' kp e=>
  ⟨.ref s.heap.objs.size,_,I.laid (t':=s.toks) kp (Nat.le_refl _) (show cK X.prog X.w _ h' _ (.lst ys) from ⟨hz,its,c',r',e⟩),rfl,q _ (I.hok.fresh (Nat.le_refl _))⟩
 rcases hq with hq | hq
 ·obtain⟨its,r',pl,hz⟩:=I.list hq;have hlen:=r'.length;obtain⟨o,ho,hc,n,hd⟩:=pl.isList;exact call_list_seq p (.inl rfl) ho hc hd (fun h' c' kp e=>fin its r' hz h' c' kp e) (by simp only[size_toArray]<;>lia)
 ·obtain⟨its,r',pl,hz⟩:=I.tuple hq;have hlen:=r'.length;obtain⟨o,ho,hc,n,hd⟩:=pl;exact call_list_seq p (.inr rfl) ho hc hd (fun h' c' kp e=>fin its r' hz h' c' kp e) (by simp only[size_toArray]<;>lia)
theorem oF:kL X (.type "tuple") (fun xs H Q=>∃p ys,xs=[.ref p]/\((SqL X.K H p ys/\∀l,H l=none->Q (.ref l) (upd H l (.tup ys)))\/(SqT X.K H p ys/\Q (.ref p) H))):=by
 intro pins s σ H xs us Q I r h;obtain⟨p,ys,rfl,h⟩:=h;obtain⟨u,rfl,rx⟩:=xL r
 cases rx
 rcases h with ⟨hq,q⟩ | ⟨hq,q⟩
 ·obtain⟨its,r',pl,hz⟩:=I.list hq;have hlen:=r'.length;refine call_tuple_list pl.isList (fun h' kp=>?_) (by simp only[size_toArray]<;>lia);have I1:Inv X pins σ H { s with heap:=h' }:=I.kept (t':=s.toks) kp;have I2:Inv X pins σ (upd H h'.objs.size (.tup ys)) { s with heap:=h'.push { cls:=.type "tuple",data:=.seq its.toArray } }:=
   I1.laid (t':=s.toks) (fun b o e=>Heap.get?_push_of_some _ e) (Nat.le_refl _) (show cK X.prog X.w _ _ _ (.tup ys) from ⟨hz,its,r',IsTup.new _ _⟩)
  exact⟨.ref h'.objs.size,_,I2,rfl,q _ (I1.hok.fresh (Nat.le_refl _))⟩
 ·obtain⟨its,r',pl,hz⟩:=I.tuple hq;exact call_tuple_same pl ⟨.ref p,H,I,rfl,q⟩
def tyV (K:Frag)(T:String)(x:V)(H:Hp):Prop:=match x with
 | .str _=>T = "str"
 | .int _=>T = "int"
 | .ref p=>(T = "list"/\∃xs,SqL K H p xs)\/(T = "tuple"/\∃o,K.lookup p=some o/\o.cls=.type "tuple"/\o.dict=none)\/
   (T = "dict"/\((∃kvs,H p=some (.dK kvs))\/∃kvs,H p=some (.dT kvs)))\/(T = "set"/\∃S n,H p=some (.set S n))
 |_=>False
theorem Su (I:Inv X pins σ H s)(r:cA x v)(ty:tyV X.K T x H):
  s.TypeIs v T/\∀a,v=.ref a->∃ob,s.heap.get? a=some ob/\ob.dict=none:=by
 cases x with
 |str z=>
  obtain⟨t,rfl⟩:=r
  cases (show T = "str" from ty)
  exact⟨typeIs_str s z t,fun _ e=>nomatch e⟩
 |int i=>
  obtain⟨t,rfl⟩:=r
  cases (show T = "int" from ty)
  exact⟨typeIs_int s i t,fun _ e=>nomatch e⟩
 |ref p=>
  cases r
  rcases ty with ⟨rfl,xs,hq⟩ | ⟨rfl,o,hk,hc,hd⟩ | ⟨rfl,hk⟩ | ⟨rfl,S,n,hk⟩
  ·obtain⟨its,_,pl,_⟩:=I.list hq;refine⟨pl.isList.typeIs,fun a e=>?_⟩
   cases e
   obtain⟨o,n,e,c,hd,_⟩:=pl;exact⟨o,e,hd⟩
  ·refine⟨⟨o,I.kIn p o hk,hc⟩,fun a e=>?_⟩
   cases e
   exact⟨o,I.kIn _ o hk,hd⟩
  ·have z:∃o,s.heap.get? p=some o/\o.ExactDict:=by
    rcases hk with ⟨kvs,hk⟩ | ⟨kvs,hk⟩
    ·obtain⟨_,_,_,_,o,_,_,e,ex,_⟩:=I.hok p _ hk;exact⟨o,e,ex⟩
    ·obtain⟨_,_,_,_,o,_,_,e,ex,_⟩:=I.hok p _ hk;exact⟨o,e,ex⟩
   obtain⟨o,e,ex⟩:=z;refine⟨⟨o,e,ex.1⟩,fun a e2=>?_⟩
   cases e2
   exact⟨o,e,ex.2.1⟩
  ·obtain⟨o,_,_,_,e,ex,_⟩:=I.hok p _ hk;refine⟨⟨o,e,ex.1⟩,fun a e2=>?_⟩
   cases e2
   exact⟨o,e,ex.2.1⟩
 |_=>exact False.elim ty
def qo5 (K:Frag)(T:String)(r:V->List V->Hp->VK->Prop)(to:TE):TE:=fun σ H Q=>to σ H fun x H1=>tyV K T x H1/\r x [] H1 Q
def tBM (K:Frag)(T:String)(r:V->List V->Hp->VK->Prop)(to:TE)(t:TA):TE:=fun σ H Q=>to σ H fun x H1=>tyV K T x H1/\t σ H1 fun xs H2=>r x xs H2 Q
variable {o e:Expr} {es:List Expr} {to:TE} {t:TA} {name:Str} {apos cpos:Pos} {T id:String} {r:V->List V->Hp->VK->Prop}
theorem qe3 (pa:PlainAttrs T)(slot:Slot T name id)(hty:typeOf (.builtin id)=pure (.type "method_descriptor"))(hm:MtR X id r)(ho:PE X o to)(hbase:attributeBase o name X.env (eval o X.env)=eval o X.env:=by rfl)(hline:(apos.endLine == cpos.line)=true:=by rfl):PE X (.Call (.Attribute o name apos) [] [] cpos) (qo5 X.K T r to):=by
 intro pins s σ H Q I h;refine wpAny_Call_method0_late hbase hline (thn (ho pins s σ H _ I h) fun v s1 ⟨x,H1,I1,r1,ty,q1⟩=>?_);obtain⟨h1,h2⟩:=Su I1 r1 ty;exact⟨T,id,pa,slot,hty,h1,h2,Calls.callWith_builtin rfl (PySem.evalArgs_none (hm pins s1 σ H1 x [] v [] Q I1 r1 .nil q1))⟩
theorem jW (pa:PlainAttrs T)(slot:Slot T name id)(hty:typeOf (.builtin id)=pure (.type "method_descriptor"))(hm:MtR X id r)(ho:PE X o to)(ha:PA X (e :: es) t)(hbase:attributeBase o name X.env (eval o X.env)=eval o X.env:=by rfl)(hfew:((backTo cpos (starEach (e :: es) X.env)).all (fun x=>!x.1) && (backToKw cpos (keywordEach [] X.env)).all (fun x=>x.1.isSome)
   && decide ((e :: es).length+([]:List Keyword).length+(if ([]:List Keyword).isEmpty then 0 else 1) < 30))=true:=by rfl)(hline:(apos.endLine == cpos.line)=true:=by rfl)(hs:starEach (e :: es) X.env=(false,eval e X.env) :: starEach es X.env:=by rfl)(hplain:(backTo cpos (starEach es X.env)).any (·.1)=false:=by rfl) :
  PE X (.Call (.Attribute o name apos) (e :: es) [] cpos) (tBM X.K T r to t):=by
 intro pins s σ H Q I h;refine wpAny_Call_method_late hbase hfew hline rfl (thn (ho pins s σ H _ I h) fun v s1 ⟨x,H1,I1,r1,ty,q1⟩=>?_);obtain⟨h1,h2⟩:=Su I1 r1 ty;refine⟨T,id,pa,slot,hty,h1,h2,?_⟩;have hA:=ha cpos pins s1 σ H1 _ I1 q1;rw[hs] at hA ⊢;refine Calls.callWith_builtin (by show (false || (backTo cpos (starEach es X.env)).any (·.1))=false;rw[hplain]<;>rfl) (Calls.evalArgs_plain ?_);exact thn hA fun us s2 ⟨vs,H2,I2,r2,q2⟩=>hm pins s2 σ H2 x vs v us Q I2 r1 r2 q2
end
def MtM (X:Cx)(id:String)(r:V->List V->Hp->VK->Prop):Prop:=
 ∀(pins:List (Addr × Obj)) (s:Shared) (σ:St) (H:Hp) (x:V) (xs:List V) (v:Value) (us:List Value) (Q:VK),Inv X pins σ H s->cA x v->bQ xs us->r x xs H Q->
  wpAny (model X.prog X.w) X.A (call (.builtin id) (v :: us)) (EP X pins σ Q) X.xe s
theorem bQ.one:∀{x:V} {us:List Value},bQ [x] us->∃u,us=[u]/\cA x u
 |_,_,.cons r .nil=>⟨_,rfl,r⟩
theorem bQ.zero:∀{us:List Value},bQ [] us->us=[]
 |_,.nil=>rfl
theorem bQ.dropLast (h:bQ xs us):bQ xs.dropLast us.dropLast:=by
 induction h with
 |nil=>exact .nil
 |cons r t ih=>
  cases t with
  |nil=>exact .nil
  |cons q t'=>exact .cons r ih
theorem bQ.reverse (h:bQ xs us):bQ xs.reverse us.reverse:=by
 induction h with
 |nil=>exact .nil
 |cons r t ih=>rw[reverse_cons,reverse_cons];exact bQ.append ih (.cons r .nil)
theorem bQ.rep (h:bQ xs us):∀k:Nat,bQ (replicate k xs).flatten (replicate k us).flatten
 |0=>.nil
 |k+1=>by
  rw[replicate_succ,replicate_succ,flatten_cons,flatten_cons];exact bQ.append h (bQ.rep h k)
theorem Gh {α:Type}(l:List α):l.eraseIdx (l.length - 1)=l.dropLast:=by
 induction l with
 |nil=>rfl
 |cons a r ih=>
  cases r with
  |nil=>rfl
  |cons b r=>
   have e:(a :: b :: r).length - 1=((b :: r).length - 1)+1:=by
    have h1:(a :: b :: r).length=r.length+2:=rfl;have h2:(b :: r).length=r.length+1:=rfl;assumption
   rw[e,eraseIdx_cons_succ,ih]
   all_goals rfl
theorem yY (its:List Value):∀(k:Nat) (acc:List Value),
  foldl (fun x1 x2=>x1++x2) acc.toArray (replicate k its.toArray)=(acc++(replicate k its).flatten).toArray
 |0,acc=>by simp
 |k+1,acc=>by
  have e:acc.toArray++its.toArray=(acc++its).toArray:=by simp
  have e2:(acc++its)++(replicate k its).flatten=acc++(replicate (k+1) its).flatten:=by
   rw[replicate_succ,flatten_cons,List.append_assoc]
  rw[<- e2,<- yY its k (acc++its),<- e,replicate_succ,foldl_cons]
section
variable {X:Cx} {pins:List (Addr × Obj)} {σ:St} {H:Hp} {s:Shared} {l b:Addr} {xs ys zs:List V}
theorem Inv.lset {its its':List Value}(I:Inv X pins σ H s)(hH:H l=some (.lst xs))(e:s.heap.get? l=some { cls:=.type "list",data:=.seq its.toArray n })(hf:f its.toArray=its'.toArray)(hv:bQ ys its')(hz:ys.length<=sizeLine):
  Inv X pins σ (upd H l (.lst ys)) { s with heap:=s.heap.update l (Obj.mapSeq f),toks:=t' }:=by
 have q:=PySem.IsL.update e f;rw[hf] at q;refine I.write (x:=l) (e:=l) (by rw[hH];exact trivial) (.inl rfl) (fun b' u hb hu=>(Heap.get?_update_other s.heap (Obj.mapSeq f) (Ne.symm hb)).trans hu) ⟨_,q⟩ ?_;exact⟨hz,its',_,hv,q⟩
theorem Inv.lnew (I:Inv X pins σ H s)(hv:bQ ys its)(hz:ys.length<=sizeLine):
  Inv X pins σ (upd H s.heap.objs.size (.lst ys)) { s with heap:=s.heap.push { cls:=.type "list",data:=.seq its.toArray },toks:=t' }:=
 I.laid (fun _ _ q=>Heap.get?_push_of_some _ q) (Nat.le_refl _) ⟨hz,its,0,hv,Heap.get?_push_size _ rfl⟩
theorem Inv.fresh (I:Inv X pins σ H s):H s.heap.objs.size=none:=I.hok.fresh (Nat.le_refl _)
theorem Inv.lstM (I:Inv X pins σ H s)(hH:H l=some (.lst xs)):xs.length<=sizeLine/\∃(its:List Value) (n:Nat),bQ xs its/\xs.length=its.length/\s.heap.get? l=some { cls:=.type "list",data:=.seq its.toArray n }:=by
 obtain⟨z,its,n,r,e⟩:=I.hok l _ hH;exact⟨z,its,n,r,r.length,e⟩
theorem Rn (h:n<=sizeLine):Builtin.List.listTooLong n=false:=by
 unfold Builtin.List.listTooLong;exact decide_eq_false (by lia)
end
section
variable {X:Cx}
def Ud:V->List V->Hp->VK->Prop:=fun x vs H Q=>∃l xs y,x=.ref l/\vs=[y]/\H l=some (.lst xs)/\xs.length < sizeLine/\Q .non (upd H l (.lst (xs++[y])))
theorem dF:MtM X "list.append" Ud:=by
 intro pins s σ H x vs v us Q I rx rv h;obtain⟨l,xs,y,rfl,rfl,hH,hz,q⟩:=h
 cases rx
 obtain⟨u,rfl,ru⟩:=rv.one;obtain⟨z,its,n,r,hl,e⟩:=I.lstM hH;refine call_meets F.slot_list_append ⟨_,e,rfl⟩ F.entry_list_append (F.args_list_append_2 _ _) (PySem.list_append l its.toArray n u (by rw[size_toArray];lia)) ⟨e,?_⟩;refine⟨.non,_,I.lset (its':=its++[u]) hH e (by simp) (r.append (.cons ru .nil)) ?_,rfl,q⟩;rw[List.length_append,length_singleton];assumption
def qo7:V->List V->Hp->VK->Prop:=fun x vs H Q=>∃l xs y,x=.ref l/\vs=[]/\H l=some (.lst xs)/\xs[xs.length - 1]?=some y/\Q y (upd H l (.lst xs.dropLast))
theorem qd4:MtM X "list.pop" qo7:=by
 intro pins s σ H x vs v us Q I rx rv h;obtain⟨l,xs,y,rfl,rfl,hH,hy,q⟩:=h
 cases rx
 have hus:=rv.zero;subst hus;obtain⟨z,its,n,r,hl,e⟩:=I.lstM hH;obtain⟨u,hu,ru⟩:=r.get hy;have hy':its.toArray[its.toArray.size - 1]?=some u:=by
  show its.toArray[its.length - 1]?=some u;rw[<- Array.getElem?_toList,<- hl];exact hu
 refine call_meets F.slot_list_pop ⟨_,e,rfl⟩ F.entry_list_pop (F.args_list_pop_1 _) (MeetsSeq.list_pop_last l its.toArray n u hy' (by rw[size_toArray];lia)) ⟨e,?_⟩;refine⟨y,_,I.lset (its':=its.dropLast) hH e ?_ r.dropLast ?_,ru,q⟩
 ·show its.toArray.eraseIdxIfInBounds (its.toArray.size - 1)=its.dropLast.toArray;rw[size_toArray,eraseIdxIfInBounds_toArray,Gh]
 ·rw[length_dropLast];lia
def qm2:R2:=fun x y H Q=>∃l b xs zs,x=.ref l/\y=.ref b/\H l=some (.lst xs)/\H b=some (.lst zs)/\xs.length+zs.length<=sizeLine/\∀p,H p=none->Q (.ref p) (upd H p (.lst (xs++zs)))
theorem oV:OpR X (binaryOp .Add) qm2:=by
 intro pins s σ H x y v u Q I rx ry h;obtain⟨l,b,xs,zs,rfl,rfl,hH,hB,hz,q⟩:=h
 cases rx
 cases ry
 obtain⟨z,its,n,r,hl,e⟩:=I.lstM hH;obtain⟨z2,its2,n2,r2,hl2,e2⟩:=I.lstM hB;refine PySem.P.add_list e e2 ?_ (by rw[size_toArray,size_toArray];lia);have ea:its.toArray++its2.toArray=(its++its2).toArray:=by simp
 rw[ea];exact⟨.ref _,_,I.lnew (t':=s.toks) (r.append r2) (by rw[List.length_append];assumption),rfl,q _ I.fresh⟩
def qn3:R2:=fun x y H Q=>∃l k xs,x=.ref l/\y=.int k/\H l=some (.lst xs)/\-(2 ^ 63)<=k/\k < 2 ^ 63/\xs.length*k.toNat<=sizeLine/\
 ∀p,H p=none->Q (.ref p) (upd H p (.lst (replicate k.toNat xs).flatten))
theorem Up {α:Type}(xs:List α)(k:Nat):(replicate k xs).flatten.length=k*xs.length:=by
 induction k with
 |zero=>simp
 |succ k ih=>rw[replicate_succ,flatten_cons,List.length_append,ih,Nat.succ_mul,Nat.add_comm]
theorem Nt:OpR X (binaryOp .Mult) qn3:=by
 intro pins s σ H x y v u Q I rx ry h;obtain⟨l,k,xs,rfl,rfl,hH,h1,h2,hz,q⟩:=h
 cases rx
 obtain⟨t,rfl⟩:=ry;obtain⟨z,its,n,r,hl,e⟩:=I.lstM hH;have hlen:its.toArray.size*k.toNat<=sizeLine:=by rw[size_toArray,<- hl];exact hz
 have hcap:¬its.toArray.size*k.toNat > (2 ^ 63 - 1) / 8:=by
  have:(sizeLine:Nat)<=(2 ^ 63 - 1) / 8:=by decide
  lia
 have hfit:¬(!Builtin.List.listFitsIndex k)=true:=by
  rw[fitsIndex_both h1 h2];exact Bool.false_ne_true
 have hlong:¬Builtin.List.listTooLong (its.toArray.size*k.toNat)=true:=by
  rw[Rn hlen];exact Bool.false_ne_true
 have hnew:foldl (fun x1 x2=>x1++x2) #[] (replicate (if its.toArray.isEmpty=true then 0 else k.toNat) its.toArray)=(replicate k.toNat its).flatten.toArray:=by
  have f0:∀m:Nat,foldl (fun x1 x2=>x1++x2) #[] (replicate m its.toArray)=(replicate m its).flatten.toArray:=fun m=>by
   have:=yY its m [];rw[nil_append] at this;exact this
  rw[f0]
  cases its with
  |nil=>simp
  |cons a r'=>rw[if_neg (by simp)]
 refine wpAny_binaryOp_repeat_ref (T:="list") (U:="int") (by decide) ⟨_,e,rfl⟩ (fun s'=>typeIs_int s' k t) noFill_list_mul F.fills_int_mul F.slot_int_rmul repeat_list F.slot_int_index.lookup
  (call_meets F.slot_int_rmul (typeIs_int s k t) F.entry_int_rmul (F.args_int_rmul_2 _ _) (int___rmul___int_list k t l its.toArray n)
   ⟨e,rfl,⟨_,e,rfl⟩,call_meets F.slot_list_mul ⟨_,e,rfl⟩ F.entry_list_mul (F.args_list_mul_2 _ _) (AutoListH.list___mul___list_int_3 l its.toArray n k t hfit hcap hlong) ⟨e,?_⟩⟩)
 rw[hnew];exact⟨.ref _,_,I.lnew (t':=s.toks) (r.rep k.toNat) (by rw[Up,Nat.mul_comm];exact hz),rfl,q _ I.fresh⟩
end
end L2
namespace Att
open PySem PySem.W PySem.Calls PyProof.Rows
theorem tJ:∀(ns:List Int) (vs:List Value),WellAll P h vs (ns.map WData.int)->IntsAre vs ns:=by
 intro ns
 induction ns with
 |nil=>
  intro vs w;rw[map_nil] at w
  cases w
  exact .nil
 |cons n ns ih=>
  intro vs w;rw[map_cons] at w
  cases w with
  |cons a b=>
   cases a
   exact .cons _ _ (ih _ b)
theorem Ku {l:OpenLaw}(hn:l.most=some n)(hpre:l.row.toRowW.claim.pre args=true)(hwl:WellAll P h vals args):
  ∃a vs ns,vals=[Value.ref a]/\args=[WData.list (ns.map WData.int)]/\h.get? a=some { cls:=.type "list",data:=.seq vs.toArray }/\IntsAre vs ns/\ns.length<=n:=by
 have hsh:WShape.hasAll [] args [.list .int]=true:=(pre_splitW hpre).1;have hc:l.pre.holds [] { args:=args }=true:=(pre_splitW hpre).2;obtain⟨d,r,rfl,h1,h2⟩:=hasAllW_cons hsh;obtain rfl:=hasAllW_nil h2;obtain⟨xs,rfl,h3⟩:=hasW_list h1;obtain⟨ns,rfl⟩:=items_int h3;have hlen:ns.length<=n:=by
  unfold OpenLaw.pre at hc;have h4:(WTm.not (.lt (.lit (.int (n:Int))) (.len (.arg 0)))).holds [] { args:=[.list (ns.map .int)] }=true:=by
   have h4:=(holds_andW hc).1;rw[hn] at h4;exact h4
  have h5:=condW_of h4 (w_not (w_lt w_lit (w_len_list (w_arg rfl))));rw[length_map] at h5;refine Nat.le_of_not_lt fun q=>?_;have q':(n:Int) < ((ns.length:Nat):Int):=by lia
  first
   | (rw[decide_eq_true q'] at h5;exact absurd h5 (by decide))
   | (simp at h5;lia)
 cases hwl with
 |cons w1 w2=>
  cases w2
  cases w1 with
  |list ho hall=>exact⟨_,_,ns,rfl,rfl,ho,tJ ns _ hall,hlen⟩
theorem Mu (l:OpenLaw)(args:List WData):l.row.toRowW.claim.post args (.bool true) args=true:=
 postW_of (r:=l.row.toRowW) (X:=(true == true))
  (show WShape.has [] (.bool true) .bool=true by first | rfl | decide | simp[WShape.has,WShape.arms,WShape.armsAll])
  (show (WTm.eq .res (.lit (.bool true))).value [] { args:=args,res:=some (.bool true),after:=args }=some (.bool (true == true)) from w_eq_bool (w_res rfl) w_lit) rfl
theorem attach_call {l:OpenLaw}(hn:l.most=some n)(hdf:d.params.defaults=[])(call:∀(w:World) (s₀ s₁:Shared) (mg mb:Str->Option Value) (fa:Addr) (o:Obj) (pm cd doc:Value) (a:Addr) (vs:List Value) (ns:List Int),
   Ground q loose [] XP w s₀ mg mb s₁.heap->YP w s₁.heap->
   s₁.heap.get? fa=some o->o.data=.func (docDef d.name d.params d.body d.scope pm cd doc)->s₁.heap.CodeRec cd d.name->mg d.name=some (.ref fa)->
   s₁.heap.get? a=some { cls:=.type "list",data:=.seq vs.toArray }->IntsAre vs ns->ns.length<=n->s₁.gens=#[]->
   codeAny (model l.prog w) callerA (.call (.ref fa) ⟨[.ref a],[]⟩) (fun r s'=>r=.ok (.ret (.bool true))/\OldK s₁.heap s'.heap/\s'.os=s₁.os/\AllBare s'.gens) s₁):
  WalkO q loose XP YP l.row.toRowW d [] (fun f vs=>PySem.call f vs):=by
 intro w s₀ s₁ mg mb G Y fa o pm cd doc dV kV ho hd hcd hD hmg hg args vals as hpre hlay hrd hwl hlo;obtain rfl:dV=.none:=Dflts.none hD hdf;obtain rfl:kV=.none:=Dflts.noKw hD;obtain⟨a,vs,ns,rfl,rfl,hobj,hints,hlen⟩:=Ku hn hpre hwl;refine enter_call (codeAny_mono (call w s₀ s₁ mg mb fa o pm cd doc a vs ns G Y ho (fd_plain hd) hcd hmg hobj hints hlen hg) fun r s' hq=>?_);obtain⟨rfl,h2,h3,h4⟩:=hq;exact⟨.inl ⟨.bool true,.bool true,[],rfl,fun _=>rfl,.bool true,Mu l _,fun _=>⟨Pairwise.nil,fun _ hm=>(nomatch hm)⟩⟩,h2,h3,h4⟩
end Att
namespace L2
open PySem PySem.Spec PyProof.Rows
theorem yQ:∀{vs:List Value} {ns:List Int},IntsAre vs ns->bQ (ns.map V.int) vs
 |_,_,.nil=>.nil
 |_,_,.cons n t h=>.cons ⟨t,rfl⟩ (yQ h)
def Za (H:Hp):Prop:=∀b,H b=none\/∃o xs,H b=some (.frz o (.lst xs))
theorem Os {K:Frag}(KX:K.In s₁.heap)(hns:s₁.heap.Ns mainGlobals mg)(hb:s₁.heap.Ns builtinsNs mb)(hbb:∀x:Str,x≠"__name__"->mb x=bootBuiltins x)(hlim:s₁.heap.NoLimit)(hg:s₁.gens=#[])(ha:s₁.heap.get? a=some { cls:=.type "list",data:=.seq vs.toArray })(hi:IntsAre vs ns)(hl:ns.length<=sizeLine)(hr:gM k callerA)(F:∀base:Heap,K.In base->base.Ns mainGlobals mg->aK P w K mg base CX k fa fd [x] sp)(hbind:∀(s:Shared) (u:Value),BindsTo s fd ⟨[u],[]⟩ [(x,u)])(hsp:∀H:Hp,Za H->SqL K H a (ns.map V.int)->sp [.ref a] H (fun v _=>v=.bl true) fun _ _ _=>False)(hCX:∀H e s',CX [] H s₁ (fun _ _ _=>False) e s'->False):
  codeAny (model P w) callerA (.call (.ref fa) ⟨[.ref a],[]⟩) (fun r s'=>r=.ok (.ret (.bool true))/\OldK s₁.heap s'.heap/\s'.os=s₁.os/\AllBare s'.gens) s₁:=by
 have rv:=yQ hi;have lenV:=hi.length;have core:∀H:Hp,Za H->SqL K H a (ns.map V.int)->HOk P w H s₁.heap->(∀b,H b≠none->b=a)->(H a≠none->K.lookup a=none)->
   codeAny (model P w) callerA (.call (.ref fa) ⟨[.ref a],[]⟩) (fun r s'=>r=.ok (.ret (.bool true))/\OldK s₁.heap s'.heap/\s'.os=s₁.os/\AllBare s'.gens) s₁:=by
  intro H hO hS hok hA hK;have base_of:∀{b:Addr} {o:Obj},s₁.heap.get? b=some o->H b=none->(Az s₁.heap H).get? b=some o:=fun e n=>Nn e n;have noA:∀{b:Addr} {o:Obj} {es:Array DictEntry} {ep:Nat},s₁.heap.get? b=some o->o.data=.dict es ep->H b=none:=fun {b o es ep} e d=>by
   cases q:H b with
   |none=>rfl
   |some u=>
    have e':b=a:=hA b (by rw[q];simp);subst e';rw[ha] at e;cases e;have d':Data.seq vs.toArray _=Data.dict es ep:=d
    cases d'
  have nsK:∀{b:Addr} {m:Str->Option Value},s₁.heap.Ns b m->(Az s₁.heap H).Ns b m:=fun {b m} ⟨o,es,ep,e,d,r⟩=>⟨o,es,ep,base_of e (noA e d),d,r⟩
  have hKb:K.In (Az s₁.heap H):=fun b o e=>base_of (KX b o e) (by
   cases q:H b with
   |none=>rfl
   |some u=>
    have e':b=a:=hA b (by rw[q];simp);subst e';rw[hK (by rw[q];simp)] at e;cases e)
  have hM:Mod K mg (Az s₁.heap H):=⟨hKb,nsK hns,⟨mb,nsK hb,hbb⟩,let ⟨mc,h1,h2⟩:=hlim;⟨mc,nsK h1,h2⟩⟩
  have e0:Go P w K mg (Az s₁.heap H) callerA [] s₁ H:=⟨rfl,hM,fun b o e=>Vb e,Nat.le_of_eq (Mg _ _),trivial,fun b hb=>absurd (show b∈([]:List Addr) from hb) (by simp),hok,.of_eq hg⟩
  refine codeAny_mono ((F _ hKb (nsK hns)).run callerA [] s₁ H ⟨[.ref a],[]⟩ [.ref a] [.ref a] _ _ hr e0 (hbind s₁ (.ref a)) (.cons rfl .nil) (hsp H hO hS)) fun r s' h=>?_
  cases r with
  |error e=>exact(hCX H e s' h).elim
  |ok fl=>
   cases fl with
   |next=>exact False.elim h
   |brk=>exact False.elim h
   |cont=>exact False.elim h
   |ret u=>
    obtain⟨v,H',os,bare,un,hok',r',q⟩:=h;have q':v=.bl true:=q;subst q';obtain rfl:u=Value.bool true:=r';refine⟨rfl,OldK.of_keep fun b o e=>?_,os,bare⟩
    cases q:H b with
    |none=>exact un.keep b o e q (by intro z;exact absurd (show b∈([]:List Addr) from z) (by simp)) (by simp)
    |some u=>
     rcases hO b with z | ⟨ob,xs,z⟩
     ·rw[q] at z;cases z
     ·have z2:=un.frzs b ob _ z;obtain⟨e1,_⟩:=hok b _ z;obtain⟨e2,_⟩:=hok' b _ z2;rw[e] at e1;cases e1;exact e2
 cases hk:K.lookup a with
 |some o=>
  have e:=KX a o hk;rw[ha] at e
  cases e
  refine core (fun _=>none) (fun _=>.inl rfl) (.inr ⟨_,vs.toArray,_,hk,rfl,rfl,rfl,by rw[size_toArray,lenV];exact hl,by simpa using rv⟩) (fun b u z=>by have z':(none:Option HO)=some u:=z;cases z') (fun b z=>absurd rfl z) fun z=>absurd rfl z
 |none=>
  refine core (fun b=>if b=a then some (.frz { cls:=.type "list",data:=.seq vs.toArray } (.lst (ns.map V.int))) else none) (fun b=>?_) (.inl (.inr ⟨{ cls:=.type "list",data:=.seq vs.toArray },if_pos rfl⟩)) (fun b u z=>?_) (fun b z=>?_) fun _=>hk
  ·by_cases hb:b=a
   ·exact .inr ⟨_,_,if_pos hb⟩
   ·exact .inl (if_neg hb)
  ·by_cases hb:b=a
   ·have z':=(if_pos hb).symm.trans z
    cases z'
    subst hb;exact⟨ha,by rw[length_map];exact hl,vs,_,rv,ha⟩
   ·have z':=(if_neg hb).symm.trans z
    cases z'
  ·by_cases hb:b=a
   ·exact hb
   ·exact absurd (if_neg hb) z
abbrev KOf {K:Frag}{h:Heap}(_:K.In h):Frag:=K
theorem Tq {l:W.OpenLaw}{XP:(Str->Option Value)->Heap->Prop}{K:Params->Frag}{CX:World->CXT}{sp:World->Sp}(hn:l.most=some n)(hn2:n<=sizeLine)(hdf:d.params.defaults=[])(hr:gM k callerA)(hY:∀(w:World) (h:Heap),YP w h->(K w.params).In h)(F:∀(w:World) (mg:Str->Option Value) (fa:Addr) (h:Heap),(K w.params).In h->h.Ns mainGlobals mg->mg d.name=some (.ref fa)->
   ∃fd:FuncData,(∀(s:Shared) (u:Value),BindsTo s fd ⟨[u],[]⟩ [(x,u)])/\
    ∀base:Heap,(K w.params).In base->base.Ns mainGlobals mg->aK l.prog w (K w.params) mg base (CX w) k fa fd [x] (sp w))(hsp:∀(w:World) (H:Hp) (a:Addr) (ns:List Int),ns.length<=n->Za H->SqL (K w.params) H a (ns.map V.int)->sp w [.ref a] H (fun v _=>v=.bl true) fun _ _ _=>False)(hCX:∀(w:World) (H:Hp) (s:Shared) (e:Value) (s':Shared),CX w [] H s (fun _ _ _=>False) e s'->False):
  W.WalkO q loose XP YP l.row.toRowW d [] (fun f vs=>PySem.call f vs):=by
 refine Att.attach_call hn hdf fun w s₀ s₁ mg mb fa o pm cd doc a vs ns G Y ho hd hcd hmg hobj hints hlen hg=>?_;have KX:=hY w _ Y;obtain⟨fd,hb,hF⟩:=F w mg fa _ KX G.T.g hmg;exact Os KX G.T.g G.T.b G.T.builtins G.T.nolimit hg hobj hints (Nat.le_trans hlen hn2) hr hF hb (fun H hO hS=>hsp w H a ns hlen hO hS) fun H e s'=>hCX w H s₁ e s'
def cY (s:Stmt)(j:Nat):Stmt:=match s with
 | .ClassDef _ _ _ body _ _ _ _ _ _ _=>body.getD j (.Pass ⟨0,0,0,0⟩)
 |_=>.Pass ⟨0,0,0,0⟩
def eX (s:Stmt):Arguments:=match s with
 | .FunctionDef _ a _ _ _ _ _ _ _ _=>a
 |_=>{ posonlyargs:=[],args:=[],vararg:=none,kwonlyargs:=[],kw_defaults:=[],kwarg:=none,defaults:=[] }
def dR (s:Stmt):List Stmt:=match s with
 | .FunctionDef _ _ b _ _ _ _ _ _ _=>b
 |_=>[]
def aH (s:Stmt):Scope:=match s with
 | .FunctionDef _ _ _ _ _ _ sc _ _ _=>sc
 |_=>{ kind:=.function,names:=[],isGenerator:=false,isCoroutine:=false }
abbrev CX0:CXT:=fun _ _ _ _ _ _=>False
abbrev E0:XK:=fun _ _ _=>False
theorem aR:jZ CX0 X E0:=fun _ _ _ _ _ _ _ h=>h.elim
theorem pH (hr:gM k A):A.units+1 < cLine:=Nat.lt_of_le_of_lt (Nat.add_le_add_left (by decide:1<=64) _) hr.units
theorem aZ (h:n<=1000):n < sizeLine:=Nat.lt_of_le_of_lt h (by decide)
section
variable {X:Cx}
theorem pv (i:Nat)(hN:X.N[i]?=some x:=by rfl)(hv:Vis X.env.scope x:=by first | exact Or.inl rfl | exact Or.inr (Or.inl rfl) | exact Or.inr (Or.inr rfl))(hd:(x == ("__debug__":Str))=false:=by decide)(hcd:(x == ("__classdict__":Str))=false:=by decide):PE X (.Name x pos) (Tu i):=Ro hN hv hd hcd
end
theorem dC {A B:Prop}(h:B):if false=true then A else B:=by
 rw[if_neg Bool.false_ne_true];exact h
theorem fH {A B:Prop}(h:A):if true=true then A else B:=by
 rw[if_pos rfl];exact h
theorem qK {c A B:Prop}[Decidable c](h1:c->A)(h2:¬c->B):if c then A else B:=by
 by_cases h:c
 ·rw[if_pos h];exact h1 h
 ·rw[if_neg h];exact h2 h
def aW (H H':Hp):Prop:=∀b o,H b=some o->H' b=some o
theorem aW.refl (H:Hp):aW H H:=fun _ _ h=>h
theorem aW.trans (a:aW H H1)(b:aW H1 H2):aW H H2:=fun c o h=>b c o (a c o h)
theorem aW.free (e:aW H H')(h:H' l=Option.none):H l=Option.none:=by
 cases q:H l with
 |none=>rfl
 |some o=>
  rw[e l o q] at h
  cases h
theorem aW.seq {K:Frag}(e:aW H H')(h:SqL K H a xs):SqL K H' a xs:=by
 rcases h with (h | ⟨o,h⟩) | h
 ·exact .inl (.inl (e _ _ h))
 ·exact .inl (.inr ⟨o,e _ _ h⟩)
 ·exact .inr h
section
variable {X:Cx}
def Bt (n:Nat)(i:Int):Prop:=i.natAbs < 2 ^ n
theorem vP (h:Bt n i):Builtin.Int.intBits i<=n:=by
 unfold Builtin.Int.intBits;split
 ·exact Nat.zero_le _
 ·rename_i h0
  have hp:i.natAbs≠0:=by
   intro z;apply h0;simp at z ⊢;exact z
  have:i.natAbs.log2 < n:=(Nat.log2_lt hp).mpr h;assumption
def Uh (i j:Int):Prop:=∃n m,Bt n i/\Bt m j/\n<=1048576/\m<=1048576
theorem Uh.ok (h:Uh i j):IntMulOk i j:=by
 obtain⟨n,m,h1,h2,h3,h4⟩:=h;have e:(2:Nat) ^ 20=1048576:=by decide
 exact IntMulOk.of_bits (by have:=vP h1;lia) (by have:=vP h2;lia)
theorem cP:OpR X (binaryOp .Mult) (rI Uh fun i j=>.int (i*j)):=opI fun _ _ _ _ _ _ _ hc q=>mul_int q hc.ok
def Im (i j:Int):Prop:=j≠0/\∃n,Bt n j/\n<=9000
theorem Im.ok (h:Im i j):Builtin.divisionGoesByPylong i j=false:=by
 obtain⟨h0,n,h1,h2⟩:=h;refine PyProof.noPylong_of_log2 ?_;have hp:j.natAbs≠0:=by lia
 have:j.natAbs.log2 < n:=(Nat.log2_lt hp).mpr h1;lia
theorem iJ:OpR X (binaryOp .FloorDiv) (rI Im fun i j=>.int (i.fdiv j)):=opI fun _ _ _ _ _ _ _ hc q=>floordiv_int hc.1 q (.inl hc.ok)
mutual
inductive oX (K:Frag) (H:Hp):V->PyData->Prop where
 |non:oX K H .non .none
 |bl (b:Bool):oX K H (.bl b) (.bool b)
 |int (i:Int):oX K H (.int i) (.int i)
 |str (x:Str):oX K H (.str x) (.str x)
 |lst {a:Addr} {xs:List V} {ds:List PyData} (h:SqL K H a xs) (q:pG K H xs ds):oX K H (.ref a) (.list ds)
 |tup {a:Addr} {xs:List V} {ds:List PyData} (h:SqT K H a xs) (q:pG K H xs ds):oX K H (.ref a) (.tuple ds)
inductive pG (K:Frag) (H:Hp):List V->List PyData->Prop where
 |nil:pG K H [] []
 |cons {x:V} {d:PyData} {xs:List V} {ds:List PyData} (p:oX K H x d) (q:pG K H xs ds):pG K H (x :: xs) (d :: ds)
end
theorem kZ {H:Hp}(I:Inv X pins σ H s):∀{x:V} {d:PyData},oX X.K H x d->∀{u:Value},cA x u->∃as,Reads s.heap u d as:=by
 intro x d h
 induction h using oX.rec (motive_2:=fun xs ds _=>∀{us:List Value},bQ xs us->∃as,ReadsAll s.heap us ds as) with
 |non=>intro u r;cases (show u=Value.none from r);exact⟨_,.none⟩
 |bl b=>intro u r;cases (show u=Value.bool b from r);exact⟨_,.bool b⟩
 |int i=>intro u r;obtain⟨t,rfl⟩:=(show ∃t,u=Value.int i t from r);exact⟨_,.int i t⟩
 |str y=>intro u r;obtain⟨t,rfl⟩:=(show ∃t,u=Value.str y t from r);exact⟨_,.str y t⟩
 |lst h q ih=>
  intro u r
  cases (show u=Value.ref _ from r)
  obtain⟨its,rv,pl,_⟩:=I.list h;obtain⟨as,ra⟩:=ih rv;obtain⟨o,h1,h2,n,h3⟩:=pl.isList;exact⟨_,.list h1 h2 h3 (by simpa using ra)⟩
 |tup h q ih=>
  intro u r
  cases (show u=Value.ref _ from r)
  obtain⟨its,rv,pl,_⟩:=I.tuple h;obtain⟨as,ra⟩:=ih rv;obtain⟨o,h1,h2,n,h3⟩:=pl;exact⟨_,.tuple h1 h2 h3 (by simpa using ra)⟩
 |nil=>rename_i us r;cases r;exact⟨_,.nil⟩
 |cons p q ih1 ih2=>
  rename_i us r
  cases r with
  |cons r1 r2=>
   obtain⟨as,h1⟩:=ih1 r1;obtain⟨bs,h2⟩:=ih2 r2;exact⟨_,.cons h1 h2⟩
def xH (K:Frag)(neg:Bool):R2:=fun x y H Q=>∃d e,oX K H x d/\oX K H y e/\d.canLay0=true/\e.canLay0=true/\min d.depth e.depth<=16/\Q (.bl (if neg then !PyData.eqv d e else PyData.eqv d e)) H
theorem Fc (hu:X.A.units+64 < cLine):OpR X (compareOp .Eq) (xH X.K false):=by
 intro pins s σ H x y v u Q I rx ry h;obtain⟨d,e,h1,h2,c1,c2,hm,q⟩:=h;obtain⟨as,r1⟩:=kZ I h1 rx;obtain⟨bs,r2⟩:=kZ I h2 ry;exact PySem.SeqAt.compareEq_reads r1 r2 c1 c2 (by lia) ⟨.bl (PyData.eqv d e),H,I,rfl,q⟩
theorem wO (hu:X.A.units+64 < cLine):OpR X (compareOp .NotEq) (xH X.K true):=by
 intro pins s σ H x y v u Q I rx ry h;obtain⟨d,e,h1,h2,c1,c2,hm,q⟩:=h;obtain⟨as,r1⟩:=kZ I h1 rx;obtain⟨bs,r2⟩:=kZ I h2 ry;exact PySem.SeqAt.compareNe_reads r1 r2 c1 c2 (by lia) ⟨.bl (!PyData.eqv d e),H,I,rfl,q⟩
end
section
variable {prog:Program} {w:World} {A:Around} {R:Result->Shared->Prop} {s:Shared}
abbrev Ye (ifs:List Expr)(env:Env):Sem Bool:=forIn ifs true fun c r=>if r=true then do let ok <- isTrue c env (eval c env);pure (ForInStep.yield ok) else pure (ForInStep.yield r)
theorem Mt {elt target iter:Expr}(I:Nat->Shared->Prop)(turn:∀n s,I n s->wpAny (model prog w) A (pyNext it) (fun r s₁=>match r with
   |none=>R (.ok .next) s₁
   |some v=>wpAny (model prog w) A (letOwnedTupleGo target it v) (fun _ s₀=>wpAny (model prog w) A (assign target env v) (fun _ s₂=>
     wpAny (model prog w) A (Ye ifs env) (fun ok s₃=>
      if ok=true then wpAny (model prog w) A (eval elt env) (fun x s₄=>
       wpAny (model prog w) A (call (.builtin "list.append") [acc,x]) (fun _ s₅=>∃m,m < n/\I m s₅) (fun _ _=>False) s₄) (fun _ _=>False) s₃
      else ∃m,m < n/\I m s₃) (fun _ _=>False) s₂) (fun _ _=>False) s₀) (fun _ _=>False) s₁) (fun _ _=>False) s)(n:Nat)(h:I n s):
  codeAny (model prog w) A (.compLoop (.ListComp elt [⟨target,iter,ifs,0⟩] scope pos) 0 it acc env) R s:=by
 refine codeAny_loop rfl I (fun n s hI=>?_) n h;show wpAny _ A ((compTurn (.ListComp elt [⟨target,iter,ifs,0⟩] scope pos) 0 it acc env).onRaise (fun x=>do noteFrame x env;theTreesLotGoes x)) _ _ s;refine wpAny_noted ?_;rw[compTurn_list];refine wpAny_bind (wpAny_standAt (wpAny_bind (wpAny_mono (turn n s hI) (fun r s₁ h₁=>?_) fun _ _ z=>z.elim)))
 cases r with
 |none=>exact wpAny_pure h₁
 |some v=>
  refine wpAny_bind (wpAny_mono h₁ (fun _ s₀ h₀=>?_) fun _ _ z=>z.elim);refine wpAny_bind (wpAny_mono h₀ (fun _ s₂ h₂=>wpAny_bind (wpAny_mono h₂ (fun ok s₃ h₃=>?_) fun _ _ z=>z.elim)) fun _ _ z=>z.elim)
  cases ok with
  |false=>exact wpAny_pure ⟨rfl,h₃⟩
  |true=>
   rw[if_pos rfl] at h₃;show wpAny _ _ ((do let _ <- call (.builtin "list.append") [acc,<- eval elt env]) >>= fun _=>again (.compLoop (.ListComp elt [⟨target,iter,ifs,0⟩] scope pos) 0 it acc env)) _ _ _;exact wpAny_bind (wpAny_bind (wpAny_mono h₃ (fun x s₄ h₄=>wpAny_bind (wpAny_mono h₄ (fun _ s₅ h₅=>wpAny_pure (wpAny_pure ⟨rfl,h₅⟩)) fun _ _ z=>z.elim)) fun _ _ z=>z.elim))
end
structure zW (X:Cx) (scope:Scope) (cl:List (Str × Addr)) (Nc:List Str) (nl:Nat) (fr:List Nat):Prop where
 clos:closureFor scope X.env=pure cl
 kind:scope.kind=.function
 names:∀y∈scope.names,y.2=.local->scope.names.lookup y.1=some .local
 cell:∀y∈scope.names,y.2≠.cell
 sub:∀x c,cl.lookup x=some c->X.env.cells.lookup x=some c
 has:∀x,(relabel scope X.env).names.lookup x=some .cell\/(relabel scope X.env).names.lookup x=some .free->∃c,cl.lookup x=some c
 len:Nc.length=nl+fr.length
 tail:∀i n,Nc[nl+i]?=some n->∃j,fr[i]?=some j/\X.N[j]?=some n/\X.env.kindOf n=some .cell/\cl.lookup n=X.env.cells.lookup n/\((relabel scope X.env).names.lookup n=some .cell\/(relabel scope X.env).names.lookup n=some .free)
abbrev fX (X:Cx)(scope:Scope)(cl:List (Str × Addr))(Nc:List Str)(C:Addr)(s3:Shared)(H3:Hp)(fp:List Addr)(pins:List (Addr × Obj)):Cx:=
 { X with N:=Nc,s₀:=s3,H₀:=H3,env:=compEnvC scope cl C X.env,outer:=X.stack,ex:=fp,fn:=fun _=>false,pn:=X.pn++pins,xe:=fun _ _=>False }
def σC (nl:Nat)(fr:List Nat)(σ:St):St:=replicate nl none++fr.map fun j=>(σ[j]?).join
abbrev PIf (X:Cx)(ifs:List Expr)(t:TT):Prop:=
 ∀(pins:List (Addr × Obj)) (s:Shared) (σ:St) (H:Hp) (Q:Bool->Hp->Prop),Inv X pins σ H s->t σ H Q->wpAny (model X.prog X.w) X.A (Ye ifs X.env) (TP X pins σ Q) X.xe s
theorem fL:PIf X [] (fun _ H Q=>Q true H):=fun _ _ _ H _ I h=>wpAny_pure ⟨H,I,h⟩
theorem kX (h:PT X c t):PIf X [c] t:=fun pins s σ H Q I q=>wpAny_tests_one (h pins s σ H Q I q)
section
variable {X:Cx} {scope:Scope} {cl:List (Str × Addr)} {Nc:List Str} {nl:Nat} {fr:List Nat} {pins:List (Addr × Obj)} {σ:St} {H3:Hp} {s3:Shared} {fp:List Addr} {h4:Heap} {tk:Nat}
theorem Ga (ck:zW X scope cl Nc nl fr)(I:Inv X pins σ H3 s3)(hf:∀b∈fp,oB X pins H3 b)(hfs:∀b∈fp,b < s3.heap.objs.size)(hns:h4.Ns s3.heap.objs.size fun _=>none)(hk:∀b o,s3.heap.get? b=some o->h4.get? b=some o) :
  Inv (fX X scope cl Nc s3.heap.objs.size s3 H3 fp pins) [] (σC nl fr σ) H3 { s3 with heap:=h4,toks:=tk }:=by
 have stk:∀b∈frs X.stack,b∈X.env.locals :: X.fs:=I.stkSub;have nfs:∀b,b≠X.env.locals->b∉X.fs->b∉frs X.stack:=fun b h1 h2 z=>(mem_cons.mp (stk b z)).elim h1 h2;have ltc:∀x c,cl.lookup x=some c->c < s3.heap.objs.size:=fun x c e=>by
  obtain⟨v,z⟩:=I.cell x c (ck.sub x c e);exact z.lt
 refine⟨⟨I.ok.mod,ck.kind,I.ok.glob,I.ok.blt,Nat.le_refl _,fun x y c h1 h2=>I.ok.inj x y c (ck.sub x c h1) (ck.sub y c h2),fun x hx=>ck.has x hx,fun x c hz=>Bool.noConfusion hz,I.ok.hd,I.ok.frames,.inl rfl,fun b hb=>?_,I.bs,Nat.le_trans I.ok.bsz I.sz,fun b o e hb=>?_,fun b hb=>?_,I.stack,I.stkFree⟩,
  rfl,I.bare,Un.kept hk,⟨_,hns,fun i x v h1 h2 h3=>?_⟩,fun x c e=>?_,I.hok.fresh (Nat.le_refl _),fun x c e=>I.freeC x c (ck.sub x c e),fun p hp=>?_,I.hok.kept hk,?_⟩
 ·obtain⟨f0,f1,f2,f3,f4,f5⟩:=hf b hb;exact⟨Nat.ne_of_lt (hfs b hb),fun x c e=>f4 x c (ck.sub x c e)⟩
 ·obtain⟨f0,f1,f2,f3,f4,f5⟩:=hf b hb;rcases f3 with z | z
  ·exact I.ok.noex b o e z
  ·exact absurd (Nat.lt_of_lt_of_le (Heap.lt_size e) (Nat.le_trans I.ok.bsz z)) (Nat.lt_irrefl _)
 ·obtain⟨f0,f1,f2,f3,f4,f5⟩:=hf b hb;exact nfs b f1 f2
 ·-- a name's value
  unfold σC at h2
  by_cases hi:i < nl
  ·rw[getElem?_append_left (by simpa using hi),getElem?_replicate] at h2;split at h2<;>cases h2
  ·have hi':nl<=i:=by lia
   rw[getElem?_append_right (by simpa using hi'),length_replicate,getElem?_map] at h2;obtain⟨k,rfl⟩:∃k,i=nl+k:=⟨i - nl,by lia⟩
   obtain⟨j,e1,e2,e3,e4,e5⟩:=ck.tail k x h1;rw[Nat.add_sub_cancel_left,e1] at h2;have h2':(σ[j]?).join=some v:=by simpa using h2
   have h2'':σ[j]?=some (some v):=by
    cases q:σ[j]? with
    |none=>rw[q] at h2';cases h2'
    |some z=>rw[q] at h2';exact congrArg some h2'
   obtain⟨m,hn,hl⟩:=I.loc;obtain⟨u,r,l⟩:=hl j x v e2 h2'' (.inr (.inl e3));refine⟨u,r,?_⟩;rcases l with ⟨k1,_⟩ | ⟨k1,c,ec,z⟩
   ·rw[e3] at k1;cases k1
   ·obtain⟨o,ho,hd⟩:=z;exact .inr ⟨e5,c,by show cl.lookup x=some c;rw[e4];exact ec,o,hk _ _ ho,hd⟩
 ·obtain⟨v,o,ho,hd⟩:=I.cell x c (ck.sub x c e);exact⟨v,o,hk _ _ ho,hd⟩
 ·have hp':p∈X.pn++pins:=by simpa using hp
  obtain⟨e,n,ne,nf,d⟩:=I.pin p hp';exact⟨hk _ _ e,n,Nat.ne_of_lt (Heap.lt_size e),nfs _ ne nf,d⟩
 ·unfold σC;show _=Nc.length;rw[List.length_append,length_replicate,length_map,ck.len]
theorem Qw (I:Inv X pins σ H3 s3)(hf:∀b∈fp,oB X pins H3 b)(J:Inv (fX X scope cl Nc s3.heap.objs.size s3 H3 fp pins) pins' σ' H' s'):Inv X pins σ H' s'/\oB X pins H' s3.heap.objs.size:=by
 refine⟨I.call' (ch:=fp) J.os J.base J.hok J.bare fun b hb=>?_,I.fpOk (Nat.le_refl _) J.free⟩;obtain⟨f0,f1,f2,f3,f4,f5⟩:=hf b hb;exact⟨f3,f1,f4,f5⟩
theorem Inv.off (I:Inv X pins σ H s)(f:oB X pins H b)(hs:Heap.SameBut b s.heap h'):Inv X pins σ H { s with heap:=h' }:=by
 obtain⟨f0,f1,f2,f3,f4,f5⟩:=f;exact I.turned (t':=s.toks) (it:=b) (fun c o hb e=>(hs.2 c hb).trans e) f0 f1 f3 f4 f5
end
def Dn (J:It)(nl:Nat)(fr:List Nat)(g:TG)(tt:TT)(te:TE)(σ:St)(D:Addr)(H1:Hp)(Q:VK):Prop:=
 ∃W:Nat->Nat->List V->Hp->Prop,(∃m,W 0 m [] (upd H1 D (.lst [])))/\∀i m ys H2,W i m ys H2->H2 D=some (.lst ys)/\
  ((J.stop i H2/\Q (.ref D) H2)\/(J.go i H2/\∀x H3,J.yld i H2 x H3->g x (σC nl fr σ) H3 fun σ2 H4=>σ2.length=(σC nl fr σ).length/\(∀(i:Nat) v,(σC nl fr σ)[i]?=some (some v)->σ2[i]?=some (some v))/\
   tt σ2 H4 fun b H5=>if b=true then te σ2 H5 fun y H6=>H6 D=some (.lst ys)/\ys.length < sizeLine/\∃m',m' < m/\W (i+1) m' (ys++[y]) (upd H6 D (.lst (ys++[y])))
    else ∃m',m' < m/\W (i+1) m' ys H5))
def Qd (wi:TI)(nl:Nat)(fr:List Nat)(g:TG)(tt:TT)(te:TE):TE:=fun σ H Q=>wi σ H fun J H1=>∀D,H1 D=none->Dn J nl fr g tt te σ D H1 Q
section
variable {X:Cx} {scope:Scope} {cl:List (Str × Addr)} {Nc:List Str} {nl:Nat} {fr:List Nat} {elt tg iter:Expr} {ifs:List Expr} {pos:Pos} {wi:TI} {g:TG} {tt:TT} {te:TE}
theorem Et (hc:X.calm=true)(ck:zW X scope cl Nc nl fr)(hi:PI X tg iter wi)(hg:∀C s3 H3 fp pins,PG (fX X scope cl Nc C s3 H3 fp pins) tg g)(ht:∀C s3 H3 fp pins,PIf (fX X scope cl Nc C s3 H3 fp pins) ifs tt)(he:∀C s3 H3 fp pins,PE (fX X scope cl Nc C s3 H3 fp pins) elt te)(I:Inv X pins σ H s)(h:Qd wi nl fr g tt te σ H Q){RR:Value->Addr->Result->Shared->Prop}(fin:∀D C s',(∃H',(∃m,s'.heap.Ns C m)/\Inv X pins σ H' s'/\oB X pins H' C/\Q (.ref D) H')->RR (.ref D) C (.ok .next) s'):
  wpAny (model X.prog X.w) X.A (eval iter X.env) (fun x s₁=>wpAny (model X.prog X.w) X.A (pyIter x) (fun it s₂=>wpAny (model X.prog X.w) X.A (newList []) (fun acc s₃=>
   wpAny (model X.prog X.w) X.A (newFunctionEnv scope X.env.globals cl [] X.env.qual none .none (some X.env)) (fun cenv s₄=>
    codeAny (model X.prog X.w) X.A (.compStart (.ListComp elt [⟨tg,iter,ifs,0⟩] scope pos) 0 it acc { cenv with scope:=relabel scope X.env }) (RR acc cenv.locals) s₄) X.xe s₃) X.xe s₂) X.xe s₁) X.xe s:=by
 refine thn (hi pins s σ H _ I h) fun v s1 h1=>thn h1 fun itv s2 h2=>?_;obtain⟨it,fp,tn,J,H2,e,I2,T,st2,f2,hD⟩:=h2;subst e;have hn2:H2 s2.heap.objs.size=none:=I2.hok.fresh (Nat.le_refl _);obtain⟨W,⟨m0,w0⟩,turn⟩:=hD s2.heap.objs.size hn2;refine wpAny_newObj_type (wpAny_newFunctionEnv ck.cell (by intro y hy;simp at hy) (fun h4 hns hsb=>?_) ck.kind);dsimp only at hns hsb ⊢;have I3:Inv X pins σ (upd H2 s2.heap.objs.size (.lst [])) { s2 with heap:=s2.heap.push { cls:=.type "list",dict:=none,data:=.seq ([]:List Value).toArray } }:=
  I2.laid (t':=s2.toks) (fun b u e=>Heap.get?_push_of_some _ e) (Nat.le_refl _) ⟨Nat.zero_le _,[],0,.nil,Heap.get?_push_size _ rfl⟩
 have hfs:∀b∈fp,b < s2.heap.objs.size:=fun b hb=>by
  obtain⟨o,e,_⟩:=T.obj 0 _ st2 b hb;exact Heap.lt_size e
 have f3:∀b∈fp,oB X pins (upd H2 s2.heap.objs.size (.lst [])) b:=fun b hb=>⟨by rw[aL (Nat.ne_of_lt (hfs b hb))];exact(f2 b hb).1,(f2 b hb).2⟩
 generalize hH3:upd H2 s2.heap.objs.size (.lst [])=H3 at *
 generalize hs3:({ s2 with heap:=s2.heap.push { cls:=.type "list",dict:=none,data:=.seq ([]:List Value).toArray } }:Shared)=s3 at *
 have z3:s3.heap=s2.heap.push { cls:=.type "list",dict:=none,data:=.seq ([]:List Value).toArray }:=by rw[<- hs3]
 have hsz3:s3.heap.objs.size=s2.heap.objs.size+1:=by rw[z3,Heap.size_push]
 rw[<- z3] at hns hsb ⊢;have hk4:∀b o,s3.heap.get? b=some o->h4.get? b=some o:=fun b o e=>hsb.extBut b o (Nat.ne_of_lt (Heap.lt_size e)) (Heap.get?_push_of_some _ e);have hfs3:∀b∈fp,b < s3.heap.objs.size:=fun b hb=>Nat.lt_of_lt_of_le (hfs b hb) (by rw[hsz3];exact Nat.le_succ _);have hns':h4.Ns s3.heap.objs.size fun _=>none:=by simpa using hns
 have K0:=fun tk=>Ga (tk:=tk) ck I3 f3 hfs3 hns' hk4;have stat:∀{H':Hp},(∀b∈fp,H' b=none)->∀b∈fp,oB (fX X scope cl Nc s3.heap.objs.size s3 H3 fp pins) [] H' b:=fun {H'} hn b hb=>by
  obtain⟨f0,g1,g2,g3,g4,g5⟩:=f3 b hb;refine⟨hn b hb,Nat.ne_of_lt (hfs3 b hb),fun z=>?_,.inl hb,fun x c e=>g4 x c (ck.sub x c e),fun p hp=>g5 p (by simpa using hp)⟩;exact(mem_cons.mp (I3.stkSub b z)).elim g1 g2
 have st4:tn 0 h4:=T.keep 0 _ _ st2 fun b hb o e=>hk4 b o (by rw[z3];exact Heap.get?_push_of_some _ e);have loop:∀tk,codeAny (model X.prog X.w) X.A (.compLoop (.ListComp elt [⟨tg,iter,ifs,0⟩] scope pos) 0 (.ref it) (.ref s2.heap.objs.size) (compEnvC scope cl s3.heap.objs.size X.env)) (RR (.ref s2.heap.objs.size) s3.heap.objs.size) { s3 with heap:=h4,toks:=tk }:=by
  intro tk;refine Mt (fun n s'=>∃i ys H',Inv (fX X scope cl Nc s3.heap.objs.size s3 H3 fp pins) [] (σC nl fr σ) H' s'/\tn i s'.heap/\(∀b∈fp,H' b=none)/\W i n ys H') ?_ m0 ⟨0,[],H3,K0 tk,st4,fun b hb=>(f3 b hb).1,w0⟩;rintro n s5 ⟨i,ys,H5,I5,st5,fr5,w5⟩;obtain⟨hl5,q5⟩:=turn i n ys H5 w5;rcases q5 with ⟨stop,qn⟩ | ⟨go,step⟩
  ·refine wpAny_mono (T.done (fX X scope cl Nc s3.heap.objs.size s3 H3 fp pins) rfl rfl rfl hc i [] s5 (σC nl fr σ) H5 (fun _ _=>False) I5 (stat fr5) st5 stop) (fun r s6 h6=>?_) fun _ _ z=>z;obtain⟨hr,I6⟩:=h6;subst hr;obtain⟨z1,z2⟩:=Qw I3 f3 I6;refine fin _ _ _ ⟨H5,?_,z1,z2,qn⟩;obtain⟨m,hm,_⟩:=I6.loc;exact⟨m,hm⟩
  ·refine wpAny_mono (T.item (fX X scope cl Nc s3.heap.objs.size s3 H3 fp pins) rfl rfl rfl hc i [] s5 (σC nl fr σ) H5 (fun _ _=>False) I5 (stat fr5) st5 go) (fun r s6 h6=>?_) fun _ _ z=>z;obtain⟨u,hr,h6⟩:=h6;subst hr;refine wpAny_mono h6 (fun _ s7 h7=>?_) fun _ _ z=>z;obtain⟨x,H7,I7,r7,y7,st7,fr7⟩:=h7;have I7':=I7.pinned (stat fr7) (T.obj _ _ st7);refine wpAny_mono (hg s3.heap.objs.size s3 H3 fp pins _ s7 _ H7 x u _ I7' r7 (step x H7 y7)) (fun _ s8 h8=>?_) fun _ _ z=>z;obtain⟨σ8,H8,I8,l8,k8,q8⟩:=h8;refine wpAny_mono (ht s3.heap.objs.size s3 H3 fp pins _ s8 σ8 H8 _ I8 q8) (fun b s9 h9=>?_) fun _ _ z=>z;obtain⟨H9,I9,q9⟩:=h9;have again:∀{ys':List V} {H':Hp} {s':Shared} {m':Nat},Inv (fX X scope cl Nc s3.heap.objs.size s3 H3 fp pins) ([]++uH fp s7.heap) σ8 H' s'->m' < n->W (i+1) m' ys' H'->
     ∃m,m < n/\∃i ys H',Inv (fX X scope cl Nc s3.heap.objs.size s3 H3 fp pins) [] (σC nl fr σ) H' s'/\tn i s'.heap/\(∀b∈fp,H' b=none)/\W i m ys H':=fun {ys' H' s' m'} I' hm w'=>by
    refine⟨m',hm,i+1,ys',H',I'.unpinned.weak l8.symm k8,T.keep _ _ _ st7 fun b hb o e=>(I'.pin (b,o) (mem_append_right _ (mem_append_right _ (kU hb e)))).1,fun b hb=>?_,w'⟩;obtain⟨o,e,d⟩:=T.obj _ _ st7 b hb;exact(I'.pin (b,o) (mem_append_right _ (mem_append_right _ (kU hb e)))).2.1
   cases b with
   |false=>
    rw[if_neg Bool.false_ne_true] at q9 ⊢;obtain⟨m',hm,w9⟩:=q9;exact again I9 hm w9
   |true=>
    rw[if_pos rfl] at q9 ⊢;refine wpAny_mono (he s3.heap.objs.size s3 H3 fp pins _ s9 σ8 H9 _ I9 q9) (fun yv s10 h10=>?_) fun _ _ z=>z;obtain⟨y,H10,I10,r10,hl10,hz10,m',hm,w10⟩:=h10;refine wpAny_mono (dF (X:=fX X scope cl Nc s3.heap.objs.size s3 H3 fp pins) _ s10 σ8 H10 (.ref s2.heap.objs.size) [y] _ [yv] (fun v H'=>H'=upd H10 s2.heap.objs.size (.lst (ys++[y]))) I10 rfl (.cons r10 .nil) ⟨_,ys,y,rfl,rfl,hl10,hz10,rfl⟩) (fun _ s11 h11=>?_) fun _ _ z=>z;obtain⟨_,H11,I11,_,e11⟩:=h11;subst e11;exact again I11 hm w10
 have L:=loop (s2.toks+([]:List (Str × Value)).length);rw[show s3.gens=s2.gens by rw[<- hs3],show s3.drawn=s2.drawn by rw[<- hs3],show s3.os=s2.os by rw[<- hs3]] at L;exact codeAny_compStart_list L (T.self _ 0 _ _ _ st4 L)
theorem dQ (hc:X.calm=true)(ck:zW X scope cl Nc nl fr)(hi:PI X tg iter wi)(hg:∀C s3 H3 fp pins,PG (fX X scope cl Nc C s3 H3 fp pins) tg g)(ht:∀C s3 H3 fp pins,PIf (fX X scope cl Nc C s3 H3 fp pins) ifs tt)(he:∀C s3 H3 fp pins,PE (fX X scope cl Nc C s3 H3 fp pins) elt te)(hs:∀x,foldedSetIterable iter X.env x=pure x:=by intro _;rfl):PE X (.ListComp elt [⟨tg,iter,ifs,0⟩] scope pos) (Qd wi nl fr g tt te):=by
 intro pins s σ H Q I h;rw[eval_ListComp];refine wpAny_comprehension_free (use:=none) rfl hs ck.clos ck.kind ck.names (Et (RR:=fun acc C=>compPost (model X.prog X.w) X.A X.xe none (EP X pins σ Q) acc C) hc ck hi hg ht he I h fun D C s' hh=>?_);obtain⟨H',⟨m,hm⟩,hI,hF,q⟩:=hh;exact⟨m,hm,fun h' hs'=>⟨.ref D,H',hI.off hF hs',rfl,q⟩⟩
theorem tZ (hN:X.N.Nodup)(hiy:X.N[i]?=some y)(hy:X.env.scope.names.lookup y=some .local)(hc:X.calm=true)(ck:zW X scope cl Nc nl fr)(hi:PI X tg iter wi)(hg:∀C s3 H3 fp pins,PG (fX X scope cl Nc C s3 H3 fp pins) tg g)(ht:∀C s3 H3 fp pins,PIf (fX X scope cl Nc C s3 H3 fp pins) ifs tt)(he:∀C s3 H3 fp pins,PE (fX X scope cl Nc C s3 H3 fp pins) elt te)(hsw:swapsWith (.ListComp elt [⟨tg,iter,ifs,0⟩] scope pos) (some (.Name y py)) spos.line X.env=pure true)(hs:∀x,foldedSetIterable iter X.env x=pure x:=by intro _;rfl):PS X (.Assign [.Name y py] (.ListComp elt [⟨tg,iter,ifs,0⟩] scope pos) spos) (Zq (Qd wi nl fr g tt te) (iN i)):=by
 intro pins s σ H D I h;rw[exec_Assign_Name_used _ _ _ _ hsw];refine wpAny_bind (wpAny_standAt (wpAny_bind ?_));show wpAny _ X.A (do let _ <- comprehension (.ListComp elt [⟨tg,iter,ifs,0⟩] scope pos) scope X.env _ (newList []) false (eval iter X.env) (some (assign (.Name y py) X.env))) _ _ s;refine wpAny_bind (wpAny_mono (wpAny_comprehension_free (use:=some (assign (.Name y py) X.env)) (Q:=fun _ s'=>SP X pins D .next s') rfl hs ck.clos ck.kind ck.names
  (Et (RR:=fun acc C=>compPost (model X.prog X.w) X.A X.xe (some (assign (.Name y py) X.env)) (fun _ s'=>SP X pins D .next s') acc C) hc ck hi hg ht he I h fun Dd C s' hh=>?_)) (fun _ s' hq=>wpAny_pure (wpAny_pure hq)) fun _ _ e=>e)
 obtain⟨H',⟨m,hm⟩,hI,hF,q⟩:=hh;show wpAny _ X.A (assign (.Name y py) X.env (.ref Dd)) _ _ _;refine wpAny_assign_Name (yS hI hN hiy (.inl hy) (v:=.ref Dd) rfl (fun s2 I2 hsb=>?_) (.inr hy));obtain⟨a,sb,ha⟩:=hsb;have hCa:C≠a:=by
  rcases ha with z | z
  ·rw[z];exact hF.2.1
  ·exact Ne.symm (hF.2.2.2.2.1 y a z)
 refine⟨m,hm.sameBut sb hCa,fun h' hs'=>⟨_,H',I2.off hF hs',q⟩⟩
end
end L2
namespace Mq
abbrev Q2:=Int × Int
def gc (a b:Int):Int:=(Int.gcd a b:Nat)
theorem Ic (a b:Int):gc b (Int.fmod a b)=gc a b:=by
 unfold gc;rw[Int.fmod_def,Int.gcd_comm a b,Int.sub_eq_add_neg,<- Int.mul_neg,Int.gcd_add_mul_left_right]
theorem yR (h:b≠0):(Int.fmod a b).natAbs < b.natAbs:=by
 rcases (by lia:0 < b\/b < 0) with h1 | h1
 ·have:=Int.fmod_nonneg_of_pos a h1;have:=Int.fmod_lt_of_pos a h1;lia
 ·have h2:0 < -b:=by lia
  have e:Int.fmod a b=- Int.fmod (-a) (-b):=by
   rw[Int.neg_fmod_neg];lia
  have:=Int.fmod_nonneg_of_pos (-a) h2;have:=Int.fmod_lt_of_pos (-a) h2;lia
theorem Ii (a:Int):gc a 0=if a < 0 then -a else a:=by
 unfold gc;rw[Int.gcd_zero];split<;>lia
theorem vH (h:b≠0):0 < gc a b:=by
 have:=Int.gcd_pos_of_ne_zero_right a h;unfold gc;lia
structure Low (p:Q2):Prop where
 pos:1<=p.2
 one:gc p.1 p.2=1
def dvr (t b:Int):Int:=if b < 0 then -gc t b else gc t b
def red (t b:Int):Q2:=(Int.fdiv t (dvr t b),Int.fdiv b (dvr t b))
theorem rH (h:b≠0):dvr t b≠0:=by
 have:=vH (a:=t) h;unfold dvr;split<;>lia
theorem gD (hg:g≠0)(h:a=g*k):Int.fdiv a g=k:=by
 rw[h,Int.mul_fdiv_cancel_left _ hg]
theorem Vc (t b:Int):dvr t b ∣ t/\dvr t b ∣ b:=by
 have h1:gc t b ∣ t:=Int.gcd_dvd_left t b;have h2:gc t b ∣ b:=Int.gcd_dvd_right t b;unfold dvr;split
 ·exact⟨Int.neg_dvd.mpr h1,Int.neg_dvd.mpr h2⟩
 ·exact⟨h1,h2⟩
theorem rR (h:b≠0):t=dvr t b*(red t b).1/\b=dvr t b*(red t b).2:=by
 obtain⟨⟨x,hx⟩,⟨y,hy⟩⟩:=Vc t b;have hg:=rH (t:=t) h;have e1:(red t b).1=x:=gD hg hx;have e2:(red t b).2=y:=gD hg hy;rw[e1,e2];exact⟨hx,hy⟩
theorem gK (h:b≠0):Low (red t b):=by
 obtain⟨h1,h2⟩:=rR (t:=t) h;have hg:=rH (t:=t) h;have hp:=vH (a:=t) h;have nd:(dvr t b).natAbs=(gc t b).natAbs:=by unfold dvr;split<;>simp
 have e:Int.gcd t b=(dvr t b).natAbs*Int.gcd (red t b).1 (red t b).2:=by
  rw[<- Int.gcd_mul_left,<- h1,<- h2]
 have e2:(gc t b).natAbs=Int.gcd t b:=by unfold gc;simp
 rw[nd,e2] at e;have hp':0 < Int.gcd t b:=by unfold gc at hp;lia
 have one:Int.gcd (red t b).1 (red t b).2=1:=by
  have:Int.gcd t b*Int.gcd (red t b).1 (red t b).2=Int.gcd t b*1:=by lia
  exact Nat.eq_of_mul_eq_mul_left hp' this
 refine⟨?_,by unfold gc;rw[one];rfl⟩;have sgn:0 < (red t b).2:=by
  by_cases hb:b < 0
  ·have hd:dvr t b < 0:=by unfold dvr;rw[if_pos hb];lia
   have hq:¬(red t b).2<=0:=fun q=>by
    have:=Int.mul_nonneg_of_nonpos_of_nonpos (Int.le_of_lt hd) q;lia
   lia
  ·have hd:0 < dvr t b:=by unfold dvr;rw[if_neg hb];assumption
   have hq:¬(red t b).2<=0:=fun q=>by
    have:=Int.mul_nonpos_of_nonneg_of_nonpos (Int.le_of_lt hd) q;lia
   lia
 assumption
theorem yE (h:b≠0):(red t b).1*b=t*(red t b).2:=by
 obtain⟨h1,h2⟩:=rR (t:=t) h;generalize (red t b).1=x at *
 generalize (red t b).2=y at *
 generalize dvr t b=g at *
 subst h1 h2;grind
theorem jL {a g k:Int}(hg:g≠0)(h:a=g*k):k.natAbs<=a.natAbs:=by
 rw[h,Int.natAbs_mul];exact Nat.le_mul_of_pos_left _ (by lia)
theorem kT (h:b≠0):(red t b).1.natAbs<=t.natAbs/\(red t b).2.natAbs<=b.natAbs:=by
 obtain⟨h1,h2⟩:=rR (t:=t) h;exact⟨jL (rH h) h1,jL (rH h) h2⟩
theorem Gc (h:b≠0):(dvr t b).natAbs<=b.natAbs:=by
 have e:(dvr t b).natAbs=Int.gcd t b:=by unfold dvr gc;split<;>simp
 rw[e];exact Int.gcd_le_natAbs_right t h
theorem Qv (hp:Low p)(hq:Low q)(h:p.1*q.2=q.1*p.2):p=q:=by
 have gp:Int.gcd p.2 p.1=1:=by have:=hp.one;rw[Int.gcd_comm];unfold gc at this;lia
 have gq:Int.gcd q.2 q.1=1:=by have:=hq.one;rw[Int.gcd_comm];unfold gc at this;lia
 have d1:p.2 ∣ q.2:=by
  have:p.2 ∣ p.1*q.2:=⟨q.1,by rw[h,Int.mul_comm]⟩
  have:=Int.dvd_gcd_mul_iff_dvd_mul.mpr this;rw[gp] at this;simpa using this
 have d2:q.2 ∣ p.2:=by
  have:q.2 ∣ q.1*p.2:=⟨p.1,by rw[<- h,Int.mul_comm]⟩
  have:=Int.dvd_gcd_mul_iff_dvd_mul.mpr this;rw[gq] at this;simpa using this
 have l1:=Int.le_of_dvd (by have:=hq.pos;assumption) d1;have l2:=Int.le_of_dvd (by have:=hp.pos;assumption) d2;have e2:p.2=q.2:=by lia
 have e1:p.1=q.1:=by
  rw[e2] at h;exact Int.eq_of_mul_eq_mul_right (by have:=hq.pos;lia) h
 exact Prod.ext e1 e2
def lW (p q:Q2):Q2:=red (p.1*q.2+q.1*p.2) (p.2*q.2)
def minus (p q:Q2):Q2:=red (p.1*q.2 - q.1*p.2) (p.2*q.2)
def sY (p q:Q2):Q2:=red (p.1*q.1) (p.2*q.2)
def rZ (p q:Q2):Q2:=red (p.1*q.2) (p.2*q.1)
def tot (l:List Q2):Q2:=l.foldl lW (0,1)
theorem iQ {a b:Int}(ha:1<=a)(hb:1<=b):a*b≠0:=by
 have:=Int.mul_pos (by assumption:0 < a) (by assumption:0 < b);lia
theorem mX (hp:1<=p.2)(hq:1<=q.2):Low (lW p q):=gK (iQ hp hq)
def B (n:Nat)(i:Int):Prop:=i.natAbs < 2 ^ n
structure Bd (n:Nat) (p:Q2):Prop where
 a:B n p.1
 b:B n p.2
theorem B.mono (h:B n i)(l:n<=m):B m i:=Nat.lt_of_lt_of_le h (Nat.pow_le_pow_right (by decide) l)
theorem B.mul (h:B n i)(q:B m j):B (n+m) (i*j):=by
 unfold B at *
 rw[Int.natAbs_mul,Nat.pow_add];exact Nat.mul_lt_mul'' h q
theorem B.add (h:B n i)(q:B n j):B (n+1) (i+j):=by
 unfold B at *
 have:=Int.natAbs_add_le i j;rw[Nat.pow_succ];lia
theorem B.neg (h:B n i):B n (-i):=by unfold B at *;lia
theorem B.sub (h:B n i)(q:B n j):B (n+1) (i - j):=by
 rw[Int.sub_eq_add_neg];exact h.add q.neg
theorem B.le (h:B n i)(l:j.natAbs<=i.natAbs):B n j:=Nat.lt_of_le_of_lt l h
theorem Bd.mono (h:Bd n p)(l:n<=m):Bd m p:=⟨h.a.mono l,h.b.mono l⟩
theorem By (h:Bd n p)(g:Bd m q)(hp:1<=p.2)(hq:1<=q.2):Bd (n+m+1) (lW p q):=by
 have k:=kT (t:=p.1*q.2+q.1*p.2) (iQ hp hq);have a2:B (n+m) (q.1*p.2):=by rw[Nat.add_comm];exact g.a.mul h.b
 exact⟨((h.a.mul g.b).add a2).le k.1,((h.b.mul g.b).mono (Nat.le_succ _)).le k.2⟩
def Pos (l:List Q2):Prop:=∀f∈l,1<=f.2
theorem Lv:∀{p:Q2},Low p->Pos l->Low (l.foldl lW p):=by
 induction l with
 |nil=>intro p h _;exact h
 |cons x r ih=>intro p h k;exact ih (mX h.pos (k x (by simp))) fun f hf=>k f (by simp[hf])
theorem qg3:Low (0,1):=⟨Int.le_refl 1,rfl⟩
theorem Kl (h:Pos l):Low (tot l):=Lv qg3 h
end Mq
open Mq (Bd By Gc Ic Ii Kl Low Q2 dvr gD gK gc iQ kT lW mX rH rZ red sY tot yR)
namespace L2
open PySem PySem.Spec PyProof.Rows
section
variable {X:Cx} {e st:Expr} {te ts:TE} {p2 pos:Pos}
def qp1 (K:Frag)(te ts:TE):TE:=fun σ H Q=>te σ H fun x H1=>ts σ H1 fun y H2=>∃a xs,x=.ref a/\y=.int (-1)/\SqL K H2 a xs/\∀p,H2 p=none->Q (.ref p) (upd H2 p (.lst xs.reverse))
theorem Zg (he:PE X e te)(hst:PE X st ts):PE X (.Subscript e (.Slice none none (some st) p2) pos) (qp1 X.K te ts):=by
 intro pins s σ H Q I h;refine Subscript_ (thn (he pins s σ H _ I h) fun v s1 ⟨x,H1,I1,r1,q1⟩=>?_);refine wpAny_Slice ?_;rw[evalPart_none];refine wpAny_pure ?_;rw[evalPart_some];refine wpAny_pure ?_;refine thn (hst pins s1 σ H1 _ I1 q1) fun vk s3 ⟨y,H3,I3,rk,a,xs,ex,ey,hx,q⟩=>?_;subst ex ey
 cases r1
 obtain⟨tk,rfl⟩:=(show ∃t,vk=Value.int (-1) t from rk)
 have I4:Inv X pins σ H3 { s3 with heap:=s3.heap.push { cls:=.type "slice",data:=.fields #[.none,.none,.int (-1) tk] } }:=I3.kept (t':=s3.toks) fun b ob q=>Heap.get?_push_of_some _ q;obtain⟨its,r,ht,hz⟩:=I4.list hx;show wpAny (model X.prog X.w) X.A (subscriptTail e (.Slice none none (some st) p2) (.ref a) (.ref s3.heap.objs.size)) (EP X pins σ Q) X.xe { s3 with heap:=s3.heap.push { cls:=.type "slice",data:=.fields #[.none,.none,.int (-1) tk] } };refine tail_any (ops:=[.ref a,.ref s3.heap.objs.size]) ht.isList.typeIs slot_list_getitem.lookup ?_ (by with_unfolding_all rfl);refine wpAny_getItem_list_slice ht.isList (Heap.IsSliceOf.new ..) .none .none (.int (-1) tk) (by decide) ?_ (by rw[size_toArray,<- r.length];exact hz);rw[W.krv_pick];refine⟨.ref _,_,I4.laid (t':=s3.toks) (o:=.lst xs.reverse) (fun b ob q=>Heap.get?_push_of_some _ q) (Nat.le_refl _) ?_,rfl,q _ (I4.hok.fresh (Nat.le_refl _))⟩;exact⟨by rw[length_reverse];exact hz,_,0,r.reverse,Heap.get?_push_size _ rfl⟩
end
structure aY (K:Frag) (x qual:Str) (st:Stmt) (dV:Value) (f:Addr) (fd:FuncData):Prop where
 ex:∃(oc:Value) (od:Option Addr) (kV doc pm:Value) (an:Option Addr) (cdv ct:Value) (osl:Array (Option Value)),
  fd=W.fnOf x qual (eX st) (dR st) (aH st) dV kV doc pm an cdv ct/\K.lookup f=some ⟨oc,od,.func fd,osl⟩/\W.codeIn K cdv qual=true
 kp:W.keepIn K (.ref f)=true
section
variable {P:Program} {w:World} {K:Frag} {mg:Str->Option Value} {base:Heap} {CX:CXT}
theorem aY.okX {st:Stmt}(F:aY K x qual st dV f fd)(S:aQ N ps (aH st))(len:∀vs H Q E,sp vs H Q E->vs.length=ps.length)(hbody:∀(cdv:Value) (A:Around) (outer:List Env) (s:Shared) (H:Hp) (vs:List V) (Q:VK) (E:XK),gM k (A.deeper (envOfC qual (aH st) s.heap.objs.size f cdv))->sp vs H Q E->
   ∃t,PSs (wY CX P w K mg base N qual (aH st) f cdv A outer s H E) (dR st) t/\t { nx:=fun _ H'=>Q .non H',rt:=Q } (start N vs) H):aK P w K mg base CX (k+1) f fd ps sp:=by
 obtain⟨oc,od,kV,doc,pm,an,cdv,ct,osl,rfl,lk,hcd⟩:=F.ex;exact qe8 lk hcd S len fun A outer s H vs Q E hr hsp=>hbody cdv A outer s H vs Q E hr hsp
theorem aY.ok {st:Stmt}(F:aY K x qual st dV f fd)(S:aQ N ps (aH st))(len:∀vs H Q E,sp vs H Q E->vs.length=ps.length)(hbody:∀(cdv:Value) (A:Around) (outer:List Env) (s:Shared) (H:Hp) (vs:List V) (Q:VK) (E:XK),gM k (A.deeper (envOfC qual (aH st) s.heap.objs.size f cdv))->sp vs H Q E->
   ∃t,PSs (wY CX P w K mg base N qual (aH st) f cdv A outer s H E).nox (dR st) t/\t { nx:=fun _ H'=>Q .non H',rt:=Q } (start N vs) H):aK P w K mg base CX (k+1) f fd ps sp:=
 F.okX S len fun cdv A outer s H vs Q E hr hsp=>by
  obtain⟨t,h,q⟩:=hbody cdv A outer s H vs Q E hr hsp;exact⟨t,h.nox,q⟩
theorem aY.ok9 {st:Stmt}(F:aY K x qual st dV f fd)(S:aQ N ps (aH st))(hbody:∀(cdv:Value) (A:Around) (outer:List Env) (s:Shared) (H:Hp) (vs:List V) (Q:VK) (E:XK),gM k (A.deeper (envOfC qual (aH st) s.heap.objs.size f cdv))->sp vs H Q E->
   ∃t,PSs (wY CX P w K mg base N qual (aH st) f cdv A outer s H E).nox (dR st) t/\t { nx:=fun _ H'=>Q .non H',rt:=Q } (start N vs) H)(len:∀vs H Q E,sp vs H Q E->vs.length=ps.length:=by intro _ _ _ _ h;repeat (first | (obtain⟨rfl,_⟩:=h;rfl) | obtain⟨_,h⟩:=h)):aK P w K mg base CX (k+1) f fd ps sp:=F.ok S len hbody
theorem aY.binds {st:Stmt}(F:aY K x qual st dV f fd)(h:∀(kV doc pm:Value) (an:Option Addr) (cdv ct:Value) (us:List Value),us.length=ps.length->bindArgs (W.fnOf x qual (eX st) (dR st) (aH st) dV kV doc pm an cdv ct) ⟨us,[]⟩=pure (ps.zip us)):aM K fd ps []:=by
 obtain⟨oc,od,kV,doc,pm,an,cdv,ct,osl,rfl,lk,hcd⟩:=F.ex;exact .all (h kV doc pm an cdv ct)
theorem tW {st:Stmt}{kV doc pm cdv ct:Value}(l:K.lookup f=some ⟨oc,od,.func (W.fnOf x qual (eX st) (dR st) (aH st) dV kV doc pm an cdv ct),osl⟩)(c:W.codeIn K cdv qual=true)(k:kI9 K f):aY K x qual st dV f (W.fnOf x qual (eX st) (dR st) (aH st) dV kV doc pm an cdv ct):=⟨⟨oc,od,kV,doc,pm,an,cdv,ct,osl,rfl,l,c⟩,k⟩
end
abbrev fT (p:Q2):HO:=.tup [.int p.1,.int p.2]
def Fq (K:Frag)(H:Hp)(a:Addr)(p:Q2):Prop:=SqT K H a [.int p.1,.int p.2]
theorem aW.seqT {K:Frag}(e:aW H H')(h:SqT K H a xs):SqT K H' a xs:=by
 rcases h with (h | ⟨o,h⟩) | h
 ·exact .inl (.inl (e _ _ h))
 ·exact .inl (.inr ⟨o,e _ _ h⟩)
 ·exact .inr h
theorem aG (h:H p=none)(o:HO):aW H (upd H p o):=fun b u q=>by rw[aL (aX q h)];exact q
theorem aW.fq {K:Frag}(e:aW H H')(h:Fq K H a p):Fq K H' a p:=e.seqT h
theorem Fq.of {K:Frag}(h:H a=some (fT p)):Fq K H a p:=SqT.of h
theorem fU {K:Frag}(hv:σ[i]?=some (some (.ref a)))(h:Fq K H a p)(q:Q (.int p.1) H):tOp (Uc K) (Tu i) (tC (.int 0)) σ H Q:=
 ⟨_,hv,a,_,_,_,rfl,rfl,h,rfl,q⟩
theorem cW {K:Frag}(hv:σ[i]?=some (some (.ref a)))(h:Fq K H a p)(q:Q (.int p.2) H):tOp (Uc K) (Tu i) (tC (.int 1)) σ H Q:=
 ⟨_,hv,a,_,_,_,rfl,rfl,h,rfl,q⟩
theorem cQ (h1:Mq.B n i)(h2:Mq.B m j)(h3:n<=1048576)(h4:m<=1048576)(q:Q (.int (i*j)) H):rI Uh (fun i j=>.int (i*j)) (.int i) (.int j) H Q:=
 ⟨_,_,rfl,rfl,⟨n,m,h1,h2,h3,h4⟩,q⟩
theorem hV (h1:j≠0)(h2:Mq.B n j)(h3:n<=9000)(q:Q (.int (i.fdiv j)) H):rI Im (fun i j=>.int (i.fdiv j)) (.int i) (.int j) H Q:=
 ⟨_,_,rfl,rfl,⟨h1,n,h2,h3⟩,q⟩
structure Bl (mg:Str->Option Value):Prop where
 isi:mg "isinstance"=none
 int:mg "int"=none
 bool:mg "bool"=none
 abs:mg "abs"=none
def jI (t:Value):Prop:=t=.type "bool"\/t=.type "str"\/t=.type "NoneType"\/t=.type "tuple"\/t=.type "list"
def pZ (K:Frag):Sp:=fun vs H Q _=>∃x,vs=[x]/\((∃i,x=.int i/\Q (.bl true) H)\/(∃t,kQ K H x t/\jI t/\Q (.bl false) H))
def Gk:Sp:=fun vs H Q _=>∃a b:Int,vs=[.int a,.int b]/\Q (.int (gc a b)) H
def tI (H:Hp)(Q:VK)(p:Q2):Prop:=∀a H',aW H H'->H' a=some (fT p)->Q (.ref a) H'
def oP:Sp:=fun vs H Q _=>∃(t b:Int) (n:Nat),vs=[.int t,.int b]/\b≠0/\Mq.B n b/\n<=9000/\tI H Q (red t b)
def lH (K:Frag)(f:Q2->Q2->Q2):Sp:=fun vs H Q _=>∃(a b:Addr) (p q:Q2) (n m:Nat),vs=[.ref a,.ref b]/\Fq K H a p/\Fq K H b q/\1<=p.2/\1<=q.2/\Bd n p/\Bd m q/\n+m+1<=9000/\tI H Q (f p q)
inductive Fqs (K:Frag) (H:Hp):List V->List Q2->Prop where
 |nil:Fqs K H [] []
 |cons {a:Addr} {p:Q2} {xs:List V} {ps:List Q2} (h:Fq K H a p) (q:Fqs K H xs ps):Fqs K H (.ref a :: xs) (p :: ps)
theorem Fqs.same {K:Frag}(e:aW H H'):∀{xs:List V} {ps:List Q2},Fqs K H xs ps->Fqs K H' xs ps
 |_,_,.nil=>.nil
 |_,_,.cons h q=>.cons (e.fq h) (Fqs.same e q)
theorem Fqs.length {K:Frag}:∀{xs:List V} {ps:List Q2},Fqs K H xs ps->xs.length=ps.length
 |_,_,.nil=>rfl
 |_,_,.cons _ q=>by simp[Fqs.length q]
theorem Fqs.get {K:Frag}:∀{xs:List V} {ps:List Q2} {i:Nat} {x:V},Fqs K H xs ps->xs[i]?=some x->∃a p,x=.ref a/\ps[i]?=some p/\Fq K H a p
 |_,_,_,_,.nil,h=>by simp at h
 |_,_,0,_,.cons h _,e=>by simp at e;exact⟨_,_,e.symm,rfl,h⟩
 |_,_,i+1,_,.cons _ q,e=>by simpa using Fqs.get q (by simpa using e)
theorem Fqs.app {K:Frag}:∀{xs ys:List V} {ps qs:List Q2},Fqs K H xs ps->Fqs K H ys qs->Fqs K H (xs++ys) (ps++qs)
 |_,_,_,_,.nil,r=>r
 |_,_,_,_,.cons h q,r=>.cons h (Fqs.app q r)
theorem Fq.upd {K:Frag}(h:Fq K H a p)(hl:H l=some (.lst xs)):Fq K (L2.upd H l o) a p:=by
 rcases h with (h | ⟨u,h⟩) | h
 ·exact .inl (.inl (by rw[aL (gL h hl (fun z=>by cases z))];exact h))
 ·exact .inl (.inr ⟨u,by rw[aL (gL h hl (fun z=>by cases z))];exact h⟩)
 ·exact .inr h
theorem Fqs.upd {K:Frag}(hl:H l=some (.lst ys)):∀{xs:List V} {ps:List Q2},Fqs K H xs ps->Fqs K (L2.upd H l o) xs ps
 |_,_,.nil=>.nil
 |_,_,.cons h q=>.cons (h.upd hl) (Fqs.upd hl q)
theorem aW.change (s:aW H H')(h:H l=none):aW H (L2.upd H' l o):=fun b u q=>by
 rw[aL (aX q h)];exact s b u q
def qd (p:Q2):PyData:=.tuple [.int p.1,.int p.2]
theorem Fq.dat {K:Frag}(h:Fq K H a p):oX K H (.ref a) (qd p):=.tup h (.cons (.int _) (.cons (.int _) .nil))
theorem Fqs.dat {K:Frag}:∀{xs:List V} {ps:List Q2},Fqs K H xs ps->pG K H xs (ps.map qd)
 |_,_,.nil=>.nil
 |_,_,.cons h q=>.cons h.dat (Fqs.dat q)
theorem Bi (p:Q2):(qd p).canLay0=true:=rfl
theorem tN:∀ps:List Q2,PyData.canLayAll0 (ps.map qd)=true
 | []=>rfl
 |p :: r=>by
  show ((qd p).canLay0 && PyData.canLayAll0 (r.map qd))=true;rw[Bi,tN r];rfl
theorem vW (p:Q2):(qd p).depth<=1:=by simp[qd,PyData.depth,PyData.depthAll]
theorem yA:∀ps:List Q2,PyData.depthAll (ps.map qd)<=1
 | []=>by simp[PyData.depthAll]
 |p :: r=>by
  have a:=vW p;have b:=yA r;simp only[map_cons,PyData.depthAll];lia
theorem Gy (ps:List Q2):(PyData.list (ps.map qd)).depth<=2:=by
 have:=yA ps;simp only[PyData.depth];lia
theorem qb6 (p q:Q2):PyData.eqv (qd p) (qd q)=decide (p=q):=by
 unfold qd;simp only[PyData.eqv,PyData.eqvAll]
 by_cases h:p=q
 ·subst h;simp
 ·rw[decide_eq_false h]
  by_cases h1:p.1=q.1
  ·have h2:p.2≠q.2:=fun z=>h (Prod.ext h1 z);simp[h2]
  ·simp[h1]
theorem qc7 {K:Frag}(h1:Fq K H a p)(h2:Fq K H b q)(z:Q (.bl (if neg then !decide (p=q) else decide (p=q))) H):xH K neg (.ref a) (.ref b) H Q:=by
 refine⟨_,_,h1.dat,h2.dat,Bi p,Bi q,?_,?_⟩
 ·have:=vW p;lia
 ·rw[qb6];exact z
theorem Yi {K:Frag}(h1:SqL K H a xs)(h2:SqL K H b ys)(f1:Fqs K H xs ps)(f2:Fqs K H ys ps)(z:Q (.bl (!neg)) H):xH K neg (.ref a) (.ref b) H Q:=by
 refine⟨_,_,.lst h1 f1.dat,.lst h2 f2.dat,?_,?_,?_,?_⟩
 ·exact tN ps
 ·exact tN ps
 ·have:=Gy ps;lia
 ·have e:PyData.eqv (.list (ps.map qd)) (.list (ps.map qd))=true:=PySem.SeqAt.eqv_refl _ (tN ps);rw[e]
  cases neg<;>exact z
abbrev Jp (nl:Nat)(fr:List Nat)(g:TG)(tt:TT)(te:TE)(σ:St)(D:Addr)(Pv:Nat->List V->Hp->Prop)(i:Nat)(ys:List V)(x:V)(H:Hp):Prop:=
 g x (σC nl fr σ) H fun σ2 H4=>σ2.length=(σC nl fr σ).length/\(∀(i:Nat) v,(σC nl fr σ)[i]?=some (some v)->σ2[i]?=some (some v))/\
  tt σ2 H4 fun b H5=>if b=true then te σ2 H5 fun y H6=>H6 D=some (.lst ys)/\ys.length < sizeLine/\Pv (i+1) (ys++[y]) (upd H6 D (.lst (ys++[y]))) else Pv (i+1) ys H5
section
variable {nl:Nat} {fr:List Nat} {g:TG} {tt:TT} {te:TE} {σ:St} {D:Addr} {H1:Hp} {Q:VK}
theorem iH {lo:Int}(Pv:Nat->List V->Hp->Prop)(h0:Pv 0 [] (upd H1 D (.lst [])))(hl:∀i ys H,Pv i ys H->H D=some (.lst ys))(hs:∀i ys H,i < n->Pv i ys H->∀(C:Nat->List V->Hp->Prop),(∀ys H,Pv (i+1) ys H->C (i+1) ys H)->Jp nl fr g tt te σ D C i ys (.int (lo+i)) H)(hd:∀ys H,Pv n ys H->Q (.ref D) H):
  Dn (Itr lo n) nl fr g tt te σ D H1 Q:=by
 refine⟨fun i m ys H=>m=n - i/\i<=n/\Pv i ys H,⟨n,by simp,Nat.zero_le _,h0⟩,?_⟩;rintro i m ys H ⟨rfl,hi,p⟩;refine⟨hl i ys H p,?_⟩
 by_cases hlt:i < n
 ·refine .inr ⟨hlt,fun x H' y=>?_⟩;obtain⟨e,y⟩:=y;subst e y;exact hs i ys _ hlt p (fun j zs Hz=>∃m',m' < n - i/\m'=n - j/\j<=n/\Pv j zs Hz) fun zs Hz z=>⟨n - (i+1),by lia,rfl,hlt,z⟩
 ·have e:i=n:=by lia
  subst e;exact .inl ⟨Nat.le_refl _,hd ys H p⟩
theorem fC {K:Frag}(Pv:Nat->List V->Hp->Prop)(h0:Pv 0 [] (upd H1 D (.lst [])))(hl:∀i ys H,Pv i ys H->H D=some (.lst ys))(hx:∀i ys H,i<=xs.length->Pv i ys H->SqL K H a xs)(hs:∀i ys x H,xs[i]?=some x->Pv i ys H->∀(C:Nat->List V->Hp->Prop),(∀ys H,Pv (i+1) ys H->C (i+1) ys H)->Jp nl fr g tt te σ D C i ys x H)(hd:∀ys H,Pv xs.length ys H->Q (.ref D) H):
  Dn (Itl K a) nl fr g tt te σ D H1 Q:=by
 refine⟨fun i m ys H=>m=xs.length - i/\i<=xs.length/\Pv i ys H,⟨xs.length,by simp,Nat.zero_le _,h0⟩,?_⟩;rintro i m ys H ⟨rfl,hi,p⟩;refine⟨hl i ys H p,?_⟩;have q:=hx i ys H hi p
 by_cases hlt:i < xs.length
 ·refine .inr ⟨⟨xs,xs[i],q,by simp[hlt]⟩,fun x H' y=>?_⟩;obtain⟨e,y⟩:=y;subst e;exact hs i ys x _ (y xs q) p (fun j zs Hz=>∃m',m' < xs.length - i/\m'=xs.length - j/\j<=xs.length/\Pv j zs Hz) fun zs Hz z=>⟨xs.length - (i+1),by lia,rfl,hlt,z⟩
 ·have e:i=xs.length:=by lia
  subst e;exact .inl ⟨⟨xs,q,Nat.le_refl _⟩,hd ys H p⟩
end
theorem dS:((σC 1 fr σ).set 0 (some x)).length=(σC 1 fr σ).length/\∀(i:Nat) v,(σC 1 fr σ)[i]?=some (some v)->((σC 1 fr σ).set 0 (some x))[i]?=some (some v):=by
 refine⟨by simp,fun i v h=>?_⟩
 match i with
 |0=>unfold σC at h;simp at h
 |k+1=>rw[getElem?_set_ne (by lia)];exact h
theorem dU {names:List (Str × NameKind)}{cl:List (Str × Addr)}(h:names.all (fun y=>!(y.2 == .cell || y.2 == .free) || (cl.lookup y.1).isSome)=true)(x:Str)(hx:names.lookup x=some .cell\/names.lookup x=some .free):∃c,cl.lookup x=some c:=by
 have key:∀k,(k=NameKind.cell\/k=NameKind.free)->names.lookup x=some k->∃c,cl.lookup x=some c:=fun k hk e=>by
  have m:=all_eq_true.mp h _ (PySem.mem_of_lookup e);have:(k == NameKind.cell || k == NameKind.free)=true:=by rcases hk with rfl | rfl<;>rfl
  simp only[this,Bool.not_true,Bool.false_or] at m;exact Option.isSome_iff_exists.mp m
 rcases hx with e | e
 ·exact key _ (.inl rfl) e
 ·exact key _ (.inr rfl) e
section
variable {X:Cx} {pins:List (Addr × Obj)} {σ:St} {H:Hp} {s:Shared} {h':Heap}
theorem Inv.turnedL {fp:List Addr}(I:Inv X pins σ H s)(k:∀b o,b∉fp->s.heap.get? b=some o->h'.get? b=some o)(hf:∀b∈fp,oB X pins H b):Inv X pins σ H { s with heap:=h',toks:=t' }:=by
 have nit:∀b u,H b=some u->b∉fp:=fun b u e z=>by rw[(hf b z).1] at e;cases e
 have nL:X.env.locals∉fp:=fun z=>(hf _ z).2.1 rfl;refine I.step (g':=s.gens) (d':=s.drawn) (ch:=fp) (fun b hb=>?_) (fun b o _ _ hc e _=>k b o hc e) (fun b o _ _ hc e _=>⟨o.slots,k b o hc e⟩) (fun _ _ _ _ n=>n)
  (fun b o hc e=>⟨o,k b o hc e⟩) (fun _ _ e=>e) (fun _ _ _ e=>e) (fun b ps e=>⟨#[],by rw[e];simp⟩) (fun m hm=>?_) (fun b u e=>?_) I.bare
 ·obtain⟨f0,f1,f2,f3,f4,f5⟩:=hf b hb;exact⟨f3,f1,f4,f5⟩
 ·obtain⟨o,es,ep,ho,r⟩:=hm;exact⟨o,es,ep,k _ o nL ho,r⟩
 ·refine(I.hok b u e).stay (fun c v hc q=>k c v ?_ q) (fun _ q=>q) fun _ _ q=>q;rcases hc with z | z
  ·rw[z];exact nit b u e
  ·exact nit c _ z
end
def Itz (K : Frag)(a b : Addr) : It :=
  ⟨fun i H => ∃ xs ys x y, SqL K H a xs /\ SqL K H b ys /\ xs[i]? = some x /\ ys[i]? = some y,
   fun i H v H' => ∃ T x y, v = .ref T /\ H T = none /\ H' = upd H T (.tup [x, y]) /\ ∀ xs ys, SqL K H a xs -> SqL K H b ys -> xs[i]? = some x /\ ys[i]? = some y,
   fun i H => ∃ xs ys, SqL K H a xs /\ SqL K H b ys /\ (xs.length <= i \/ ys.length <= i)⟩
def qi5 (z TI TO i1 i2 l1 l2:Addr)(i:Nat)(h:Heap):Prop:=
 ZipApart z TI TO i1 i2 l1 l2/\IsZip h z TI TO .none/\IsPair h TI (.ref i1) (.ref i2)/\(∃a b,IsPair h TO a b)/\h.IsListIter i1 l1 i/\h.IsListIter i2 l2 i
theorem Sg {P:Program}{w:World}{K:Frag}{elts:List Expr}{kk:Nat}{tpos:Pos}(z TI TO i1 i2 l1 l2:Addr) :
  Li P w K (.Tuple elts kk tpos) (Itz K l1 l2) [z,TI,TO,i1,i2] z (qi5 z TI TO i1 i2 l1 l2) where
 mem:=by simp
 obj:=fun i h st b hb=>by
  obtain⟨ap,hz,hi,⟨a,c,ho⟩,⟨o1,e1,c1,d1⟩,⟨o2,e2,c2,d2⟩⟩:=st;simp only[mem_cons,not_mem_nil,or_false] at hb;rcases hb with rfl | rfl | rfl | rfl | rfl
  ·exact⟨_,hz,fun v q=>by cases q⟩
  ·exact⟨_,hi,fun v q=>by cases q⟩
  ·exact⟨_,ho,fun v q=>by cases q⟩
  ·exact⟨o1,e1,fun v q=>by rw[d1] at q;cases q⟩
  ·exact⟨o2,e2,fun v q=>by rw[d2] at q;cases q⟩
 keep:=fun i h h' st k=>by
  obtain⟨ap,hz,hi,⟨a,c,ho⟩,⟨o1,e1,c1,d1⟩,⟨o2,e2,c2,d2⟩⟩:=st;exact⟨ap,k _ (by simp) _ hz,k _ (by simp) _ hi,⟨a,c,k _ (by simp) _ ho⟩,⟨o1,k _ (by simp) _ e1,c1,d1⟩,⟨o2,k _ (by simp) _ e2,c2,d2⟩⟩
 item:=by
  intro X hP hw hK hc i pins s σ H E I hf st hg;subst hP hw hK;obtain⟨ap,hz,hi,⟨a,c,ho⟩,t1,t2⟩:=st;obtain⟨xs,ys,x,y,hx,hy,ex,ey⟩:=hg;obtain⟨its1,rv1,p1,z1⟩:=I.list hx;obtain⟨its2,rv2,p2,z2⟩:=I.list hy;obtain⟨u1,hu1,ru1⟩:=rv1.get ex;obtain⟨u2,hu2,ru2⟩:=rv2.get ey;refine wpAny_pyNext_zip_item ap hz hi ho t1 t2 p1.isList p2.isList (x:=u1) (y:=u2) (by simpa using hu1) (by simpa using hu2) fun h' g1 g2 g3 g4 g5 g6 kk'=>?_;have hn:H s.heap.objs.size=none:=I.hok.fresh (Nat.le_refl _);have lt:∀b∈[z,TI,TO,i1,i2],b < s.heap.objs.size:=fun b hb=>by
   simp only[mem_cons,not_mem_nil,or_false] at hb;obtain⟨o1,e1,_⟩:=t1;obtain⟨o2,e2,_⟩:=t2;rcases hb with rfl | rfl | rfl | rfl | rfl
   ·exact Heap.lt_size hz
   ·exact Heap.lt_size hi
   ·exact Heap.lt_size ho
   ·exact Heap.lt_size e1
   ·exact Heap.lt_size e2
  have I1:Inv X pins σ (upd H s.heap.objs.size (.tup [x,y])) { s with heap:=s.heap.push { cls:=.type "tuple",data:=.seq #[u1,u2] } }:=
   I.laid (t':=s.toks) (fun b o e=>Heap.get?_push_of_some _ e) (Nat.le_refl _) (show cK X.prog X.w _ _ _ (.tup [x,y]) from ⟨zl9 2,[u1,u2],.cons ru1 (.cons ru2 .nil),IsTup.new _ _⟩)
  have hf1:∀b∈[z,TI,TO,i1,i2],oB X pins (upd H s.heap.objs.size (.tup [x,y])) b:=fun b hb=>⟨by rw[aL (Nat.ne_of_lt (lt b hb))];exact(hf b hb).1,(hf b hb).2⟩
  have k1:∀b o,b∉[z,TI,TO,i1,i2]->(s.heap.push { cls:=.type "tuple",data:=.seq #[u1,u2] }).get? b=some o->h'.get? b=some o:=fun b o nb e=>by
   simp only[mem_cons,not_mem_nil,or_false,not_or] at nb
   by_cases hb:b=s.heap.objs.size
   ·subst hb;rw[Heap.get?_push_size _ rfl] at e
    cases e
    exact g5
   ·have e0:s.heap.get? b=some o:=by rw[Heap.get?_push_ne _ _ _ hb] at e;exact e
    exact kk' b o nb.1 nb.2.2.1 nb.2.2.2.1 nb.2.2.2.2 e0
  have I2:Inv X pins σ (upd H s.heap.objs.size (.tup [x,y])) { s with heap:=h',toks:=s.toks }:=I1.turnedL (t':=s.toks) k1 hf1;refine⟨_,rfl,wpAny_letOwnedTupleGo_zip (s:={ s with heap:=h' }) g1 fun h2 q1 q2=>?_⟩;have kz:∀b o,b≠z->h'.get? b=some o->h2.get? b=some o:=fun b o nb e=>(q2.2 b nb).trans e;have I3:Inv X pins σ (upd H s.heap.objs.size (.tup [x,y])) { s with heap:=h2,toks:=s.toks }:=Inv.turnedL (s:={ s with heap:=h',toks:=s.toks }) (t':=s.toks) (fp:=[z]) I2 (fun b o nb e=>kz b o (by simpa using nb) e) fun b hb=>hf1 b (by simp at hb;simp[hb]);have hTI:h'.get? TI=some { cls:=.type "tuple",data:=.seq #[.ref i1,.ref i2] }:=kk' TI _ ap.TIz ap.TITO ap.TIi1 ap.TIi2 hi;obtain⟨o3,e3,c3,d3⟩:=g3;obtain⟨o4,e4,c4,d4⟩:=g4;refine⟨.ref s.heap.objs.size,_,I3,rfl,⟨_,x,y,rfl,hn,rfl,fun xs' ys' h1 h2=>?_⟩,⟨ap,q1,kz _ _ ap.TIz hTI,⟨_,_,kz _ _ ap.TOz g2⟩,⟨o3,kz _ _ ap.i1z e3,c3,d3⟩,⟨o4,kz _ _ ap.i2z e4,c4,d4⟩⟩,fun b hb=>(hf1 b hb).1⟩;rw[I.list_inj h1 hx,I.list_inj h2 hy];exact⟨ex,ey⟩
 done:=by
  intro X hP hw hK hc i pins s σ H E I hf st hg;subst hP hw hK;obtain⟨ap,hz,hi,⟨a,c,ho⟩,t1,t2⟩:=st;obtain⟨xs,ys,hx,hy,hor⟩:=hg;obtain⟨its1,rv1,p1,z1⟩:=I.list hx;obtain⟨its2,rv2,p2,z2⟩:=I.list hy;have l1':=rv1.length;have l2':=rv2.length;refine wpAny_pyNext_zip_end (I.ok.hd hc) ap hz hi ho t1 t2 p1.isList p2.isList (by rcases hor with h | h;left;simp;lia;right;simp;lia) fun h' kk'=>⟨rfl,?_⟩
  refine I.turnedL (t':=s.toks) (fun b o nb e=>?_) hf;simp only[mem_cons,not_mem_nil,or_false,not_or] at nb;exact kk' b o nb.1 nb.2.2.1 nb.2.2.2.1 nb.2.2.2.2 e
 self:=fun A i s Q E st h=>by
  obtain⟨ap,hz,hi,⟨a,c,ho⟩,t1,t2⟩:=st;exact wpAny_pyIter_zip hz h
section
variable {X:Cx}
def qo4 (K:Frag)(ta:TA):TI:=fun σ H R=>ta σ H fun vs H1=>∃a b,vs=[.ref a,.ref b]/\(∃xs,SqL K H1 a xs)/\(∃ys,SqL K H1 b ys)/\R (Itz K a b) H1
theorem Gp (hg:Gl X "zip")(hm:X.mg "zip"=none)(hv:bootBuiltins "zip"=some (.type "zip"))(ha:PA X [e1,e2] ta)(hs:starEach [e1,e2] X.env=(false,eval e1 X.env) :: starEach [e2] X.env:=by rfl)(hpl:(backTo pos (starEach [e2] X.env)).any (·.1)=false:=by rfl):PI X (.Tuple elts kk tpos) (.Call (.Name "zip" p) [e1,e2] [] pos) (qo4 X.K ta):=by
 intro pins s σ H R I h;refine Call_ (kC I hg hm hv (PyProof.Rows.callWith_type1 (thn (ha pos pins s σ H _ I h) fun us s1 ⟨vs,H1,I1,r1,q1⟩=>?_) hs hpl));obtain⟨a,b,rfl,⟨xs,hx⟩,⟨ys,hy⟩,q⟩:=q1;obtain⟨u,w',rfl,ra,rb⟩:=yT r1
 cases (show u=Value.ref a from ra)
 cases (show w'=Value.ref b from rb)
 obtain⟨its1,rv1,p1,z1⟩:=I1.list hx;obtain⟨its2,rv2,p2,z2⟩:=I1.list hy;have la:a < s1.heap.objs.size:=by obtain⟨o,e,_⟩:=p1.isList;exact Heap.lt_size e
 have lb:b < s1.heap.objs.size:=by obtain⟨o,e,_⟩:=p2.isList;exact Heap.lt_size e
 refine call_zip_2 p1.isList p2.isList fun h' g1 g2 g3 g4 g5 g6 kk'=>?_;refine wpAny_pyIter_zip g1 ?_;have ne:∀i j:Nat,i≠j->s1.heap.objs.size+i≠s1.heap.objs.size+j:=fun i j n e=>n (Nat.add_left_cancel e);have nl:∀(c:Addr) (i:Nat),c < s1.heap.objs.size->c≠s1.heap.objs.size+i:=fun c i l e=>absurd (Nat.lt_of_lt_of_le l (Nat.le_add_right _ i)) (by rw[<- e];exact Nat.lt_irrefl _);have n0:∀j:Nat,j≠0->s1.heap.objs.size+j≠s1.heap.objs.size:=fun j n e=>n (Nat.add_left_cancel (e.trans (Nat.add_zero _).symm));refine⟨s1.heap.objs.size+4,[s1.heap.objs.size+4,s1.heap.objs.size+2,s1.heap.objs.size+3,s1.heap.objs.size,s1.heap.objs.size+1],_,Itz X.K a b,H1,rfl,I1.kept (t':=s1.toks) kk',Sg _ _ _ _ _ a b,⟨?_,g1,g2,⟨_,_,g3⟩,g4,g5⟩,fun c hc=>?_,q⟩
 ·exact⟨ne 2 4 (by decide),ne 3 4 (by decide),(n0 4 (by decide)).symm,ne 1 4 (by decide),ne 2 3 (by decide),n0 2 (by decide),ne 2 1 (by decide),n0 3 (by decide),ne 3 1 (by decide),(n0 1 (by decide)).symm,
   nl a 4 la,nl a 3 la,Nat.ne_of_lt la,nl a 1 la,nl b 4 lb,nl b 3 lb,Nat.ne_of_lt lb,nl b 1 lb⟩
 ·have hle:s1.heap.objs.size<=c:=by
   simp only[mem_cons,not_mem_nil,or_false] at hc;rcases hc with rfl | rfl | rfl | rfl | rfl<;>first | exact Nat.le_add_right _ _ | exact Nat.le_refl _
  exact I1.fpOk hle (I1.hok.fresh hle)
theorem vZ {K:Frag}(Pv:Nat->List V->Hp->Prop)(h0:Pv 0 [] (upd H1 D (.lst [])))(hl:∀i zs H,Pv i zs H->H D=some (.lst zs))(hx:∀i zs H,i<=min xs.length ys.length->Pv i zs H->SqL K H a xs/\SqL K H b ys)(hs:∀i zs x y H T,xs[i]?=some x->ys[i]?=some y->Pv i zs H->H T=none->∀(C:Nat->List V->Hp->Prop),(∀zs H,Pv (i+1) zs H->C (i+1) zs H)->Jp nl fr g tt te σ D C i zs (.ref T) (upd H T (.tup [x,y])))(hd:∀zs H,Pv (min xs.length ys.length) zs H->Q (.ref D) H):
  Dn (Itz K a b) nl fr g tt te σ D H1 Q:=by
 refine⟨fun i m zs H=>m=min xs.length ys.length - i/\i<=min xs.length ys.length/\Pv i zs H,⟨_,rfl,Nat.zero_le _,h0⟩,?_⟩;rintro i m zs H ⟨rfl,hi,p⟩;refine⟨hl i zs H p,?_⟩;obtain⟨qx,qy⟩:=hx i zs H hi p
 by_cases hlt:i < min xs.length ys.length
 ·have hx':i < xs.length:=by lia
  have hy':i < ys.length:=by lia
  refine .inr ⟨⟨xs,ys,xs[i],ys[i],qx,qy,by simp[hx'],by simp[hy']⟩,fun v H' z=>?_⟩;obtain⟨T,x,y,rfl,hT,rfl,hh⟩:=z;obtain⟨ex,ey⟩:=hh xs ys qx qy;exact hs i zs x y H T ex ey p hT (fun j zs Hz=>∃m',m' < min xs.length ys.length - i/\m'=min xs.length ys.length - j/\j<=min xs.length ys.length/\Pv j zs Hz) fun zs Hz z=>⟨min xs.length ys.length - (i+1),by lia,rfl,hlt,z⟩
 ·have e:i=min xs.length ys.length:=by lia
  subst e;exact .inl ⟨⟨xs,ys,qx,qy,by lia⟩,hd zs H p⟩
def Uo:V->List V->Hp->VK->Prop:=fun x vs H Q=>∃(l:Addr) (xs:List V) (k:Nat) (i:Int) (y:V),x=.ref l/\vs=[.int i,y]/\i=(k:Int)/\k<=xs.length/\H l=some (.lst xs)/\xs.length < sizeLine/\Q .non (upd H l (.lst (xs.take k++y :: xs.drop k)))
theorem Lb:MtM X "list.insert" Uo:=by
 intro pins s σ H x vs v us Q I rx rv h;obtain⟨l,xs,k,i,y,rfl,rfl,hik,hk,hH,hz,q⟩:=h
 cases rx
 obtain⟨u1,u2,rfl,⟨t,rfl⟩,ru⟩:=yT rv;obtain⟨z,its,n,r,hl,e⟩:=I.lstM hH;have hs:sizeLine=16777216:=sizeLine_eq;have hfit:¬(!Builtin.List.listFitsIndex i)=true:=by
  rw[fitsIndex_both (by lia) (by lia)];exact Bool.false_ne_true
 have hM:=AutoSeq1.list_insert_list_int_val_1 l its.toArray n i t u2 hfit (by rw[size_toArray];lia);refine call_meets F.slot_list_insert ⟨_,e,rfl⟩ F.entry_list_insert (F.args_list_insert_3 (Value.ref l) (Value.int i t) u2) hM ⟨e,?_⟩;refine⟨.non,_,I.lset (its':=its.take k++u2 :: its.drop k) hH e ?_ ((r.take k).append (.cons ru (r.drop k))) ?_,rfl,q⟩
 ·have ek:(if i < 0 then (i+(its.toArray.size:Int)).toNat else min i.toNat its.toArray.size)=k:=by
   rw[if_neg (by lia),size_toArray];lia
  show (its.toArray.extract 0 (if i < 0 then (i+(its.toArray.size:Int)).toNat else min i.toNat its.toArray.size)).push u2++its.toArray.extract (if i < 0 then (i+(its.toArray.size:Int)).toNat else min i.toNat its.toArray.size)=_;rw[ek];apply Array.ext';simp[take_of_length_le]
 ·rw[List.length_append,length_cons,length_take,length_drop];lia
end
def Tb (h0:Heap)(H:Hp)(h:Heap)(a:Addr)(v:Value):Prop:=
 v=.none\/∃T oT ts,v=.ref T/\T≠a/\h0.get? T=none/\H T=none/\h.get? T=some oT/\oT.data=.fields ts/\ts[3]?=some .none
structure Fl (h0:Heap) (H:Hp) (h:Heap) (a:Addr) (C:Value) (d:Option Addr):Prop where
 new:h0.get? a=none
 free:H a=none
 at_:∃oe vs v,h.get? a=some oe/\oe.cls=C/\oe.dict=d/\oe.data=.fields vs/\vs[1]?=some v/\Tb h0 H h a v
theorem Fl.older (F:Fl h0 H h a C d)(k:∀b,h0.get? b=none->h1.get? b=none):Fl h1 H h a C d:=by
 obtain⟨n,f,oe,vs,v,e1,e2,e3,e4,e5,t⟩:=F;refine⟨k _ n,f,oe,vs,v,e1,e2,e3,e4,e5,?_⟩;rcases t with t | ⟨T,oT,ts,t1,t2,t3,t4⟩
 ·exact .inl t
 ·exact .inr ⟨T,oT,ts,t1,t2,k _ t3,t4⟩
theorem wT (f:Array Value->Array Value)(o:Obj):(o.mapFields f).dict=o.dict:=by
 obtain⟨c,d,dt,sl⟩:=o
 cases dt<;>rfl
section
variable {M:Model} {A:Around} {E:Value->Shared->Prop} {s:Shared}
theorem yK {head:Value}(hfr:A.frames=some (env :: outer))(hl:s.heap.FunFrames base (env :: outer))(hf:env.frame=some L)(he:s.heap.get? e=some oe)(hd:oe.data=.fields vs)(hsz:1 < vs.size)(h:∀h' T oT ts,s.heap.objs.size<=T->(∀b o,b∉frs (env :: outer)->b≠e->s.heap.get? b=some o->h'.get? b=some o)->(∀b o,b∈frs (env :: outer)->s.heap.get? b=some o->∃sl,h'.get? b=some { o with slots:=sl })->
   h'.get? e=some (oe.mapFields (·.setIfInBounds 1 (.ref T)))->h'.get? T=some oT->oT.data=.fields ts->ts[3]?=some .none->T≠e->Q () { s with heap:=h' }):
  wpAny M A (do let a <- frameOf env;let pl <- entryPlaceOf L hadNext;let b <- EntryCells.newEntry head a .none (rawInt L) .none pl;setField (.ref e) 1 b) (fun _ s'=>wpAny M A (setFlight (.ref e) none) Q E s') E s:=by
 have hene:e∉frs (env :: outer):=fun hm=>by
  obtain⟨_,o,ho,hnf⟩:=hl.mem hm;rw[he] at ho;injection ho with ho;subst ho;exact hnf vs hd
 refine wpAny_bind (wpAny_frameOf_fun hfr hl hf fun h₁ hs₁=>?_);refine wpAny_bind (wpAny_entryPlaceOf fun pl hpl=>?_);unfold EntryCells.newEntry newFields;refine wpAny_bind (wpAny_newObj_type ?_ (hpl.sizeOk5 _ _ _ _ _));have he₁:h₁.get? e=some oe:=(hs₁.2.1 e hene).trans he;have he₂:=Heap.get?_push_of_some (h:=h₁) { cls:=.type "traceback",dict:=none,data:=.fields ([head,.ref L,.none,rawInt L,.none]++(if pl.isEmpty then replicate 6 Value.none else pl)).toArray } he₁;refine wpAny_setField he₂ hd hsz ?_;have hTe:h₁.objs.size≠e:=Nat.ne_of_gt (Heap.lt_size he₁);have hd₃:=Obj.data_mapFields hd (·.setIfInBounds 1 (Value.ref h₁.objs.size));have he₃:=Heap.get?_update_self (Obj.mapFields (·.setIfInBounds 1 (Value.ref h₁.objs.size))) he₂ (Obj.isFreed_of_fields hd₃);have hT₃:=(Heap.get?_update_other (h₁.push { cls:=.type "traceback",dict:=none,data:=.fields ([head,.ref L,.none,rawInt L,.none]++(if pl.isEmpty then replicate 6 Value.none else pl)).toArray })
  (Obj.mapFields (·.setIfInBounds 1 (Value.ref h₁.objs.size))) (Ne.symm hTe)).trans (Heap.get?_push_size h₁ rfl)
 unfold setFlight;refine wpAny_bind (wpAny_field he₃ hd₃ (x:=.ref h₁.objs.size) (by simp[hsz]) ?_);rw[if_pos (show (Value.ref h₁.objs.size != Value.none)=true from by simp)];have keep:∀b o,b≠e->h₁.get? b=some o->
   (((h₁.push { cls:=.type "traceback",dict:=none,data:=.fields ([head,.ref L,.none,rawInt L,.none]++(if pl.isEmpty then replicate 6 Value.none else pl)).toArray }).update e (Obj.mapFields (·.setIfInBounds 1 (Value.ref h₁.objs.size)))).update h₁.objs.size
    (Obj.mapFields (·.setIfInBounds 3 ((none:Option Addr).elim Value.none fun f=>rawInt f)))).get? b=some o:=fun b o hbe hb=>by
  have hbT:h₁.objs.size≠b:=Nat.ne_of_gt (Heap.lt_size hb);rw[Heap.get?_update_other _ _ hbT,Heap.get?_update_other _ _ (Ne.symm hbe)];exact Heap.get?_push_of_some _ hb
 refine wpAny_setField hT₃ rfl (by simp only[size_toArray,List.length_append,length_cons,length_nil]<;>lia) (h _ h₁.objs.size _ _ (Nat.le_of_eq hs₁.1.symm) ?_ ?_ ?_
  (Heap.get?_update_self _ hT₃ (Obj.isFreed_of_fields (Obj.data_mapFields rfl _))) (Obj.data_mapFields rfl _) ?_ hTe)
 ·exact fun b o hb hbe q=>keep b o hbe ((hs₁.2.1 b hb).trans q)
 ·intro b o hb q;obtain⟨sl,e1⟩:=hs₁.2.2 b o q;exact⟨sl,keep b _ (fun z=>hene (z ▸ hb)) e1⟩
 ·rw[Heap.get?_update_other _ _ hTe];exact he₃
 ·first | (simp;done) | (rcases hpl with rfl | ⟨_,_,_,_,_,_,_,rfl⟩<;>simp)
theorem Rj (hfr:A.frames=some (env :: outer))(hl:s.heap.FunFrames base (env :: outer))(hf:env.frame=some L)(F:Fl h0 H s.heap e C d)(hnew:∀b,s.heap.objs.size<=b->h0.get? b=none/\H b=none)(h:∀(h':Heap) (ch:List Addr),(∀b∈ch,h0.get? b=none/\H b=none/\∃o vs,s.heap.get? b=some o/\o.data=.fields vs)->(∀b o,b∉frs (env :: outer)->b∉ch->s.heap.get? b=some o->h'.get? b=some o)->
   (∀b o,b∈frs (env :: outer)->s.heap.get? b=some o->∃sl,h'.get? b=some { o with slots:=sl })->Fl h0 H h' e C d->Q () { s with heap:=h' }):
  wpAny M A (noteFrame (.ref e) env) (fun _ s'=>wpAny M A (setFlight (.ref e) none) Q E s') E s:=by
 obtain⟨n,f,oe,vs,v,e1,e2,e3,e4,e5,t⟩:=F;have hsz:1 < vs.size:=(Array.getElem?_eq_some_iff.mp e5).1;have fin:∀{h':Heap} {T:Addr} {oT:Obj} {ts:Array Value},s.heap.objs.size<=T->h'.get? e=some (oe.mapFields (·.setIfInBounds 1 (.ref T)))->h'.get? T=some oT->oT.data=.fields ts->ts[3]?=some .none->T≠e->Fl h0 H h' e C d:=by
  intro h' T oT ts z he hT hd h3 hTe;refine⟨n,f,_,_,.ref T,he,?_,?_,Obj.data_mapFields e4 _,by simp[hsz],.inr ⟨T,oT,ts,rfl,hTe,(hnew T z).1,(hnew T z).2,hT,hd,h3⟩⟩
  ·rw[Obj.cls_mapFields];exact e2
  ·rw[wT];exact e3
 rcases t with rfl | ⟨T,oT,ts,rfl,t2,t3,t4,t5,t6,t7⟩
 ·unfold noteFrame;simp only[hf];refine wpAny_bind (wpAny_field e1 e4 e5 ?_);rw[if_neg (by decide)];refine yK hfr hl hf e1 e4 hsz fun h' T oT ts z k1 k2 he hT hd h3 hTe=>?_;refine h h' [e] (fun b hb=>?_) (fun b o h1 h2 q=>k1 b o h1 (fun w=>h2 (by simp[w])) q) k2 (fin z he hT hd h3 hTe);have hb:b=e:=by simpa using hb
  subst hb;exact⟨n,f,_,_,e1,e4⟩
 ·unfold noteFrame;simp only[hf];refine wpAny_bind (wpAny_field e1 e4 e5 ?_);rw[if_pos (show (Value.ref T != Value.none)=true from by simp)];refine wpAny_bind (wpAny_field t5 t6 t7 ?_);rw[if_neg (show ¬((Value.none == rawInt L)=true) from by simp[rawInt])];refine wpAny_bind (wpAny_setField t5 t6 (Array.getElem?_eq_some_iff.mp t7).1 ?_);have other:∀b,b≠T->(s.heap.update T (Obj.mapFields (·.setIfInBounds 3 Value.none))).get? b=s.heap.get? b:=fun b hb=>Heap.get?_update_other _ _ (Ne.symm hb);have noRecord:∀b o,s.heap.get? b=some o->(∀vs,o.data≠.fields vs)->b≠T:=fun b o hb hnf q=>by
   rw[q,t5] at hb;injection hb with hb;subst hb;exact hnf ts t6
  have nofr:∀b,b∈frs (env :: outer)->b≠T:=fun b hb=>by
   obtain⟨_,o,ho,hnf⟩:=hl.mem hb;exact noRecord b o ho hnf
  refine yK (s:={ s with heap:=s.heap.update T (Obj.mapFields (·.setIfInBounds 3 Value.none)) }) (base:=base) hfr (hl.of_keeps fun b o hb hnf=>⟨o,(other b (noRecord b o hb hnf)).trans hb,rfl⟩) hf ((other e (Ne.symm t2)).trans e1) e4 hsz
   fun h' T' oT' ts' z k1 k2 he hT hd h3 hTe=>?_
  have z':s.heap.objs.size<=T':=by
   have:=Heap.size_after_update s.heap T (Obj.mapFields (·.setIfInBounds 3 Value.none));exact Nat.le_trans (Nat.le_of_eq this.symm) z
  refine h h' [e,T] (fun b hb=>?_) (fun b o h1 h2 q=>?_) (fun b o hb q=>?_) (fin z' he hT hd h3 hTe)
  ·rcases mem_cons.mp hb with hb | hb
   ·subst hb;exact⟨n,f,_,_,e1,e4⟩
   ·have hb:b=T:=by simpa using hb
    subst hb;exact⟨t3,t4,_,_,t5,t6⟩
  ·exact k1 b o h1 (fun w=>h2 (by simp[w])) ((other b fun w=>h2 (by simp[w])).trans q)
  ·exact k2 b o hb ((other b (nofr b hb)).trans q)
end
section
variable {X:Cx} {pins:List (Addr × Obj)} {σ:List (Option V)} {H H':Hp} {s:Shared} {h':Heap}
theorem cK.ex (x:cK P w H h a o):∃u,h.get? a=some u:=by
 cases o with
 |lst xs=>obtain⟨_,_,_,_,e⟩:=x;exact⟨_,e⟩
 |tup xs=>obtain⟨_,_,_,o,e,_⟩:=x;exact⟨_,e⟩
 |dK kvs=>obtain⟨_,_,_,_,o,_,_,e,_⟩:=x;exact⟨_,e⟩
 |dT kvs=>obtain⟨_,_,_,_,o,_,_,e,_⟩:=x;exact⟨_,e⟩
 |set S n=>obtain⟨o,_,_,_,e,_⟩:=x;exact⟨_,e⟩
 |ins C dx fs=>obtain⟨_,_,_,e,_⟩:=x;exact⟨_,e⟩
 |own y=>obtain⟨_,e⟩:=x;exact⟨_,e⟩
 |xd fs=>obtain⟨_,⟨_,_,_,e,_⟩,_⟩:=x;exact⟨_,e⟩
 |rng lo hi=>obtain⟨_,_,_,e⟩:=x;exact⟨_,e⟩
 |frz ob u=>obtain⟨e,_⟩:=x;exact⟨_,e⟩
 |tbl ps=>exact⟨_,(show h.get? a=some _ from x)⟩
 |met f y=>exact⟨_,(show h.get? a=some _ from x)⟩
 |ext φ=>obtain⟨_,⟨_,e⟩,_⟩:=x;exact⟨_,e⟩
theorem HOk.none_of (x:HOk P w H h)(e:h.get? a=none):H a=none:=by
 cases q:H a with
 |none=>rfl
 |some o=>
  obtain⟨u,hu⟩:=(x a o q).ex;rw[e] at hu;cases hu
theorem Inv.stepN {ch:List Addr}(I:Inv X pins σ H s)(hch:∀b∈ch,X.s₀.heap.get? b=none/\b≠X.env.locals/\(∀x c,X.env.cells.lookup x=some c->c≠b)/\∀p∈X.pn++pins,p.1≠b)(keep:∀b o,b≠X.env.locals->b∉X.fs->b∉ch->s.heap.get? b=some o->H b=none->h'.get? b=some o)(slot:∀b o,b≠X.env.locals->b∈X.fs->b∉ch->s.heap.get? b=some o->H b=none->∃sl,h'.get? b=some { o with slots:=sl })(there:∀b o,b∉ch->s.heap.get? b=some o->∃o',h'.get? b=some o')(ns:∀m,s.heap.Ns X.env.locals m->h'.Ns X.env.locals m)(hok:HOk X.prog X.w H h')(hg:AllBare g'):
  Inv X pins σ H { s with heap:=h',gens:=g',drawn:=d',toks:=t' }:=by
 have neL:∀b o,X.s₀.heap.get? b=some o->b≠X.env.locals:=fun b o e=>Nat.ne_of_lt (Nat.lt_of_lt_of_le (Heap.lt_size e) I.ok.above);have neC:∀b o,X.s₀.heap.get? b=some o->b∉ch:=fun b o e hb=>by rw[(hch b hb).1] at e;cases e
 have cellK:∀x c,X.env.cells.lookup x=some c->∀v,s.heap.IsCell c v->h'.IsCell c v:=fun x c e v ⟨o,ho,hd⟩=>by
  have nch:c∉ch:=fun z=>(hch c z).2.2.1 x c e rfl
  by_cases hc:c∈X.fs
  ·obtain⟨sl,q⟩:=slot c o (I.cne x c e) hc nch ho (I.freeC x c e);exact⟨_,q,hd⟩
  ·exact⟨o,keep c o (I.cne x c e) hc nch ho (I.freeC x c e),hd⟩
 refine⟨I.ok,I.os,hg,⟨fun b o e n hb hx=>?_,fun b o e n hb hx=>?_,fun b o e n hx=>?_,fun b o e hx=>?_,fun b xs e=>I.base.tups b xs e,fun b o xs e=>I.base.frzs b o xs e,fun b ps e=>I.base.tbls b ps e⟩,?_,fun x c e=>?_,I.free,I.freeC,fun p hp=>?_,hok,I.len⟩
 ·exact keep b o (neL b o e) hb (neC b o e) (I.base.keep b o e n hb hx) (I.base.free b o e n hx)
 ·obtain⟨sl,e1⟩:=I.base.slot b o e n hb hx;obtain⟨sl',e2⟩:=slot b _ (neL b o e) hb (neC b o e) e1 (I.base.free b o e n hx);exact⟨sl',e2⟩
 ·exact I.base.free b o e n hx
 ·obtain⟨o',e1⟩:=I.base.there b o e hx;exact there b o' (neC b o e) e1
 ·obtain⟨m,hn,hl⟩:=I.loc;refine⟨m,ns m hn,fun i x v e1 e2 e3=>?_⟩;obtain⟨u,r,l⟩:=hl i x v e1 e2 e3;refine⟨u,r,?_⟩;rcases l with l | ⟨k,c,e,z⟩
  ·exact .inl l
  ·exact .inr ⟨k,c,e,cellK x c e _ z⟩
 ·obtain⟨v,z⟩:=I.cell x c e;exact⟨v,cellK x c e v z⟩
 ·obtain⟨e,n,ne,nf,d⟩:=I.pin p hp;have nch:p.1∉ch:=fun z=>(hch p.1 z).2.2.2 p hp rfl;exact⟨keep p.1 p.2 ne nf nch e n,n,ne,nf,d⟩
structure Frm (X:Cx):Prop where
 ex:X.ex=[]
 st:X.stack=X.env :: X.outer
 fr:X.env.frame=some X.env.locals
def tK (X:Cx)(pins:List (Addr × Obj))(σ:List (Option V))(H:Hp)(s:Shared)(a:Addr)(C:Value)(d:Option Addr):Prop:=
 Inv X pins σ H s/\∃h0:Heap,(∀p∈X.pn++pins,h0.get? p.1≠none)/\(∀b o,X.s₀.heap.get? b=some o->∃o',h0.get? b=some o')/\(∀b o,h0.get? b=some o->∃o',s.heap.get? b=some o')/\Fl h0 H s.heap a C d
theorem qZ {h1 h2:Heap}(k:∀b o,h1.get? b=some o->∃o',h2.get? b=some o')(b:Addr)(e:h2.get? b=none):h1.get? b=none:=by
 cases q:h1.get? b with
 |none=>rfl
 |some o=>obtain⟨o',z⟩:=k b o q;rw[e] at z;cases z
theorem Iu {h:Heap}(e:h.objs.size<=b):h.get? b=none:=Heap.get?_none_of_le e
theorem rB {h:Heap}(e:h.get? b=some o)(hd:o.data=.fields vs)(e':h.get? c=some o')(hd':∀vs,o'.data≠.fields vs):b≠c:=by
 intro z;subst z;rw[e] at e';cases e';exact hd' vs hd
theorem Aa {a:Addr}{C:Value}{d:Option Addr}{h0:Heap}(I:Inv X pins σ H s)(hp:∀p∈X.pn++pins,h0.get? p.1≠none)(hs:∀b o,X.s₀.heap.get? b=some o->∃o',h0.get? b=some o'){b:Addr}(hb:h0.get? b=none/\H b=none/\∃o vs,s.heap.get? b=some o/\o.data=.fields vs) :
  X.s₀.heap.get? b=none/\b≠X.env.locals/\(∀x c,X.env.cells.lookup x=some c->c≠b)/\∀p∈X.pn++pins,p.1≠b:=by
 obtain⟨h1,h2,o,vs,h3,h4⟩:=hb;refine⟨qZ hs b h1,?_,fun x c e=>?_,fun p hq z=>hp p hq (by rw[z];exact h1)⟩
 ·obtain⟨m,⟨o',es,ep,ho',hd',_⟩,_⟩:=I.loc;exact rB h3 h4 ho' fun vs z=>by rw[hd'] at z;cases z
 ·obtain⟨v,o',ho',hd'⟩:=I.cell x c e;exact Ne.symm (rB h3 h4 ho' fun vs z=>by rw[hd'] at z;cases z)
theorem Jx (hA:A'.frames=some X.stack)(fm:Frm X)(L:tK X pins σ H s a C d)(h:∀s',tK X pins σ H s' a C d->Q () s'):
  wpAny (model X.prog X.w) A' (noteFrame (.ref a) X.env) (fun _ s2=>wpAny (model X.prog X.w) A' (setFlight (.ref a) none) Q E s2) E s:=by
 obtain⟨I,h0,hp,hs,ht,F⟩:=L;have hstk:=I.stack;have hfree:=I.stkFree;rw[fm.st] at hA hstk hfree;have hfrs:frs (X.env :: X.outer)=X.env.locals :: X.fs:=by unfold frs;rw[filterMap_cons,fm.fr];rfl
 refine Rj (base:=X.base) hA hstk fm.fr F (fun b hb=>⟨qZ ht b (Iu hb),I.hok.fresh hb⟩) fun h' ch c1 c2 c3 F'=>?_;have tr:∀c u,H c=some u->∀v,s.heap.get? c=some v->h'.get? c=some v:=fun c u e v q=>
  c2 c v (fun z=>by rw[hfree c z] at e;cases e) (fun z=>by rw[(c1 c z).2.1] at e;cases e) q
 have th:∀b o,b∉ch->s.heap.get? b=some o->∃o',h'.get? b=some o':=fun b o hb q=>by
  by_cases hf:b∈frs (X.env :: X.outer)
  ·obtain⟨sl,e⟩:=c3 b o hf q;exact⟨_,e⟩
  ·exact⟨o,c2 b o hf hb q⟩
 have J:Inv X pins σ H { s with heap:=h',gens:=s.gens,drawn:=s.drawn,toks:=s.toks }:=by
  refine I.stepN (ch:=ch) (fun b hb=>Aa (a:=a) (C:=C) (d:=d) I hp hs (c1 b hb)) (fun b o h1 h2 h3 e _=>c2 b o (by rw[hfrs];intro z;rcases mem_cons.mp z with z | z;exact h1 z;exact h2 z) h3 e)
   (fun b o _ h2 _ e _=>c3 b o (by rw[hfrs];exact mem_cons_of_mem _ h2) e) th (fun m hm=>?_) (fun b u e=>?_) I.bare
  ·obtain⟨o,es,ep,ho,r⟩:=hm;obtain⟨sl,e⟩:=c3 _ o (by rw[hfrs];exact mem_cons_self) ho;exact⟨_,es,ep,e,r⟩
  ·refine(I.hok b u e).stay (fun c v hc q=>?_) (fun _ q=>q) fun _ _ q=>q;rcases hc with rfl | hc
   ·exact tr c u e v q
   ·exact tr c _ hc v q
 refine h _ ⟨J,h0,hp,hs,fun b o e=>?_,F'⟩;obtain⟨o',e'⟩:=ht b o e;exact th b o' (fun z=>by rw[(c1 b z).1] at e;cases e) e'
theorem Hy (L:tK X pins σ H s a C d)(h:∀s',tK X pins σ H s' a C d->Q () s'):wpAny (model X.prog X.w) A' (setFlight (.ref a) none) Q E s:=by
 have L':=L;obtain⟨I,h0,hp,hs,ht,F⟩:=L';obtain⟨n,f,oe,vs,v,e1,e2,e3,e4,e5,t⟩:=F;unfold setFlight;refine wpAny_bind (wpAny_field e1 e4 e5 ?_);rcases t with rfl | ⟨T,oT,ts,rfl,t2,t3,t4,t5,t6,t7⟩
 ·rw[if_neg (by decide)];exact wpAny_pure (h s L)
 ·rw[if_pos (show (Value.ref T != Value.none)=true from by simp)];have hsz3:3 < ts.size:=(Array.getElem?_eq_some_iff.mp t7).1;have other:∀b,b≠T->(s.heap.update T (Obj.mapFields (·.setIfInBounds 3 ((none:Option Addr).elim Value.none fun f=>rawInt f)))).get? b=s.heap.get? b:=fun b hb=>Heap.get?_update_other _ _ (Ne.symm hb);have hT':=Heap.get?_update_self (Obj.mapFields (·.setIfInBounds 3 ((none:Option Addr).elim Value.none fun f=>rawInt f))) t5 (Obj.isFreed_of_fields (Obj.data_mapFields t6 _));refine wpAny_setField t5 t6 hsz3 ?_;have c1:∀b∈[T],h0.get? b=none/\H b=none/\∃o vs,s.heap.get? b=some o/\o.data=.fields vs:=fun b hb=>by
   have hb:b=T:=by simpa using hb
   subst hb;exact⟨t3,t4,_,_,t5,t6⟩
  have nT:∀b,b∉[T]->b≠T:=fun b hb z=>hb (by simp[z]);have J:Inv X pins σ H { s with heap:=(s.heap.update T (Obj.mapFields (·.setIfInBounds 3 ((none:Option Addr).elim Value.none fun f=>rawInt f)))),gens:=s.gens,drawn:=s.drawn,toks:=s.toks }:=by
   refine I.stepN (ch:=[T]) (fun b hb=>Aa (a:=a) (C:=C) (d:=d) I hp hs (c1 b hb)) (fun b o _ _ h3 e _=>(other b (nT b h3)).trans e) (fun b o _ _ h3 e _=>⟨o.slots,(other b (nT b h3)).trans e⟩)
    (fun b o h3 e=>⟨o,(other b (nT b h3)).trans e⟩) (fun m hm=>?_) (fun b u e=>?_) I.bare
   ·obtain⟨o,es,ep,ho,hd,r⟩:=hm;exact⟨o,es,ep,(other _ (Ne.symm (rB t5 t6 ho fun vs z=>by rw[hd] at z;cases z))).trans ho,hd,r⟩
   ·refine(I.hok b u e).stay (fun c v hc q=>(other c ?_).trans q) (fun _ q=>q) fun _ _ q=>q;rintro rfl;rcases hc with rfl | hc
    ·rw[t4] at e;cases e
    ·rw[t4] at hc;cases hc
  refine h _ ⟨J,h0,hp,hs,fun b o e=>?_,⟨n,f,oe,vs,.ref T,(other a (Ne.symm t2)).trans e1,e2,e3,e4,e5,.inr ⟨T,_,_,rfl,t2,t3,t4,hT',Obj.data_mapFields t6 _,by simp[hsz3]⟩⟩⟩;obtain⟨o',e'⟩:=ht b o e;exact⟨o',(other b (fun z=>by rw[z,t3] at e;cases e)).trans e'⟩
end
def CX1 (P:Program)(w:World):CXT:=fun outer H s E e s'=>∃a C d H',e=.ref a/\s'.os=s.os/\AllBare s'.gens/\Un (frs outer) [] H H' s.heap s'.heap/\HOk P w H' s'.heap/\Fl s.heap H' s'.heap a C d/\E C d H'
def Wk (X:Cx)(E:XK):Prop:=∀(pins:List (Addr × Obj)) (σ:St) (H:Hp) (s:Shared) (a:Addr) (C:Value) (d:Option Addr),tK X pins σ H s a C d->E C d H->X.xe (.ref a) s
section
variable {X:Cx} {pins:List (Addr × Obj)} {σ:List (Option V)} {H:Hp} {s s':Shared} {E:XK} {e:Value}
theorem lD (fm:Frm X)(I:Inv X pins σ H s)(hcx:CX1 X.prog X.w X.stack H s E e s'):∃a C d H',e=.ref a/\tK X pins σ H' s' a C d/\E C d H':=by
 obtain⟨a,C,d,H',rfl,os,bare,un,hok,F,q⟩:=hcx;refine⟨a,C,d,H',rfl,⟨I.call' (ch:=[]) os un hok bare (fun b z=>absurd z (by simp)),s.heap,fun p hp z=>?_,fun b o e=>I.base.there b o e (by rw[fm.ex];simp),fun b o e=>un.there b o e (by simp),F⟩,q⟩;rw[(I.pin p hp).1] at z;cases z
theorem yP (fm:Frm X)(xo:Wk X E):jZ (CX1 X.prog X.w) X E:=fun pins σ H s e s' I hcx=>by
 obtain⟨a,C,d,H',rfl,L,q⟩:=lD fm I hcx;exact xo pins σ H' s' a C d L q
end
theorem kN {K:Frag}:
  Frm (wY CX P w K mg base N qual scope f cd A outer s H E):=⟨rfl,rfl,rfl⟩
theorem qD {K:Frag}:
  Wk (wY (CX1 P w) P w K mg base N qual scope f cd A outer s H E) E:=by
 intro pins σ H' s' a C d L q;show wpAny (model P w) (A.deeper (envOfC qual scope s.heap.objs.size f cd)) (leaving (envOfC qual scope s.heap.objs.size f cd) (.ref a)) (fun _ s''=>CX1 P w outer H s E (.ref a) s'') (fun e' s''=>CX1 P w outer H s E e' s'') s';unfold leaving;refine wpAny_bind (Jx (X:=wY (CX1 P w) P w K mg base N qual scope f cd A outer s H E) L.1.ok.frames kN L fun s'' L''=>?_);obtain⟨J,h0,hp,hs0,hth,F⟩:=L'';exact⟨a,C,d,H',rfl,J.os,J.bare,J.base,J.hok,F.older fun b z=>qZ hs0 b z,q⟩
abbrev tG:List Value:=[.type "ValueError",.type "Exception",.type "BaseException",.type "object"]
def Wo (K:Frag)(C:Addr):Prop:=W.excIn K C tG "ValueError.__new__"=true
theorem Zp {K:Frag}(X:K.In h)(q:W.excIn K C bmB newId=true):
  ∃bm N nm qn bs hdct sn sub ab col dd k0 k1 k2 k3 k5 mN,h.get? C=some (excClassObj nm qn C N bs bm hdct sn sub ab col dd k0 k1 k2 k3 k5 newId)/\h.Ns N mN/\mN "__init__"=none/\OwnTail h bmB bm:=by
 unfold W.excIn at q;split at q
 ·rename_i dd cd sl ho
  split at q
  ·rename_i C' bm k0 k1 k2 k3 n k5 hm hs
   simp only[Bool.and_eq_true,beq_iff_eq,Bool.not_eq_true'] at q;obtain⟨⟨⟨⟨⟨rfl,rfl⟩,hdel⟩,ht⟩,hok⟩,hni⟩:=q;obtain⟨nm,bs,mro,ns,qn,hd,sn,sub,ab,col,del⟩:=cd;dsimp only at hm hdel hok hni;subst hm hdel;have hsl:sl=#[k0,k1,k2,k3,some (.builtin n),k5]:=by
    obtain⟨l⟩:=sl;simp only at hs;rw[hs]
   subst hsl;exact⟨bm,ns,nm,qn,bs,hd,sn,sub,ab,col,dd,k0,k1,k2,k3,k5,_,X _ _ ho,.of_isNs (W.isNs_of_in X hok),W.nsMap_none_of_in X hok hni,W.tail_of_in X ht⟩
  ·cases q
 ·cases q
section
variable {X:Cx} {pins:List (Addr × Obj)} {σ:List (Option V)} {H:Hp} {s:Shared}
def qd0 (C:Addr)(E:XK)(ta:TA):TS:=fun _ σ H=>ta σ H fun vs H1=>vs.length<=sizeLine/\E (.ref C) none H1
theorem Pa (fm:Frm X)(xo:Wk X E)(hc:X.calm=true)(hg:Gl X x)(hm:X.mg x=some (.ref C))(q:Wo X.K C)(ha:PA X (e₀ :: es) ta)(hdb:(x == ("__debug__":Str))=false:=by decide)(he:starEach (e₀ :: es) X.env=(false,eval e₀ X.env) :: starEach es X.env:=by rfl)(hpl:(backTo cpos (starEach es X.env)).any (·.1)=false:=by rfl):
  PS X (.Raise (some (.Call (.Name x np) (e₀ :: es) [] cpos)) none pos) (qd0 C E ta):=by
 intro pins s σ H D I h;obtain⟨tl,N,nm,qn,bs,hdct,sn,sub,ab,col,dd,k0,k1,k2,k3,k5,mN,hC,hN,hni,T⟩:=Zp I.mod.kin q;have FB:=PySem.F.excBase_ValueError;refine wpAny_Raise_call_subU (C:=C) (nm:=nm) (q:=qn) (N:=N) (bs:=bs) (bm:=tl) (hdct:=hdct) (sn:=sn) (sub:=sub) (ab:=ab) (col:=col) (dd:=dd) (k0:=k0) (k1:=k1) (k2:=k2) (k3:=k3) (k5:=k5)
  FB (by decide) FB (mN:=mN) (T.hasType FB.hasBase) (I.ok.hd hc) (by rw[he];show (false || (backTo cpos (starEach es X.env)).any (·.1))=false;rw[hpl];rfl) hni (jA I hg hm ⟨rfl,?_⟩ hdb)
 have ha':=ha cpos pins s σ H _ I h;rw[he] at ha' ⊢;refine Calls.evalArgs_plain (wpAny_mono ha' (fun vs s2 h2=>?_) fun _ _ y=>y);obtain⟨xs,H1,I1,r,hz,q1⟩:=h2;refine⟨rfl,by rw[<- r.length];exact hz,I1.bk _ _ hC,hN.keeps I1.bk,T.keeps I1.bk,fun h' e hx=>?_⟩;obtain⟨t,he1,htn,ht⟩:=hx.there;refine xo pins σ H1 _ e (.ref C) none ⟨I1.kept (t':=s2.toks) hx.keeps,s2.heap,fun p hp z=>?_,fun b o e=>I1.base.there b o e (by rw[fm.ex];simp),fun b o z=>⟨o,hx.keeps b o z⟩,⟨hx.new,I1.hok.none_of hx.new,_,_,.none,he1,rfl,rfl,rfl,rfl,.inl rfl⟩⟩ q1;rw[(I1.pin p hp).1] at z;cases z
end
abbrev TEX:=St->Hp->VK->XK->Prop
abbrev TSX:=gO->(St->XK)->St->Hp->Prop
def XP (X:Cx)(pins:List (Addr × Obj))(E:St->XK)(e:Value)(s':Shared):Prop:=∃a C d σ' H',e=.ref a/\tK X pins σ' H' s' a C d/\E σ' C d H'
def PX (X:Cx)(e:Expr)(t:TEX):Prop:=
 ∀(pins:List (Addr × Obj)) (s:Shared) (σ:St) (H:Hp) (Q:VK) (E:XK),Inv X pins σ H s->t σ H Q E->wpAny (model X.prog X.w) X.A (eval e X.env) (EP X pins σ Q) (XP X pins fun σ' C d H'=>σ'=σ/\E C d H') s
def PSX (X:Cx)(st:Stmt)(t:TSX):Prop:=
 ∀(pins:List (Addr × Obj)) (s:Shared) (σ:St) (H:Hp) (D:gO) (E:St->XK),Inv X pins σ H s->t D E σ H->wpAny (model X.prog X.w) X.A (exec st X.env) (SP X pins D) (XP X pins E) s
def qf6 (X:Cx)(st:List Stmt)(t:TSX):Prop:=
 ∀(pins:List (Addr × Obj)) (s:Shared) (σ:St) (H:Hp) (D:gO) (E:St->XK),Inv X pins σ H s->t D E σ H->wpAny (model X.prog X.w) X.A (execs st X.env) (SP X pins D) (XP X pins E) s
theorem XP.at (h:XP X pins (fun σ' C d H'=>σ'=σ/\E σ C d H') e s'):XP X pins E e s':=by
 obtain⟨a,C,d,σ',H',rfl,L,rfl,q⟩:=h;exact⟨a,C,d,σ',H',rfl,L,q⟩
section
variable {X:Cx} {k:Nat} {f C:Addr} {fd:FuncData} {ps:List Str} {sp:Sp} {dvs:List V} {ds:List Value} {x m:Str} {p pos apos:Pos} {e o:Expr} {es:List Expr} {ta:TE} {t:TA}
theorem qh4 (F:aK X.prog X.w X.K X.mg X.base (CX1 X.prog X.w) k f fd ps sp)(fm:Frm X)(hr:gM k X.A)(hb:aM X.K fd ps ds)(hd:bQ dvs ds)(I:Inv X pins σ H s)(r:bQ vs us)(h:sp (vs++dvs) H Q E):wpAny (model X.prog X.w) X.A (call (.ref f) us) (EP X pins σ Q) (XP X pins fun σ' C d H'=>σ'=σ/\E C d H') s:=by
 have r2:bQ (vs++dvs) (us++ds):=r.append hd;have hl:(us++ds).length=ps.length:=by rw[<- r2.length];exact F.len _ _ _ _ h
 refine wpAny_call (codeAny_mono (F.run X.A X.stack s H ⟨us,[]⟩ (us++ds) (vs++dvs) Q E hr I.env0 (hb s us I.kIn hl) r2 h) fun r s' hq=>?_)
 cases r with
 |error e=>
  obtain⟨a,C,d,H',rfl,L,q⟩:=lD fm I hq;exact⟨a,C,d,σ,H',rfl,L,rfl,q⟩
 |ok fl=>
  cases fl with
  |ret u=>exact I.after hq
  |next=>exact False.elim hq
  |brk=>exact False.elim hq
  |cont=>exact False.elim hq
def qj5 (C:Addr)(m:Str)(sp:Sp)(dvs:List V)(ta:TE)(t:TA):TEX:=fun σ H Q E=>ta σ H fun x H1=>∃a dx fs,x=.ref a/\H1 a=some (.ins C dx fs)/\fs.lookup m=none/\t σ H1 fun vs H2=>sp (x :: (vs++dvs)) H2 Q E
theorem Ib (he:PE X.nox o ta)(c:Cls X.K C)(hm:gQ X.K C m f)(F:aK X.prog X.w X.K X.mg X.base (CX1 X.prog X.w) k f fd ps sp)(fm:Frm X)(hr:gM k X.A)(hb:aM X.K fd ps ds)(hd:bQ dvs ds)(ha:PA X.nox (e :: es) t)(hst:starEach (e :: es) X.env=(false,eval e X.env) :: starEach es X.env:=by rfl)(hpl:(backTo pos (starEach es X.env)).any (·.1)=false:=by rfl)(ht:eval (.Call (.Attribute o m apos) (e :: es) [] pos) X.env=(do
   let ov <- eval o X.env
   standAt apos.atName
   let (f,first) <- holding [ov] (getMethod ov m pl)
   callWith pos f first (backTo pos (starEach (e :: es) X.env)) (backToKw pos (keywordEach [] X.env))):=by rfl):
  PX X (.Call (.Attribute o m apos) (e :: es) [] pos) (qj5 C m sp dvs ta t):=by
 intro pins s σ H Q E I h;refine W.methodCall_KW (pl:=pl) (wpAny_mono (he pins s σ H _ (I.wish _) h) (fun u s1 h1=>?_) fun _ _ z=>False.elim z) ht;obtain⟨x,H1,I1,rx,a,dx,fs,ex,ea,l,q⟩:=h1;subst ex;obtain rfl:u=Value.ref a:=rx;refine jQ (X:=X.nox) I1 ea c hm l ?_;refine W.callWith_K (first:=[.ref a]) (h₀:=X.base) I.ok.mod.kin hm.kp (wpAny_mono (ha pos pins s1 σ H1 _ I1 q) (fun us s2 h2=>?_) fun _ _ z=>False.elim z) hst hpl;obtain⟨vs,H2,I2,r,q2⟩:=h2;exact⟨I2.kIn,qh4 (us:=.ref a :: us) (vs:=.ref a :: vs) F fm hr hb hd I2.unwish (.cons rfl r) q2⟩
def qi7 (te:TEX):TSX:=fun D E σ H=>te σ H (fun _ H1=>D.nx σ H1) (E σ)
theorem pV (he:PX X e te)(hs:swapsWith e none pos.line X.env=pure false:=by rfl):PSX X (.Expr e pos) (qi7 te):=by
 intro pins s σ H D E I h;exact wpAny_Expr_any (wpAny_mono (he pins s σ H _ _ I h) (fun v s1 ⟨x,H1,I1,r1,q1⟩=>⟨σ,H1,I1,q1⟩) fun _ _ z=>XP.at z) I.quiet hs
theorem pJ {st:Stmt}{t:TSX}(h1:PSX X st t):qf6 X [st] t:=by
 intro pins s σ H D E I h;refine wpAny_execs_cons (wpAny_mono (h1 pins s σ H D E I h) (fun f s1 q=>?_) fun _ _ z=>z)
 cases f with
 |next=>exact wpAny_execs_nil q
 |ret v=>exact q
 |brk=>exact q
 |cont=>exact q
end
abbrev Cx.sup (X:Cx)(a:Addr):Cx:={ X with A:=X.A.mark (some (.ref a)),calm:=false,xe:=fun _ _=>False }
section
variable {X:Cx} {pins:List (Addr × Obj)} {σ:List (Option V)} {H:Hp} {s:Shared} {a:Addr}
theorem Cx.Ok.sup (ok:X.Ok)(a:Addr):(X.sup a).Ok:=
 ⟨ok.mod,ok.kind,ok.glob,ok.blt,ok.above,ok.inj,ok.has,ok.cab,fun z=>Bool.noConfusion z,ok.frames,ok.stk,ok.exf,ok.bs,ok.bsz,ok.noex,ok.exfs,ok.funs,ok.frf⟩
theorem Inv.sup (I:Inv X pins σ H s)(a:Addr):Inv (X.sup a) pins σ H s:=⟨I.ok.sup a,I.os,I.bare,I.base,I.loc,I.cell,I.free,I.freeC,I.pin,I.hok,I.len⟩
theorem Inv.unsup (ok:X.Ok)(I:Inv (X.sup a) pins σ H s):Inv X pins σ H s:=⟨ok,I.os,I.bare,I.base,I.loc,I.cell,I.free,I.freeC,I.pin,I.hok,I.len⟩
theorem SP.unsup (ok:X.Ok)(h:SP (X.sup a) pins D f s'):SP X pins D f s':=by
 cases f with
 |next=>obtain⟨σ',H',I,q⟩:=h;exact⟨σ',H',I.unsup ok,q⟩
 |brk=>obtain⟨σ',H',I,q⟩:=h;exact⟨σ',H',I.unsup ok,q⟩
 |cont=>obtain⟨σ',H',I,q⟩:=h;exact⟨σ',H',I.unsup ok,q⟩
 |ret u=>obtain⟨v,σ',H',I,r,q⟩:=h;exact⟨v,σ',H',I.unsup ok,r,q⟩
def lM (a:Addr)(C:Value)(d:Option Addr):HO:=.ext fun h=>∃o vs,h.get? a=some o/\o.cls=C/\o.dict=d/\o.data=.fields vs
theorem tK.track (L:tK X pins σ H s a C d)(fm:Frm X):Inv X pins σ (upd H a (lM a C d)) s:=by
 obtain⟨I,h0,hp,hs,ht,F⟩:=L;obtain⟨n,f,oe,vs,v,e1,e2,e3,e4,e5,t⟩:=F;obtain⟨c1,c2,c3,c4⟩:=Aa (a:=a) (C:=C) (d:=d) I hp hs (b:=a) ⟨n,f,_,_,e1,e4⟩;have tr:∀b u,H b=some u->upd H a (lM a C d) b=some u:=fun b u e=>by rw[aL (aX e f)];exact e
 refine⟨I.ok,I.os,I.bare,⟨I.base.keep,I.base.slot,fun b o e n' hx=>?_,I.base.there,fun b xs e=>tr _ _ (I.base.tups b xs e),fun b o u e=>tr _ _ (I.base.frzs b o u e),fun b ps e=>?_⟩,I.loc,I.cell,?_,fun x c e=>?_,fun p hp'=>?_,fun b o e=>?_,I.len⟩
 ·have:b≠a:=fun z=>by rw[z,c1] at e;cases e
  rw[aL this];exact I.base.free b o e n' hx
 ·obtain⟨more,z⟩:=I.base.tbls b ps e;exact⟨more,tr _ _ z⟩
 ·rw[aL (Ne.symm c2)];exact I.free
 ·rw[aL (c3 x c e)];exact I.freeC x c e
 ·obtain⟨z1,z2,z3⟩:=I.pin p hp';exact⟨z1,by rw[aL (c4 p hp')];exact z2,z3⟩
 ·by_cases hb:b=a
  ·subst hb;rw[aB] at e;cases e;refine⟨⟨oe,vs,e1,e2,e3,e4⟩,⟨oe,e1⟩,fun h1 h2 p k=>?_⟩;obtain⟨o,vs',z1,z2⟩:=p;exact⟨o,vs',k o z1,z2⟩
  ·rw[aL hb] at e;exact(I.hok b o e).stay (fun _ _ _ q=>q) (fun c q=>tr _ _ q) fun c xs q=>tr _ _ q
theorem nC (I:Inv X pins σ H s)(hN:X.N.Nodup)(hj:X.N[j]?=some n)(hl:X.env.scope.names.lookup n=some .local)(h:∀s',Inv X pins (σ.set j none) H s'->Q () s'):wpAny (model X.prog X.w) A' (do bindName X.env n .none;unbindBehindTheSuite X.env n pos) Q E s:=by
 obtain⟨m,hn,hlk⟩:=id I.loc;have hcls:(X.env.scope.kind == .class || (X.env.scope.kind == .module && X.env.locals != X.env.globals))=false:=by rw[I.ok.kind];rfl
 have hiσ:j < σ.length:=by rw[I.len];exact(List.getElem?_eq_some_iff.mp hj).1
 have cne:=I.cne;refine wpAny_nameGoes_keeps hl hn hcls fun h' v hn' hs=>?_;obtain⟨oL,_,_,hoL,_⟩:=id hn;refine h _ ⟨I.ok,I.os,I.bare,⟨fun b o e n hb hx=>?_,fun b o e n hb hx=>?_,I.base.free,fun b o e hx=>?_,I.base.tups,I.base.frzs,I.base.tbls⟩,⟨_,hn',fun i y v' e1 e2 e3=>?_⟩,fun y c e=>?_,I.free,I.freeC,fun p hp=>?_,fun b ob e=>?_,by simpa using I.len⟩
 ·exact(hs.2 b (Nat.ne_of_lt (Nat.lt_of_lt_of_le (Heap.lt_size e) I.ok.above))).trans (I.base.keep b o e n hb hx)
 ·obtain⟨sl,e1⟩:=I.base.slot b o e n hb hx;exact⟨sl,(hs.2 b (Nat.ne_of_lt (Nat.lt_of_lt_of_le (Heap.lt_size e) I.ok.above))).trans e1⟩
 ·obtain⟨o',e1⟩:=I.base.there b o e hx;exact⟨o',(hs.2 b (Nat.ne_of_lt (Nat.lt_of_lt_of_le (Heap.lt_size e) I.ok.above))).trans e1⟩
 ·by_cases hij:i=j
  ·subst hij;rw[getElem?_set_self hiσ] at e2
   cases e2
  ·rw[getElem?_set_ne (Ne.symm hij)] at e2;obtain⟨u',r',q⟩:=hlk i y v' e1 e2 e3;refine⟨u',r',?_⟩;rcases q with ⟨k,e⟩ | ⟨k,c,e,z⟩
   ·refine .inl ⟨k,?_⟩;have:y≠n:=fun e=>hij (wR hN e1 (e ▸ hj));simp[this,e]
   ·exact .inr ⟨k,c,e,z.sameBut hs (cne y c e)⟩
 ·obtain⟨w',z⟩:=I.cell y c e;exact⟨w',z.sameBut hs (cne y c e)⟩
 ·obtain⟨e,n,ne,nf,d⟩:=I.pin p hp;exact⟨(hs.2 p.1 ne).trans e,n,ne,nf,d⟩
 ·refine(I.hok b ob e).stay (fun c w' hc q=>(hs.2 c ?_).trans q) (fun _ q=>q) fun _ _ q=>q;rintro rfl;rcases hc with rfl | hc
  ·rw[I.free] at e;cases e
  ·rw[I.free] at hc;cases hc
end
abbrev TH:=Addr->Value->Option Addr->gO->St->Hp->Prop
def PH (X:Cx)(hs:List ExceptHandler)(t:TH):Prop:=
 ∀(pins:List (Addr × Obj)) (s:Shared) (σ:St) (H:Hp) (D:gO) (a:Addr) (C:Value) (d:Option Addr),tK X pins σ H s a C d->t a C d D σ H->wpAny (model X.prog X.w) X.A (handleBy (.ref a) X.env hs) (SP X pins D) X.xe s
section
variable {X:Cx} {pos np:Pos} {T:Str} {tc:Value} {b₀:Stmt} {suite:List Stmt} {rest:List ExceptHandler} {ts:TS} {tr:TH}
def qc2:TH:=fun _ _ _ _ _ _=>False
theorem pU:PH X hs qc2:=fun _ _ _ _ _ _ _ _ _ h=>h.elim
def Rx (X:Cx)(T:Str)(c:Value):Prop:=X.mg T=some c\/(X.mg T=none/\bootBuiltins T=some c/\T≠"__name__")
theorem Po (I:Inv X pins σ H s)(hg:Gl X T)(hc:Rx X T tc)(h:Q tc s)(hd:(T == ("__debug__":Str))=false:=by decide):wpAny (model X.prog X.w) X.A (eval (.Name T np) X.env) Q E s:=by
 rcases hc with e | ⟨e,hv,hn⟩
 ·exact jA I hg e h hd
 ·exact kC I hg e hv h hn hd
def qj9 (K:Frag)(tc:Value)(ts:TS)(tr:TH):TH:=fun a C d D σ H=>∃b,W.exmOne K C tc=some b/\if b=true then ts D σ H else tr a C d D σ H
theorem tK.ty (L:tK X pins σ H s a C d):W.Looks M s.heap (typeOf (.ref a)) C:=by
 obtain⟨I,h0,hp,hs,ht,n,f,oe,vs,v,e1,e2,_⟩:=L;subst e2;exact(W.Looks.ld e1).andThen .now
theorem Kj (hg:Gl X T)(hc:Rx X T tc)(hs:∀a,PSs (X.sup a) (b₀ :: suite) ts)(hr:PH X rest tr)(hd:(T == ("__debug__":Str))=false:=by decide) :
  PH X (.ExceptHandler (some (.Name T np)) none (b₀ :: suite) pos :: rest) (qj9 X.K tc ts tr):=by
 intro pins s σ H D a C d L h;obtain⟨b,hb,h⟩:=h;have I:=L.1;refine wpAny_handleBy_cons (codeAny_handlers_test (Po (X:=X.sup a) (I.sup a) hg hc ((W.exm_one I.kIn L.ty hb).here ?_) hd)) (by intro q;cases q)
 cases b with
 |false=>
  rw[if_neg Bool.false_ne_true] at h;exact hr pins s σ H D a C d L h
 |true=>
  rw[if_pos rfl] at h;refine codeAny_handlers_suite (Hy (X:=X) L fun s' L'=>?_);exact wpAny_mono (hs a pins s' σ H D (L'.1.sup a) h) (fun f s2 q=>SP.unsup I.ok q) fun _ _ z=>False.elim z
def Ui (K:Frag)(tc:Value)(j:Nat)(ts:TS)(tr:TH):TH:=fun a C d D σ H=>∃b,W.exmOne K C tc=some b/\
 if b=true then ts { nx:=fun σ' H'=>D.nx (σ'.set j none) H',rt:=D.rt,bk:=fun σ' H'=>D.bk (σ'.set j none) H',ct:=fun σ' H'=>D.ct (σ'.set j none) H' } (σ.set j (some (.ref a))) (upd H a (lM a C d)) else tr a C d D σ H
theorem Xm (fm:Frm X)(hN:X.N.Nodup)(hj:X.N[j]?=some n)(hl:X.env.scope.names.lookup n=some .local)(hg:Gl X T)(hc:Rx X T tc)(hs:∀a,PSs (X.sup a) (b₀ :: suite) ts)(hr:PH X rest tr)(hd:(T == ("__debug__":Str))=false:=by decide):
  PH X (.ExceptHandler (some (.Name T np)) (some n) (b₀ :: suite) pos :: rest) (Ui X.K tc j ts tr):=by
 intro pins s σ H D a C d L h;obtain⟨b,hb,h⟩:=h;have I:=L.1;refine wpAny_handleBy_cons (codeAny_handlers_test (Po (X:=X.sup a) (I.sup a) hg hc ((W.exm_one I.kIn L.ty hb).here ?_) hd)) (by intro q;cases q)
 cases b with
 |false=>
  rw[if_neg Bool.false_ne_true] at h;exact hr pins s σ H D a C d L h
 |true=>
  rw[if_pos rfl] at h;refine codeAny_handlers_suite_as (Hy (X:=X) L fun s' L'=>?_);refine kI (X:=X.sup a) ((L'.track fm).sup a) hN hj (.inl hl) (v:=.ref a) rfl (fun s2 I2=>?_) (.inr hl);refine wpAny_mono (hs a pins s2 _ _ _ I2 h) (fun f s3 q=>?_) fun _ _ z=>False.elim z
  cases f with
  |next=>
   obtain⟨σ',H',J,q⟩:=q;exact nC (J.unsup I.ok) hN hj hl fun s4 J4=>⟨_,H',J4,q⟩
  |brk=>
   obtain⟨σ',H',J,q⟩:=q;exact nC (J.unsup I.ok) hN hj hl fun s4 J4=>⟨_,H',J4,q⟩
  |cont=>
   obtain⟨σ',H',J,q⟩:=q;exact nC (J.unsup I.ok) hN hj hl fun s4 J4=>⟨_,H',J4,q⟩
  |ret u=>
   obtain⟨v,σ',H',J,r,q⟩:=q;exact nC (J.unsup I.ok) hN hj hl fun s4 J4=>⟨v,_,H',J4,r,q⟩
def qn8 (tb:TSX)(to:TS)(th:TH):TS:=fun D σ H=>tb { D with nx:=to D } (fun σ' C d H'=>∀a,H' a=none->th a C d D σ' H') σ H
theorem zY (fm:Frm X)(hb:qf6 X body tb)(ho:PSs X orelse to)(hh:PH X (h₀ :: hs) th):PS X (.Try body (h₀ :: hs) orelse [] pos) (qn8 tb to th):=by
 intro pins s σ H D I h;refine wpAny_Try_except (wpAny_mono (hb pins s σ H _ _ I h) (fun f s1 q=>?_) fun e s1 q=>?_)
 ·cases f with
  |next=>
   obtain⟨σ',H',I',q⟩:=q;exact ho pins s1 σ' H' D I' q
  |ret v=>exact q
  |brk=>exact q
  |cont=>exact q
 ·obtain⟨a,C,d,σ',H',rfl,L,q⟩:=q;refine Jx I.ok.frames fm L fun s2 L2=>?_;exact hh pins s2 σ' H' D a C d L2 (q a L2.2.choose_spec.2.2.2.free)
end
structure Cl (K:Frag) (C:Addr):Prop where
 ga:W.findIn K (.ref C) "__getattribute__"=some (some (.builtin "BaseException.__getattribute__"))
 gn:W.findIn K (.ref C) "__getattr__"=some none
 bx:W.mroIn K C (.type "BaseException")=some true
 ob:W.mroIn K C (.type "object")=some true
 ca:W.findIn K (.ref C) "__class__"=some (some (.builtin "object.__class__"))
 hn:W.specialIn K (.builtin "object.__class__") "__get__"=some (some (.builtin "getset_descriptor.__get__"))
 tk:W.takesIn K (.builtin "object.__class__")=some true
 cl:(W.clsIn K C).isSome=true
section
variable {prog:Program} {w:World} {A:Around} {E:Value->Shared->Prop} {s:Shared} {K:Frag} {x D:Addr} {ox:Obj} {odo:Option Obj} {name:Str}
theorem Lz (k:Cl K D)(X:K.In s.heap)(I:W.InstAt s.heap x ox D odo)(h:Q () s):
  wpAny (model prog w) A (checkBuiltinCall "BaseException.__getattribute__" ⟨[.ref x,nameV],[]⟩) Q E s:=by
 have hk:builtinKind "BaseException.__getattribute__"=some .slot:=by decide +kernel
 have hsplit:splitId "BaseException.__getattribute__"=some ("BaseException","__getattribute__"):=by decide +kernel
 obtain⟨hh,g,d,t,os⟩:=s;have L0:=I.type (M:=model prog w);have L1:=W.looks_mroIn (M:=model prog w) X k.bx;have LI:W.Looks (model prog w) hh (isInstance (.ref x) (.type "BaseException")) true:=L0.andThen L1;have ha:=PySem.F.args_bexc_ga (.ref x) nameV;simp only[checkBuiltinCall,hk,hsplit];refine wpAny_bind (LI.at ?_)
 repeat (first | lk | wp_step)
 exact h
theorem Nz {fill expr:Bool}(k:Cl K D)(X:K.In s.heap)(I:W.InstAt s.heap x ox D odo)(hv:W.handedIn v=true)(hf:W.findObj K D odo name=some (.value v)\/∃g a,W.findObj K D odo name=some (.bind g a)/\∀(A':Around) (R:Result->Shared->Prop),R (.ok (.ret v)) s->codeAny (model prog w) A' (.call g ⟨[a,.ref x,.ref D],[]⟩) R s)(h:P v s):
  wpAny (model prog w) A (getAttrBy (.ref x) (.str name tk) fill expr) P E s:=by
 obtain⟨hh,g,d,t,os⟩:=s;have L0:=I.type (M:=model prog w);have L1:=W.looks_findIn (M:=model prog w) X k.ga;have L2:=W.looks_findIn (M:=model prog w) X k.gn;unfold getAttrBy;refine wpAny_holding (wpAny_bind (L0.at (wpAny_bind (L1.at ?_))));show wpAny _ _ (getAttrByItsOwn (.ref x) (.str name tk) (.ref D) (.builtin "BaseException.__getattribute__") fill expr) _ _ _;unfold getAttrByItsOwn hookBefore;have f3:=PySem.F.attr_ValueError.ga.bind (.ref x);refine wpAny_bind (L2.at ?_);refine wpAny_bind (wpAny_attempt (wpAny_holding ?_));unfold callGetattribute boundAndCalled;rw[if_neg (by cases expr<;>decide)];refine wpAny_bind (wpAny_of_eq f3 ?_);refine wpAny_call (codeAny_call_builtin PySem.F.attr_ValueError.ga.plain PySem.F.entry_bexc_ga (Lz k X I ?_));unfold Builtin.«object.__getattribute__»;refine wpAny_bind (wpAny_pure ?_);refine wpAny_bind (wpAny_pure ?_);refine wpAny_bind (L0.at ?_);rcases hf with hf | ⟨gg,a,hf,hc⟩
 ·refine wpAny_bind ((W.looks_find (M:=model prog w) X I hf).at ?_);refine wpAny_pure ?_;show wpAny _ _ (handedOut v) _ _ _;rw[W.handedOut_of hv];exact wpAny_pure h
 ·refine wpAny_bind ((W.looks_find (M:=model prog w) X I hf).at ?_);show wpAny _ _ (Builtin.ObjectAttr.bindTo gg a (.ref x) (.ref D)) _ _ _;show wpAny _ _ (holding [a] (call gg [a,.ref x,.ref D]) >>= ret) _ _ _;refine wpAny_bind (wpAny_holding (wpAny_call (hc _ _ ?_)));refine wpAny_pure ?_;show wpAny _ _ (handedOut v) _ _ _;rw[W.handedOut_of hv];exact wpAny_pure h
theorem Ls (k:Cl K D)(X:K.In s.heap)(I:W.InstAt s.heap x ox D odo)(h:Q (some (.ref D)) { s with toks:=s.toks+1 }):
  wpAny (model prog w) A (getAttr? (.ref x) "__class__") Q E s:=by
 have hf:W.findObj K D odo "__class__"=some (.bind (.builtin "getset_descriptor.__get__") (.builtin "object.__class__")):=by
  obtain⟨cd,hc⟩:=Option.isSome_iff_exists.mp k.cl;unfold W.findObj;rw[hc,Option.bind_some,k.ca,Option.bind_some];simp[k.hn,k.tk]
 unfold getAttr? getAttrBy?;refine wpAny_bind (wpAny_mkText (wpAny_bind (wpAny_attempt (Nz (s:={ s with toks:=s.toks+1 }) k X I rfl (.inr ⟨_,_,hf,fun A' R q=>W.class_get (s:={ s with toks:=s.toks+1 }) X I k.ob q⟩) ?_))));exact wpAny_pure h
theorem Cb (k:Cl K D):W.KitX K (.ref x) (.ref D) (fun h=>W.InstAt h x ox D odo) where
 ty:=fun _ _ _ I=>I.type
 it:=fun _ _ X _=>by
  obtain⟨cdD,hcD⟩:=Option.isSome_iff_exists.mp k.cl;unfold W.clsIn at hcD;split at hcD
  ·rename_i c' d' cd' sl' ho
   intro A' Q' E' s' kk q;unfold isType loadHead;exact wpAny_bind (wpAny_loadPart (kk _ _ (X _ _ ho)) (wpAny_pure q))
  ·cases hcD
 ne:=fun h tp dd its n sl X htp=>by
  obtain⟨cdD,hcD⟩:=Option.isSome_iff_exists.mp k.cl;refine Bool.eq_false_iff.mpr fun q=>?_;have e:D=tp:=Value.ref.inj (beq_iff_eq.mp q);subst e;unfold W.clsIn at hcD;split at hcD
  ·rename_i c' d' cd' sl' ho
   have z:=(X _ _ ho).symm.trans htp
   cases z
  ·cases hcD
 ca:=fun X I h=>Ls k X I h
end
section
variable {X:Cx}
theorem gS (hg:Gl X x)(hm:X.mg x=some (.ref C))(hd:(x == ("__debug__":Str))=false:=by decide):PE X (.Name x pos) (tC (.ref C)):=dM hg hm rfl hd
theorem xR:∀{cs:List Addr} {its:List Value},bQ (cs.map V.ref) its->its=cs.map Value.ref
 | [],_,.nil=>rfl
 |_ :: _,_,.cons r t=>by rw[show _=Value.ref _ from r,xR t];rfl
end
end L2
namespace Mq
theorem rL (hp:1<=p.2)(hq:1<=q.2):Low (minus p q):=gK (iQ hp hq)
theorem Kv (hp:1<=p.2)(hq:1<=q.2):Low (sY p q):=gK (iQ hp hq)
theorem uF {p q:Q2}(hp:1<=p.2)(hq:q.1≠0):p.2*q.1≠0:=Int.mul_ne_zero (by lia) hq
theorem Rl (hp:1<=p.2)(hq:q.1≠0):Low (rZ p q):=gK (uF hp hq)
theorem Ey (h:Bd n p)(g:Bd m q)(hp:1<=p.2)(hq:1<=q.2):Bd (n+m+1) (minus p q):=by
 have k:=kT (t:=p.1*q.2 - q.1*p.2) (iQ hp hq);have a2:B (n+m) (q.1*p.2):=by rw[Nat.add_comm];exact g.a.mul h.b
 exact⟨((h.a.mul g.b).sub a2).le k.1,((h.b.mul g.b).mono (Nat.le_succ _)).le k.2⟩
theorem Ou (h:Bd n p)(g:Bd m q)(hp:1<=p.2)(hq:1<=q.2):Bd (n+m) (sY p q):=by
 have k:=kT (t:=p.1*q.1) (iQ hp hq);exact⟨(h.a.mul g.a).le k.1,(h.b.mul g.b).le k.2⟩
theorem Xc (h:Bd n p)(g:Bd m q)(hp:1<=p.2)(hq:q.1≠0):Bd (n+m) (rZ p q):=by
 have k:=kT (t:=p.1*q.2) (uF hp hq);exact⟨(h.a.mul g.b).le k.1,(h.b.mul g.a).le k.2⟩
end Mq
namespace L2
open PySem PySem.Spec PyProof.Rows
def NW (K:Frag)(H:Hp)(x:V):Prop:=∃t,kQ K H x t/\jI t
def Jw (K:Frag):Sp:=fun vs H Q _=>∃(a b:Addr) (p q:Q2) (n m:Nat),vs=[.ref a,.ref b]/\Fq K H a p/\Fq K H b q/\Bd n p/\Bd m q/\n+m+1<=9000/\Q (.bl (decide (p.1*q.2 < q.1*p.2))) H
inductive TyQ (K:Frag) (H:Hp):V->Value->Prop where
 |of {x:V} {t:Value} (h:kQ K H x t):TyQ K H x t
 |tup {a:Addr} {xs:List V} (h:SqT K H a xs):TyQ K H (.ref a) (.type "tuple")
 |lst {a:Addr} {xs:List V} (h:SqL K H a xs):TyQ K H (.ref a) (.type "list")
section
variable {X:Cx} {pins:List (Addr × Obj)} {σ:St} {H:Hp} {s:Shared} {A:Around} {E:Value->Shared->Prop} {Q:Value->Shared->Prop} {c:Value} {b:Bool}
theorem Gs (I:Inv X pins σ H s)(rx:cA x u)(ty:TyQ X.K H x t)(e:W.kitOne X.K t c=some b)(h:∀tk,Q (.bool b) { s with toks:=tk }):
  wpAny (model X.prog X.w) A (call (.builtin "isinstance") [u,c]) Q E s:=by
 cases ty with
 |of ty=>exact Le I rx ty e h
 | @tup a xs ht=>
  cases (show u=Value.ref a from rx)
  obtain⟨its,_,p,_⟩:=I.tuple ht;obtain⟨o,h1,h2,_⟩:=p;exact W.kia_one W.kitx_tuple I.kIn ⟨o,h1,h2⟩ e (fun z=>nomatch z) h
 | @lst a xs ht=>
  cases (show u=Value.ref a from rx)
  obtain⟨its,_,p,_⟩:=I.list ht;obtain⟨o,h1,h2,_⟩:=p.isList;exact W.kia_one W.kitx_list I.kIn ⟨_,h1,h2⟩ e (fun z=>nomatch z) h
end
section
variable {X:Cx}
theorem yM:kL X (.builtin "isinstance") (fun xs H Q=>∃x n t b,xs=[x,.ty n]/\TyQ X.K H x t/\W.kitOne X.K t (.type n)=some b/\Q (.bl b) H):=by
 intro pins s σ H vs us Q I rv h;obtain⟨x,n,t,b,rfl,ty,e,q⟩:=h;obtain⟨u,u2,rfl,r1,r2⟩:=yT rv
 cases (show u2=Value.type n from r2)
 exact Gs I r1 ty e fun tk=>⟨.bl b,H,I.tok tk,rfl,q⟩
theorem hJ {i:Nat}(hN:X.N[i]?=some x)(hv:Vis X.env.scope x)(b:X.mg "isinstance"=none)(b2:X.mg T=none)(g1:Gl X "isinstance")(g2:Gl X T)(hT:bootBuiltins T=some (.type T'))(hd:(x == ("__debug__":Str))=false:=by decide)(hcd:(x == ("__classdict__":Str))=false:=by decide)(hTn:T≠"__name__":=by decide)(hTd:(T == ("__debug__":Str))=false:=by decide)(he:starEach [.Name x p2,.Name T p3] X.env=(false,eval (.Name x p2) X.env) :: starEach [.Name T p3] X.env:=by rfl)(he2:starEach [.Name T p3] X.env=(false,eval (.Name T p3) X.env) :: starEach [] X.env:=by rfl)(hpl:(backTo pos (starEach [.Name T p3] X.env)).any (·.1)=false:=by rfl):
  PE X (.Call (.Name "isinstance" p1) [.Name x p2,.Name T p3] [] pos) (fun σ H Q=>∃v t b,σ[i]?=some (some v)/\TyQ X.K H v t/\W.kitOne X.K t (.type T')=some b/\Q (.bl b) H):=by
 have h:=bV (X:=X) (pos:=pos) (p:=p1) yM g1 b PyProof.Rows.boot_isinstance (aA (Ro (i:=i) (pos:=p2) hN hv hd hcd) (aA (Ae (v:=.ty T') (pos:=p3) g2 b2 hT rfl hTn hTd) aD he2) he) (by decide) (by decide) he hpl;intro pins s σ H Q I q;obtain⟨v,t,bb,h1,h2,h3,h4⟩:=q;exact h pins s σ H Q I ⟨v,h1,v,T',t,bb,rfl,h2,h3,h4⟩
end
theorem SqT.upd {K:Frag}(h:SqT K H a xs)(hl:H l=some (.lst ys)):SqT K (L2.upd H l o) a xs:=by
 rcases h with (h | ⟨u,h⟩) | h
 ·exact .inl (.inl (by rw[aL (gL h hl (fun z=>by cases z))];exact h))
 ·exact .inl (.inr ⟨u,by rw[aL (gL h hl (fun z=>by cases z))];exact h⟩)
 ·exact .inr h
theorem uS {K:Frag}:∀ns:List Int,pG K H (ns.map V.int) (ns.map PyData.int)
 | []=>.nil
 |n :: r=>.cons (.int n) (uS r)
theorem Dh:∀ns:List Int,PyData.canLayAll0 (ns.map PyData.int)=true
 | []=>rfl
 |n :: r=>by
  show ((PyData.int n).canLay0 && PyData.canLayAll0 (r.map PyData.int))=true;rw[Dh r];rfl
theorem jX:(((σC 2 fr σ).set 0 (some x)).set 1 (some y)).length=(σC 2 fr σ).length/\∀(i:Nat) v,(σC 2 fr σ)[i]?=some (some v)->(((σC 2 fr σ).set 0 (some x)).set 1 (some y))[i]?=some (some v):=by
 refine⟨by simp,fun i v h=>?_⟩
 match i with
 |0=>unfold σC at h;simp at h
 |1=>unfold σC at h;simp at h
 |k+2=>rw[getElem?_set_ne (by lia),getElem?_set_ne (by lia)];exact h
theorem Fqs.set {K:Frag}(h:Fq K H a p):∀{xs:List V} {ps:List Q2} (i:Nat),Fqs K H xs ps->Fqs K H (xs.set i (.ref a)) (ps.set i p)
 |_,_,_,.nil=>.nil
 |_,_,0,.cons _ q=>.cons h q
 |_,_,i+1,.cons g q=>.cons g (Fqs.set h i q)
theorem Fqs.at {K:Frag}:∀{xs:List V} {ps:List Q2} {i:Nat} {p:Q2},Fqs K H xs ps->ps[i]?=some p->∃a,xs[i]?=some (.ref a)/\Fq K H a p
 |_,_,_,_,.nil,h=>by simp at h
 |_,_,0,_,.cons h _,e=>by simp at e;subst e;exact⟨_,rfl,h⟩
 |_,_,i+1,_,.cons _ q,e=>by simpa using Fqs.at q (by simpa using e)
theorem Lg (lo:-(2 ^ n:Int) < i)(hi:i < 2 ^ n):Mq.B n i:=by
 unfold Mq.B;have e:((2 ^ n:Nat):Int)=2 ^ n:=by simp
 lia
theorem uC (h:k < n):ixN n (k:Int)=some k:=by
 unfold ixN;rw[if_pos (by lia),if_pos (by lia)];simp
section
variable {X:Cx} {tg:Expr}
def qp2 (K:Frag):List V->Hp->VK->Prop:=fun xs H Q=>∃(p:Addr) (bs:List Bool),xs=[.ref p]/\SqL K H p (bs.map V.bl)/\Q (.bl (bs.all id)) H
theorem vB (hc:X.calm=true):kL X (.builtin "all") (qp2 X.K):=by
 intro pins s σ H xs us Q I r h;obtain⟨p,bs,rfl,hq,q⟩:=h;obtain⟨u,rfl,rx⟩:=xL r
 cases rx
 obtain⟨its,rv,pl,hz⟩:=I.list hq;have hlen:its.toArray.size=bs.length:=by rw[size_toArray,<- rv.length,length_map]
 have hne:p≠s.heap.objs.size:=by
  obtain⟨o,e,_⟩:=pl.isList;exact Nat.ne_of_lt (Heap.lt_size e)
 refine call_all_walk (wpAny_pyIter_list pl.isList ?_);refine⟨s.heap.objs.size,_,_,_,_,_,fun i=>bs.getD i false,rfl,Walks.list (by exact I.ok.hd hc) s.heap.objs.size p hne its.toArray,⟨⟨_,Heap.get?_push_size _ rfl,rfl,rfl⟩,?_⟩,?_,?_⟩
 ·obtain⟨o,e,c⟩:=pl.isList;exact⟨o,Heap.get?_push_of_some _ e,c⟩
 ·intro i v s' Q' E' hv q';have hv':its[i]?=some v:=by simpa using hv
  have hi:i < its.length:=(List.getElem?_eq_some_iff.mp hv').1;have hb:(bs.map V.bl)[i]?=some (.bl (bs.getD i false)):=by
   rw[getElem?_map,getElem?_eq_getElem (by rw[<- hlen];simpa using hi)];simp[List.getD,getElem?_eq_getElem (show i < bs.length by rw[<- hlen];simpa using hi)]
  obtain⟨u,hu,ru⟩:=rv.get hb;have e:u=v:=by rw[hv'] at hu;cases hu;rfl
  subst e
  cases ru
  exact wpAny_truthy_bool q'
 ·intro h' tk kk;have e:(List.range its.toArray.size).all (fun i=>bs.getD i false)=bs.all id:=by
   rw[hlen,Bool.eq_iff_iff,all_eq_true,all_eq_true];constructor
   ·intro z b hb;obtain⟨i,hi,rfl⟩:=getElem_of_mem hb;have:=z i (mem_range.mpr hi);simpa[List.getD,getElem?_eq_getElem hi] using this
   ·intro z i hi;have hi':=mem_range.mp hi;have:=z bs[i] (getElem_mem hi');simpa[List.getD,getElem?_eq_getElem hi'] using this
  rw[e];refine⟨.bl _,H,I.kept (t':=tk) fun b o hb=>?_,rfl,q⟩;have hb2:b≠s.heap.objs.size:=Nat.ne_of_lt (Heap.lt_size hb);exact kk b o (by simpa using hb2) (Heap.get?_push_of_some _ hb)
end
def Oa {ι:Type}(C:ι->Addr)(m:Str)(sp:ι->Sp)(dvs:List V)(E:XK)(ta:TE)(t:TA):TE:=fun σ H Q=>ta σ H fun x H1=>∃i a dx fs,x=.ref a/\H1 a=some (.ins (C i) dx fs)/\fs.lookup m=none/\
 t σ H1 fun vs H2=>sp i (x :: (vs++dvs)) H2 Q E
section
variable {X:Cx} {ι:Type} {C f:ι->Addr} {fd:ι->FuncData} {sp:ι->Sp} {m:Str} {CX:CXT} {k:Nat} {ps:List Str} {ds:List Value} {dvs:List V} {E:XK} {o e:Expr} {es:List Expr} {ta:TE} {t:TA} {apos pos:Pos}
theorem Da (he:PE X o ta)(c:∀i,Cls X.K (C i))(hm:∀i,gQ X.K (C i) m (f i))(F:∀i,aK X.prog X.w X.K X.mg X.base CX k (f i) (fd i) ps (sp i))(hr:gM k X.A)(hb:∀i,aM X.K (fd i) ps ds)(hd:bQ dvs ds)(hx:jZ CX X E)(ha:PA X (e :: es) t)(hst:starEach (e :: es) X.env=(false,eval e X.env) :: starEach es X.env:=by rfl)(hpl:(backTo pos (starEach es X.env)).any (·.1)=false:=by rfl)(ht:eval (.Call (.Attribute o m apos) (e :: es) [] pos) X.env=(do
   let ov <- eval o X.env
   standAt apos.atName
   let (f,first) <- holding [ov] (getMethod ov m pl)
   callWith pos f first (backTo pos (starEach (e :: es) X.env)) (backToKw pos (keywordEach [] X.env))):=by rfl):
  PE X (.Call (.Attribute o m apos) (e :: es) [] pos) (Oa C m sp dvs E ta t):=by
 intro pins s σ H Q I h;refine W.methodCall_KW (pl:=pl) (thn (he pins s σ H _ I h) fun u s1 ⟨x,H1,I1,rx,i,a,dx,fs,ex,ea,l,q⟩=>?_) ht;subst ex;obtain rfl:u=Value.ref a:=rx;refine jQ I1 ea (c i) (hm i) l ?_;refine W.callWith_K (first:=[.ref a]) (h₀:=X.base) I.ok.mod.kin (hm i).kp (thn (ha pos pins s1 σ H1 _ I1 q) fun us s2 ⟨vs,H2,I2,r,q2⟩=>⟨I2.kIn,?_⟩) hst hpl;exact uV (us:=.ref a :: us) (vs:=.ref a :: vs) (F i) hr (hb i) hd hx I2 (.cons rfl r) q2
theorem gU (he:PE X o ta)(c:∀i,Cls X.K (C i))(hm:∀i,gQ X.K (C i) m (f i))(F:∀i,aK X.prog X.w X.K X.mg X.base CX k (f i) (fd i) ps (sp i))(hr:gM k X.A)(hb:∀i,aM X.K (fd i) ps ds)(hd:bQ dvs ds)(hx:jZ CX X E)(ht:eval (.Call (.Attribute o m apos) [] [] pos) X.env=(do
   let ov <- eval o X.env
   standAt apos.atName
   let (f,first) <- holding [ov] (getMethod ov m pl)
   callWith pos f first (backTo pos (starEach [] X.env)) (backToKw pos (keywordEach [] X.env))):=by rfl):
  PE X (.Call (.Attribute o m apos) [] [] pos) (Oa C m sp dvs E ta qb2):=by
 intro pins s σ H Q I h;refine W.methodCall_KW (pl:=pl) (thn (he pins s σ H _ I h) fun u s1 ⟨x,H1,I1,rx,i,a,dx,fs,ex,ea,l,q⟩=>?_) ht;subst ex;obtain rfl:u=Value.ref a:=rx;refine jQ I1 ea (c i) (hm i) l ?_;exact W.callWith_K0 (first:=[.ref a]) I1.kIn (hm i).kp (uV (us:=[.ref a]) (vs:=[.ref a]) (F i) hr (hb i) hd hx I1 (.cons rfl .nil) q)
end
inductive Kd where
 |pc | pu | ho
 deriving DecidableEq
def Kd.wd:Kd->Str
 | .pc=>"piece"
 | .pu=>"push"
 | .ho=>"hold"
def Kd.cn:Kd->Str
 | .pc=>"Piece"
 | .pu=>"Push"
 | .ho=>"Hold"
theorem Kd.wd_inj {k j:Kd}(h:k.wd=j.wd):k=j:=by
 cases k<;>cases j<;>first | rfl | exact absurd h (by decide +kernel)
theorem fsg:¬(("start":Str) = "goal"):=by decide +kernel
theorem fsz:¬(("start":Str) = "size"):=by decide +kernel
theorem fgz:¬(("goal":Str) = "size"):=by decide +kernel
def oC (s g z:V):List (Str × V):=fD "size" z (fD "goal" g (fD "start" s []))
theorem dI (s g z:V):(oC s g z).lookup ("start":Str)=some s:=by
 unfold oC;rw[bN,if_neg fsz,bN,if_neg fsg,bN,if_pos rfl]
theorem eK (s g z:V):(oC s g z).lookup ("goal":Str)=some g:=by
 unfold oC;rw[bN,if_neg fgz,bN,if_pos rfl]
theorem gB (s g z:V):(oC s g z).lookup ("size":Str)=some z:=by
 unfold oC;rw[bN,if_pos rfl]
theorem eZ (s g z:V){m:Str}(h1:¬m = "start")(h2:¬m = "goal")(h3:¬m = "size"):(oC s g z).lookup m=none:=by
 unfold oC;rw[bN,if_neg h3,bN,if_neg h2,bN,if_neg h1];rfl
def Rw (CK:Kd->Addr)(H:Hp)(x:Addr)(k:Kd)(s g z:V):Prop:=∃dx,H x=some (.ins (CK k) dx (oC s g z))
theorem Rw.same (e:aW H H')(h:Rw CK H x k s g z):Rw CK H' x k s g z:=let ⟨dx,q⟩:=h;⟨dx,e _ _ q⟩
theorem Rw.upd (h:Rw CK H x k s g z)(hl:H l=some (.lst ys)):Rw CK (L2.upd H l o) x k s g z:=let ⟨dx,q⟩:=h;⟨dx,by rw[aL (gL q hl (fun z=>by cases z))];exact q⟩
structure RT (K:Frag) (mg:Str->Option Value) (CR:Addr) (CK:Kd->Addr):Prop where
 cl:∀k,Cls K (CK k)
 nS:∀k,gX K (CK k) "start"
 nG:∀k,gX K (CK k) "goal"
 nZ:∀k,gX K (CK k) "size"
 t1:∀k,W.findIn K (.ref (CK k)) "__class__"=some (some (.builtin "object.__class__"))
 t2:W.specialIn K (.builtin "object.__class__") "__get__"=some (some (.builtin "getset_descriptor.__get__"))
 t3:W.takesIn K (.builtin "object.__class__")=some true
 t4:∀k,W.mroIn K (CK k) (.type "object")=some true
 isR:∀k,W.kitOne K (.ref (CK k)) (.ref CR)=some true
 isK:∀k j,W.kitOne K (.ref (CK k)) (.ref (CK j))=some (decide (k=j))
 mR:mg "Row"=some (.ref CR)
 mK:∀k,mg (Kd.cn k)=some (.ref (CK k))
section
variable {K:Frag} {mg:Str->Option Value} {CR:Addr} {CK:Kd->Addr} {H:Hp} {x:Addr} {k:Kd} {s g z:V}
theorem Rw.new (h1:H x=none)(h2:H dx=none)(ne:dx≠x):aW H (L2.upd (L2.upd H dx (.own x)) x (.ins C dx fs)):=fun b o e=>by
 rw[aL (aX e h1),aL (aX e h2)];exact e
end
def Ka (CK:Kd->Addr):Sp:=fun vs H Q _=>∃(x dx:Addr) (k:Kd) (s g z:V),vs=[.ref x,s,g,z]/\H x=some (.ins (CK k) dx [])/\Q .non (upd H x (.ins (CK k) dx (oC s g z)))
def lV (k:Kd):Sp:=fun vs H Q _=>∃x,vs=[x]/\Q (.str k.wd) H
def pC (k:Kd):Sp:=fun vs H Q _=>∃x,vs=[x]/\Q (.bl (decide (k≠.pu))) H
def mZ (CK:Kd->Addr):Sp:=fun vs H Q _=>∃(x:Addr) (k:Kd) (s g z:V),vs=[.ref x]/\Rw CK H x k s g z/\∀t,H t=none->Q (.ref t) (upd H t (.tup [.str k.wd,s,g,z]))
def qm7 (CK:Kd->Addr)(H:Hp)(Q:VK)(k:Kd)(s g z:V):Prop:=∀x H',aW H H'->H x=none->Rw CK H' x k s g z->Q (.ref x) H'
theorem Bu {K:Frag}(h1:oX K H x d)(h2:oX K H y d)(hl:d.canLay0=true)(hd:d.depth<=16)(z:Q (.bl (!neg)) H):xH K neg x y H Q:=by
 refine⟨d,d,h1,h2,hl,hl,by lia,?_⟩;have e:PyData.eqv d d=true:=PySem.SeqAt.eqv_refl _ hl;rw[e]
 cases neg<;>exact z
def rd4 (w:Str)(i j:Int)(p:Q2):PyData:=.tuple [.str w,.int i,.int j,qd p]
theorem Us (h:(PyData.str w).canLay0=true)(i j:Int)(p:Q2):(rd4 w i j p).canLay0=true:=by
 show ((PyData.str w).canLay0 && ((PyData.int i).canLay0 && ((PyData.int j).canLay0 && ((qd p).canLay0 && true))))=true;rw[h];rfl
theorem Kd.lay (k:Kd):(PyData.str k.wd).canLay0=true:=by cases k<;>decide +kernel
theorem ifT {A B:Prop}(h:c=true)(x:A):if c=true then A else B:=by rw[if_pos h];exact x
theorem ifF {A B:Prop}(h:c=false)(x:B):if c=true then A else B:=by rw[if_neg (by rw[h];decide)];exact x
theorem Vo {K:Frag}(h:SqT K H t [.str w,.int i,.int j,.ref a])(f:Fq K H a p):oX K H (.ref t) (rd4 w i j p):=.tup h (.cons (.str _) (.cons (.int _) (.cons (.int _) (.cons f.dat .nil))))
theorem fM (k j:Kd):decide (V.str k.wd=V.str j.wd)=decide (k=j):=by
 by_cases h:k=j
 ·subst h;simp
 ·rw[decide_eq_false h];exact decide_eq_false fun z=>h (Kd.wd_inj (V.str.inj z))
theorem kQ.same {K:Frag}(s:aW H H')(h:kQ K H x t):kQ K H' x t:=by
 cases h with
 |non=>exact .non
 |bl b=>exact .bl b
 |int i=>exact .int i
 |str y=>exact .str y
 |flt y=>exact .flt y
 |lst e=>exact .lst (s _ _ e)
 |frz e=>exact .frz (s _ _ e)
 |tup e=>exact .tup (s _ _ e)
 |dK e=>exact .dK (s _ _ e)
 |dT e=>exact .dT (s _ _ e)
 |ins e cl ha hn htk hm=>exact .ins (s _ _ e) cl ha hn htk hm
theorem jN {p:Kd->Prop}(a:p .pc)(b:p .pu)(c:p .ho):∀k,p k:=fun k=>by cases k<;>assumption
theorem mM (K:Frag)(t:PySem.Value):PySem.W.kitOne K t t=some true:=by unfold PySem.W.kitOne;rw[if_pos (beq_self_eq_true _)]
def kd3 {α:Type}(a b c:α):Kd->α
 | .pc=>a
 | .pu=>b
 | .ho=>c
end L2
namespace Mq
def oW (ps:List Q2):Prop:=∀p∈ps,Low p
end Mq
namespace L2
open PySem PySem.Spec PyProof.Rows
section
variable {κ:Type} [DecidableEq κ]
def iM (kvs:List (κ × V))(k:κ):Option V:=(kvs.find? fun kv=>decide (kv.1=k)).map (·.2)
def kO (kvs:List (κ × V))(k:κ)(v:V):List (κ × V):=
 if (kvs.any fun kv=>decide (kv.1=k))=true then kvs.map (fun kv=>if kv.1=k then (kv.1,v) else kv) else kvs++[(k,v)]
theorem fQ {p:κ × V}(e:p.1=k):iM (p :: r) k=some p.2:=by simp[iM,find?_cons,e]
theorem eY {p:κ × V}(e:¬p.1=k):iM (p :: r) k=iM r k:=by simp[iM,find?_cons,e]
theorem qH (k:κ):∀kvs:List (κ × V),(kvs.any fun kv=>decide (kv.1=k))=(iM kvs k).isSome
 | []=>rfl
 |p :: r=>by
  rw[any_cons]
  by_cases e:p.1=k
  ·simp only[fQ e,decide_eq_true e,Bool.true_or,Option.isSome_some]
  ·rw[eY e,decide_eq_false e,Bool.false_or];exact qH k r
theorem Cr (k j:κ)(y:V):∀kvs:List (κ × V),iM (kvs.map fun kv=>if kv.1=k then (kv.1,y) else kv) j=(iM kvs j).map fun x=>if j=k then y else x
 | []=>rfl
 |p :: r=>by
  have ih:=Cr k j y r;rw[map_cons]
  by_cases h:p.1=k
  ·rw[if_pos h]
   by_cases e:p.1=j
   ·rw[fQ (p:=(p.1,y)) e,fQ e,Option.map_some,if_pos (e.symm.trans h)]
   ·rw[eY (p:=(p.1,y)) e,eY e,ih]
  ·rw[if_neg h]
   by_cases e:p.1=j
   ·rw[fQ (p:=p) e,fQ e,Option.map_some,if_neg (fun z=>h (e.trans z))]
   ·rw[eY (p:=p) e,eY e,ih]
theorem yB (k j:κ)(y:V):∀kvs:List (κ × V),iM kvs k=none->iM (kvs++[(k,y)]) j=if j=k then some y else iM kvs j
 | [],_=>by
  by_cases e:k=j
  ·rw[if_pos e.symm];exact fQ (p:=(k,y)) e
  ·rw[if_neg (fun z=>e z.symm)];exact eY (p:=(k,y)) e
 |p :: r,hn=>by
  rw[cons_append];have hk:¬p.1=k:=fun z=>by rw[fQ z] at hn;cases hn
  rw[eY hk] at hn;have ih:=yB k j y r hn
  by_cases e:p.1=j
  ·rw[fQ e,fQ e,if_neg (fun z=>hk (e.trans z))]
  ·rw[eY e,eY e,ih]
theorem Ti (kvs:List (κ × V))(k j:κ)(y:V):iM (kO kvs k y) j=if j=k then some y else iM kvs j:=by
 unfold kO
 by_cases a:(kvs.any fun kv=>decide (kv.1=k))=true
 ·rw[if_pos a,Cr];rw[qH] at a
  by_cases e:j=k
  ·obtain⟨x,hx⟩:=Option.isSome_iff_exists.mp a;rw[if_pos e,e,hx,Option.map_some,if_pos rfl]
  ·rw[if_neg e]
   cases iM kvs j with
   |none=>rfl
   |some x=>rw[Option.map_some,if_neg e]
 ·rw[if_neg a];refine yB k j y kvs ?_;rw[qH] at a
  cases q:iM kvs k with
  |none=>rfl
  |some x=>rw[q] at a;exact(a rfl).elim
theorem iL (kvs:List (κ × V))(k:κ)(v:V):(kO kvs k v).length<=kvs.length+1:=by
 unfold kO;split
 ·rw[length_map];lia
 ·rw[List.length_append,length_cons,length_nil];lia
theorem kF.isSome_eq (r:kF o u):o.isSome=u.isSome:=by
 cases o with
 |none=>cases u with
  |none=>rfl
  |some _=>exact(show False from r).elim
 |some _=>cases u with
  |none=>exact(show False from r).elim
  |some _=>rfl
theorem kF.getD (r:kF o u)(rd:cA d d'):cA (o.getD d) (u.getD d'):=by
 cases o with
 |none=>cases u with
  |none=>exact rd
  |some _=>exact(show False from r).elim
 |some _=>cases u with
  |none=>exact(show False from r).elim
  |some _=>exact r
theorem KV.val (r:KV kvs vs)(k:κ):kF (iM kvs k) (valueAt vs k):=by
 unfold KV at r
 induction r with
 |nil=>exact True.intro
 | @cons p q ps qs h t ih=>
  obtain⟨h1,h2⟩:=h
  by_cases e:p.1=k
  ·have e':q.1=k:=h1.symm.trans e;have b:valueAt (q :: qs) k=some q.2:=by simp[valueAt,find?_cons,e']
   rw[fQ e,b];exact h2
  ·have e':¬q.1=k:=fun z=>e (h1.trans z);have b:valueAt (q :: qs) k=valueAt qs k:=by simp[valueAt,find?_cons,e']
   rw[eY e,b];exact ih
theorem KV.any (r:KV kvs vs)(k:κ):(kvs.any fun kv=>decide (kv.1=k))=vs.any fun kv=>decide (kv.1=k):=by
 unfold KV at r
 induction r with
 |nil=>rfl
 |cons h t ih=>rw[any_cons,any_cons,ih,h.1]
theorem KV.repl (r:KV kvs vs)(k:κ)(ry:cA y u):
  KV (kvs.map fun kv=>if kv.1=k then (kv.1,y) else kv) (vs.map fun kv=>if kv.1=k then (kv.1,u) else kv):=by
 unfold KV at r ⊢
 induction r with
 |nil=>exact .nil
 | @cons p q ps qs h t ih=>
  rw[map_cons,map_cons];refine .cons ?_ ih;obtain⟨h1,h2⟩:=h
  by_cases e:p.1=k
  ·rw[if_pos e,if_pos (h1.symm.trans e)];exact⟨h1,ry⟩
  ·rw[if_neg e,if_neg (fun z=>e (h1.trans z))];exact⟨h1,h2⟩
theorem KV.put (r:KV kvs vs)(k:κ)(ry:cA y u):KV (kO kvs k y) (stored vs k u):=by
 unfold kO stored;rw[r.any k]
 by_cases e:(vs.any fun kv=>decide (kv.1=k))=true
 ·rw[if_pos e,if_pos e];exact r.repl k ry
 ·rw[if_neg e,if_neg e];exact Paired.snoc r ⟨rfl,ry⟩
theorem KV.length {kvs:List (κ × V)}(r:KV kvs vs):kvs.length=vs.length:=Paired.length r
end
theorem vI (r:cA (kV k) u):(dZ P w).is k u=true:=by
 cases k with
 |inl i=>obtain⟨t,e⟩:=(show ∃t,u=Value.int i t from r);subst e;exact Db P w i t
 |inr x=>obtain⟨t,e⟩:=(show ∃t,u=Value.str x t from r);subst e;exact Es P w x t
theorem zL:∀{ks:List Key} {us:List Value},bQ (ks.map kV) us->ItemsAre (dZ P w) ks us
 | [],_,r=>by rw[map_nil] at r;cases r;exact .nil
 |k :: ks,_,r=>by
  rw[map_cons] at r
  cases r with
  |cons h t=>exact .cons (vI h) (zL t)
abbrev KT (H:Hp):List (List Key × V)->List (List Key × Addr × Value)->Prop:=Paired fun p q=>p.1=q.1/\H q.2.1=some (.tup (p.1.map kV))/\cA p.2 q.2.2
theorem KT.val (r:KT H kvs xs)(k:List Key):kF (iM kvs k) ((atKey xs k).map (·.2)):=by
 induction r with
 |nil=>exact True.intro
 | @cons p q ps qs h t ih=>
  obtain⟨h1,_,h2⟩:=h
  by_cases e:p.1=k
  ·have e':q.1=k:=h1.symm.trans e;have b:atKey (q :: qs) k=some q.2:=by simp[atKey,find?_cons,e']
   rw[fQ e,b];exact h2
  ·have e':¬q.1=k:=fun z=>e (h1.trans z);have b:atKey (q :: qs) k=atKey qs k:=by simp[atKey,find?_cons,e']
   rw[eY e,b];exact ih
theorem KT.repl (r:KT H kvs xs)(k:List Key)(ry:cA y u):
  KT H (kvs.map fun kv=>if kv.1=k then (kv.1,y) else kv) (xs.map (putAt k u)):=by
 induction r with
 |nil=>exact .nil
 | @cons p q ps qs h t ih=>
  rw[map_cons,map_cons];refine .cons ?_ ih;obtain⟨h1,h2,h3⟩:=h;unfold putAt
  by_cases e:p.1=k
  ·rw[if_pos e,if_pos (h1.symm.trans e)];exact⟨h1,h2,ry⟩
  ·rw[if_neg e,if_neg (fun z=>e (h1.trans z))];exact⟨h1,h2,h3⟩
theorem KT.put (r:KT H kvs xs)(k:List Key)(hb:H b=some (.tup (k.map kV)))(ry:cA y u):
  KT H (kO kvs k y) (storedH xs k b u):=by
 have e:(kvs.any fun kv=>decide (kv.1=k))=(atKey xs k).isSome:=by
  rw[qH,(r.val k).isSome_eq,Option.isSome_map]
 unfold kO storedH;rw[e]
 by_cases q:(atKey xs k).isSome=true
 ·rw[if_pos q,if_pos q];exact r.repl k ry
 ·rw[if_neg q,if_neg q];exact Paired.snoc r ⟨rfl,hb,ry⟩
theorem KT.keeps (r:KT H kvs xs)(ht:∀b ys,H b=some (.tup ys)->H' b=some (.tup ys)):KT H' kvs xs:=
 Paired.mapP r fun _ _ z=>⟨z.1,ht _ _ z.2.1,z.2.2⟩
section
variable {P:Program} {w:World} {H:Hp} {h:Heap} {a:Addr}
theorem Xz (ok:HOk P w H h)(e:Rd H a u):cK P w H h a u:=e.ok ok
theorem uZ (ok:HOk P w H h)(e:Rd H a (.dK kvs)):kvs.length<=sizeLine/\(a == sysModules)=false/\∃vs,KV kvs vs/\h.DictOf (dZ P w) a vs:=
 show cK P w H h a (.dK kvs) from Xz ok e
theorem Yc (ok:HOk P w H h)(e:H a=some (.dK kvs)):kvs.length<=sizeLine/\(a == sysModules)=false/\∃vs,KV kvs vs/\h.DictOf (dZ P w) a vs:=uZ ok (.inl e)
theorem rE (ok:HOk P w H h)(e:H a=some (.tup (ks.map kV))):(tupleKind (dZ P w)).is h ks a:=by
 obtain⟨_,its,r,o,h1,h2,n,h3⟩:=(show cK P w H h a (.tup (ks.map kV)) from ok a _ e)
 exact⟨o,its.toArray,n,h1,h2,h3,by simpa using zL r⟩
theorem vQ (ok:HOk P w H h)(e:Rd H a (.dT kvs)):kvs.length<=sizeLine/\(a == sysModules)=false/\
  ∃xs,KT H kvs xs/\h.DictOfH (tupleKind (dZ P w)) a xs:=by
 obtain⟨z,y,xs,r,o,es,ep,h1,h2,h3,h4,h5⟩:=(show cK P w H h a (.dT kvs) from Xz ok e)
 refine⟨z,y,xs,r,o,es,ep,h1,h2,h3,h4,fun x hx=>?_,h5⟩;have all:∀{l:List (List Key × V)} {m:List (List Key × Addr × Value)},KT H l m->∀x∈m,(tupleKind (dZ P w)).is h x.1 x.2.1:=by
  intro l m q
  induction q with
  |nil=>intro x hx;exact nomatch hx
  | @cons p q ps qs hq t ih=>
   intro x hx;rcases mem_cons.mp hx with e | hx
   ·subst e;exact rE ok (by rw[<- hq.1];exact hq.2.1)
   ·exact ih x hx
 exact all r x hx
theorem qf9 (ok:HOk P w H h)(e:H a=some (.dT kvs)):kvs.length<=sizeLine/\(a == sysModules)=false/\
  ∃xs,KT H kvs xs/\h.DictOfH (tupleKind (dZ P w)) a xs:=vQ ok (.inl e)
end
def iR (H:Hp)(a:Addr)(y:V)(r:Option V):Prop:=
 (∃kvs k,Rd H a (.dK kvs)/\y=kV k/\r=iM kvs k)\/∃kvs k b,Rd H a (.dT kvs)/\y=.ref b/\H b=some (.tup (k.map kV))/\r=iM kvs k
def Ho (H:Hp)(a:Addr)(y v:V)(H':Hp):Prop:=
 (∃kvs k,H a=some (.dK kvs)/\y=kV k/\kvs.length < sizeLine/\H'=upd H a (.dK (kO kvs k v)))\/
 ∃kvs k b,H a=some (.dT kvs)/\y=.ref b/\H b=some (.tup (k.map kV))/\kvs.length < sizeLine/\H'=upd H a (.dT (kO kvs k v))
theorem iR.k {k:Key}(e:H a=some (.dK kvs)):iR H a (kV k) (iM kvs k):=.inl ⟨kvs,k,.inl e,rfl,rfl⟩
theorem Ho.k {k:Key}(e:H a=some (.dK kvs))(hl:kvs.length < sizeLine):Ho H a (kV k) v (upd H a (.dK (kO kvs k v))):=.inl ⟨kvs,k,e,rfl,hl,rfl⟩
section
variable {X:Cx} {pins:List (Addr × Obj)} {σ:St} {H:Hp} {s:Shared} {a:Addr} {y v:V} {u r:Value} {o:Option V} {A:Around} {E:Value->Shared->Prop}
theorem Inv.big (I:Inv X pins σ H s):sysModules < s.heap.objs.size:=by
 have h:mainGlobals < s.heap.objs.size:=(I.mod.glob.keeps I.bk).lt;exact Nat.lt_trans (by decide) h
theorem Lu (hu:A.units+1 < cLine)(I:Inv X pins σ H s)(g:iR H a y (some v))(ry:cA y u)(h:∀w' s',Inv X pins σ H s'->cA v w'->Q w' s'):
  wpAny (model X.prog X.w) A (getItem (.ref a) u) Q E s:=by
 rcases g with ⟨kvs,k,e,ey,l⟩ | ⟨kvs,k,b,e,ey,eb,l⟩
 ·subst ey;obtain⟨z,hd,vs,rel,dd⟩:=uZ I.hok e;obtain⟨w',hw,rw'⟩:=kF.some_of (v:=v) (o:=valueAt vs k) (by rw[l];exact rel.val k);exact wpAny_getItem_of (vI ry) dd.mapOf hw (h w' _ (I.tok _) rw')
 ·subst ey
  cases (show u=Value.ref b from ry)
  obtain⟨z,hd,xs,rel,dd⟩:=vQ I.hok e;obtain⟨w',hw,rw'⟩:=kF.some_of (v:=v) (o:=(atKey xs k).map (·.2)) (by rw[l];exact rel.val k);obtain⟨p,hp,hp2⟩:=Option.map_eq_some_iff.mp hw;refine wpAny_getItem_heap (tupleKind_room_in1 hu) (rE I.hok eb) dd hp ?_;rw[hp2];exact h w' _ (I.tok _) rw'
theorem qp0 (hu:A.units+1 < cLine)(I:Inv X pins σ H s)(g:iR H a y o)(ry:cA y u)(h:∀s',Inv X pins σ H s'->Q (.bool o.isSome) s'):
  wpAny (model X.prog X.w) A (compareOp .In u (.ref a)) Q E s:=by
 rcases g with ⟨kvs,k,e,ey,l⟩ | ⟨kvs,k,b,e,ey,eb,l⟩
 ·subst ey;obtain⟨z,hd,vs,rel,dd⟩:=uZ I.hok e;refine wpAny_in_of (vI ry) hd dd.mapOf ?_;rw[<- (rel.val k).isSome_eq,<- l];exact h _ (I.tok _)
 ·subst ey
  cases (show u=Value.ref b from ry)
  obtain⟨z,hd,xs,rel,dd⟩:=vQ I.hok e;refine wpAny_in_heap (tupleKind_room_in1 hu) (rE I.hok eb) hd dd ?_;have q:=(rel.val k).isSome_eq;rw[Option.isSome_map] at q;rw[<- q,<- l];exact h _ (I.tok _)
theorem Um (hu:A.units+1 < cLine)(I:Inv X pins σ H s)(g:iR H a y o)(ry:cA y u)(h:∀s',Inv X pins σ H s'->Q (.bool (!o.isSome)) s'):
  wpAny (model X.prog X.w) A (compareOp .NotIn u (.ref a)) Q E s:=by
 rcases g with ⟨kvs,k,e,ey,l⟩ | ⟨kvs,k,b,e,ey,eb,l⟩
 ·subst ey;obtain⟨z,hd,vs,rel,dd⟩:=uZ I.hok e;refine wpAny_notIn_of (vI ry) hd dd.mapOf ?_;rw[<- (rel.val k).isSome_eq,<- l];exact h _ (I.tok _)
 ·subst ey
  cases (show u=Value.ref b from ry)
  obtain⟨z,hd,xs,rel,dd⟩:=vQ I.hok e;refine wpAny_notIn_heap (tupleKind_room_in1 hu) (rE I.hok eb) hd dd ?_;have q:=(rel.val k).isSome_eq;rw[Option.isSome_map] at q;rw[<- q,<- l];exact h _ (I.tok _)
theorem zU (I:Inv X pins σ H s)(mu:Mut (H a))(hs:Heap.SameBut a s.heap h')(he:∃q,h'.get? a=some q)(new:cK X.prog X.w (upd H a ob) h' a ob):
  Inv X pins σ (upd H a ob) { s with heap:=h',toks:=t' }:=
 I.write (x:=a) (e:=a) mu (.inl rfl) (fun b q hb z=>(hs.2 b hb).trans z) he new
theorem Rv (z:kvs.length<=sizeLine)(hd:(a == sysModules)=false)(rel:KV kvs vs)(dd:h'.DictOf (dZ P w) a vs):
  cK P w H' h' a (.dK kvs):=⟨z,hd,vs,rel,dd⟩
theorem Lw (hu:A.units+1 < cLine)(I:Inv X pins σ H s)(g:Ho H a y v H')(ry:cA y u)(rv:cA v r)(h:∀s',Inv X pins σ H' s'->Q () s'):
  wpAny (model X.prog X.w) A (setItem (.ref a) u r) Q E s:=by
 rcases g with ⟨kvs,k,e,ey,l,eH⟩ | ⟨kvs,k,b,e,ey,eb,l,eH⟩
 ·subst ey eH;obtain⟨z,hd,vs,rel,dd⟩:=Yc I.hok e;have hz:vs.length<=sizeLine:=by rw[<- rel.length];exact z
  have hl:(kO kvs k v).length<=sizeLine:=by have:=iL kvs k v;lia
  refine wpAny_setItem_pairs (hsz:=hz) (vI ry) dd fun h' dd' hs=>h _ ?_;have he:∃q,h'.get? a=some q:=let ⟨q,_,_,hq,_⟩:=dd';⟨q,hq⟩
  exact zU I (by rw[e];exact True.intro) hs he (Rv hl hd (rel.put k rv) dd')
 ·subst ey eH
  cases (show u=Value.ref b from ry)
  obtain⟨z,hd,xs,rel,dd⟩:=qf9 I.hok e;have hz:xs.length<=sizeLine:=by rw[<- Paired.length rel];exact z
  have hl:(kO kvs k v).length<=sizeLine:=by have:=iL kvs k v;lia
  refine wpAny_setItem_heap (hsz:=hz) (tupleKind_room_in1 hu) (rE I.hok eb) dd fun h' dd' hs=>h _ ?_;obtain⟨q,es,ep,hq,h2,h3,h4,_,h5⟩:=dd';refine zU I (by rw[e];exact True.intro) hs ⟨q,hq⟩ ⟨hl,hd,_,(rel.put k eb rv).keeps fun c ys ec=>?_,q,es,ep,hq,h2,h3,h4,h5⟩;rw[aL (gL ec e (fun z=>nomatch z))];exact ec
end
def ql5 (i:Expr):Prop:=∀ov iv,subscripted i false ov iv=operate [ov,iv] (getItem ov iv)
theorem Uz {T id:String}(hl:typeLookup (.type T) "__getitem__"=pure (some (.builtin id)))(hs:ql5 slice)(h:wpAny (model prog w) A (eval value env) (fun o s₁=>wpAny (model prog w) A (eval slice env) (fun i s₂=>s₂.TypeIs o T/\wpAny (model prog w) A (getItem o i) Q E s₂) E s₁) E s):
  wpAny (model prog w) A (eval (.Subscript value slice pos) env) Q E s:=by
 refine Subscript_ (wpAny_mono h (fun o s₁ h₁=>wpAny_mono h₁ (fun i s₂ h₂=>?_) fun _ _ x=>x) fun _ _ x=>x);obtain⟨hT,h₂⟩:=h₂;unfold subscriptTail;refine wpAny_bind ?_;rw[getitemInPython_of_ne hT.not_modules];refine wpAny_bind (wpAny_specialOf hT hl ?_);have fin:wpAny (model prog w) A (subscripted slice false o i) (fun r s₃=>wpAny (model prog w) A (letTemporaryGo value o r >>= fun _=>pure r) Q E s₃) E s₂:=by
  rw[hs o i];exact wpAny_operating (wpAny_mono h₂ (fun r s₃ h₃=>wpAny_bind (wpAny_letTemporaryGo (wpAny_pure h₃))) fun _ _ x=>x)
 first
  |exact wpAny_pure (wpAny_bind fin)
  |exact wpAny_bind (wpAny_pure (wpAny_bind fin))
  |exact wpAny_bind fin
theorem Cq (I:Inv X pins σ H s)(g:iR H a y o):s.TypeIs (.ref a) "dict":=by
 rcases g with ⟨kvs,k,e,_,_⟩ | ⟨kvs,k,b,e,_,_,_⟩
 ·obtain⟨_,_,vs,_,dd⟩:=uZ I.hok e;exact dd.typeIs
 ·obtain⟨_,_,xs,_,dd⟩:=vQ I.hok e;exact dd.typeIs
def qi4 (td ty:TE):TE:=fun σ H Q=>td σ H fun x H1=>ty σ H1 fun y H2=>∃a v,x=.ref a/\iR H2 a y (some v)/\Q v H2
def qo1 (ty td:TE):TE:=fun σ H Q=>ty σ H fun y H1=>td σ H1 fun x H2=>∃a o,x=.ref a/\iR H2 a y o/\Q (.bl o.isSome) H2
def Xd (ty td:TE):TE:=fun σ H Q=>ty σ H fun y H1=>td σ H1 fun x H2=>∃a o,x=.ref a/\iR H2 a y o/\Q (.bl (!o.isSome)) H2
def qi9 (td ty tv:TE):TS:=fun D σ H=>tv σ H fun v H1=>td σ H1 fun x H2=>ty σ H2 fun y H3=>∃a H4,x=.ref a/\Ho H3 a y v H4/\D.nx σ H4
section
variable {X:Cx} {o i e value:Expr} {pos pos' tpos:Pos} {td ty tv:TE}
theorem qA (hu:X.A.units+1 < cLine)(ho:PE X o td)(hi:PE X i ty)(hs:ql5 i):PE X (.Subscript o i pos) (qi4 td ty):=by
 intro pins s σ H Q I h;refine Uz PySem.F.slot_dict_getitem.lookup hs (thn (ho pins s σ H _ I h) fun u s1 ⟨x,H1,I1,rx,q1⟩=>thn (hi pins s1 σ H1 _ I1 q1) fun iv s2 ⟨y,H2,I2,ry,a,v,ex,g,q2⟩=>?_);subst ex;obtain rfl:u=Value.ref a:=rx;exact⟨Cq I2 g,Lu hu I2 g ry fun w' s3 I3 rw'=>⟨v,H2,I3,rw',q2⟩⟩
theorem Zx (hu:X.A.units+1 < cLine)(hi:PE X i ty)(ho:PE X o td):PC X .In i o (qo1 ty td):=by
 intro pins s σ H Q I h;refine thn (hi pins s σ H _ I h) fun iv s1 ⟨y,H1,I1,ry,q1⟩=>thn (ho pins s1 σ H1 _ I1 q1) fun u s2 ⟨x,H2,I2,rx,a,ov,ex,g,q2⟩=>?_;subst ex;obtain rfl:u=Value.ref a:=rx;exact qp0 hu I2 g ry fun s3 I3=>⟨.bl ov.isSome,H2,I3,rfl,q2⟩
theorem Mh (hu:X.A.units+1 < cLine)(hi:PE X i ty)(ho:PE X o td):PC X .NotIn i o (Xd ty td):=by
 intro pins s σ H Q I h;refine thn (hi pins s σ H _ I h) fun iv s1 ⟨y,H1,I1,ry,q1⟩=>thn (ho pins s1 σ H1 _ I1 q1) fun u s2 ⟨x,H2,I2,rx,a,ov,ex,g,q2⟩=>?_;subst ex;obtain rfl:u=Value.ref a:=rx;exact Um hu I2 g ry fun s3 I3=>⟨.bl (!ov.isSome),H2,I3,rfl,q2⟩
theorem zZ (hu:X.A.units+1 < cLine)(ho:PE X o td)(hi:PE X i ty)(hv:PE X value tv)(hs:swapsWith value (some (.Subscript o i pos')) pos.line X.env=pure false) :
  PS X (.Assign [.Subscript o i pos'] value pos) (qi9 td ty tv):=by
 intro pins s σ H D I h;refine wpAny_Assign_Subscript (thn (hv pins s σ H _ I h) fun r s1 ⟨v,H1,I1,rv,q1⟩=>thn (ho pins s1 σ H1 _ I1 q1) fun u s2 ⟨x,H2,I2,rx,q2⟩=>thn (hi pins s2 σ H2 _ I2 q2) fun iv s3 ⟨y,H3,I3,ry,a,H4,ex,g,q3⟩=>?_) hs;subst ex;obtain rfl:u=Value.ref a:=rx;exact Lw hu I3 g ry rv fun s4 I4=>⟨σ,H4,I4,q3⟩
end
theorem Cu (h:Heap)(hb:sysModules < h.objs.size):cK P w H (h.push { cls:=.type "dict",data:=.dict #[] }) h.objs.size (.dK []):=
 ⟨Nat.zero_le _,beq_eq_false_iff_ne.mpr (Ne.symm (Nat.ne_of_lt hb)),[],.nil,Heap.DictOf.new h⟩
def Yj:TE:=fun _ H Q=>∀p,H p=none->Q (.ref p) (upd H p (.dK []))
section
variable {X:Cx} {pos:Pos}
theorem Ng:PE X (.Dict [] [] pos) Yj:=fun pins s σ H Q I h=>
 wpAny_Dict_empty ⟨.ref s.heap.objs.size,_,I.laid (a:=s.heap.objs.size) (o:=.dK []) (t':=s.toks) (fun _ _ q=>Heap.get?_push_of_some _ q) (Nat.le_refl _) (Cu s.heap I.big),rfl,h _ (I.hok.fresh (Nat.le_refl _))⟩
end
def Hv:List (TE × TE)->St->Hp->(List (V × V)->Hp->Prop)->Prop
 | [],_,H,Q=>Q [] H
 | (tk,tv) :: r,σ,H,Q=>tk σ H fun x H1=>tv σ H1 fun y H2=>Hv r σ H2 fun ps H3=>Q ((x,y) :: ps) H3
abbrev VV:List (V × V)->List (Value × Value)->Prop:=Paired fun p q=>cA p.1 q.1/\cA p.2 q.2
def PPs (X:Cx)(pos:Pos)(keys:List (Option Expr))(values:List Expr)(trs:List (TE × TE)):Prop:=
 ∀(pins:List (Addr × Obj)) (s:Shared) (σ:St) (H:Hp) (Q:List (V × V)->Hp->Prop),Inv X pins σ H s->Hv trs σ H Q->
  wpAny (model X.prog X.w) X.A (evalPairs (pairTrees keys values X.env pos)) (fun vs s'=>∃ps H',Inv X pins σ H' s'/\VV ps vs/\Q ps H') X.xe s
theorem Jz:PPs X pos [] [] []:=fun pins s σ H Q I h=>pairTrees_nil_walk ⟨[],H,I,.nil,h⟩
theorem mL (hk:PE X k tk)(hv:PE X v tv)(hr:PPs X pos ks vs trs):
  PPs X pos (some k :: ks) (v :: vs) ((tk,tv) :: trs):=fun pins s σ H Q I h=>
 pairTrees_cons_walk (thn (hk pins s σ H _ I h) fun u s1 ⟨x,H1,I1,rx,q1⟩=>thn (hv pins s1 σ H1 _ I1 q1) fun w2 s2 ⟨y,H2,I2,ry,q2⟩=>
  thn (hr pins s2 σ H2 _ I2 q2) fun ws s3 ⟨ps,H3,I3,rel,q3⟩=>⟨(x,y) :: ps,H3,I3,.cons ⟨rx,ry⟩ rel,q3⟩)
def kE (kvs more:List (Key × V)):List (Key × V):=more.foldl (fun acc kv=>kO acc kv.1 kv.2) kvs
theorem KV.merge:∀{more:List (Key × V)} {rs:List (Key × Value)} {kvs:List (Key × V)} {vs:List (Key × Value)},KV more rs->KV kvs vs->KV (kE kvs more) (merged vs rs):=by
 intro more rs kvs vs r;unfold KV at r
 induction r generalizing kvs vs with
 |nil=>intro q;exact q
 | @cons p q ps qs h t ih=>
  intro r0;have e:KV (kO kvs p.1 p.2) (stored vs q.1 q.2):=by
   have:=r0.put p.1 h.2;rw[<- h.1];exact this
  exact ih e
theorem oI:∀(more kvs:List (Key × V)),(kE kvs more).length<=kvs.length+more.length
 | [],kvs=>by show kvs.length<=kvs.length+0;lia
 |p :: r,kvs=>by
  have h1:=oI r (kO kvs p.1 p.2);have h2:=iL kvs p.1 p.2;show (kE (kO kvs p.1 p.2) r).length<=_;rw[length_cons];lia
theorem vX:∀{kvs:List (Key × V)} {ws:List (Value × Value)},VV (kvs.map fun kv=>(kV kv.1,kv.2)) ws->∃rs,Carries (dZ P w) ws rs/\KV kvs rs
 | [],_,r=>by rw[map_nil] at r;cases r;exact⟨[],True.intro,.nil⟩
 |p :: kvs,_,r=>by
  rw[map_cons] at r
  cases r with
  | @cons a b as bs h t=>
   obtain⟨rs,c,q⟩:=vX (P:=P) (w:=w) t;obtain⟨b1,b2⟩:=b;exact⟨(p.1,b2) :: rs,⟨vI h.1,rfl,c⟩,.cons ⟨rfl,h.2⟩ q⟩
def qf1 (trs:List (TE × TE)):TE:=fun σ H Q=>∀p,H p=none->Hv trs σ (upd H p (.dK [])) fun ps H2=>H2 p=some (.dK [])/\∃kvs:List (Key × V),ps=kvs.map (fun kv=>(kV kv.1,kv.2))/\kvs.length<=15/\Q (.ref p) (upd H2 p (.dK (kE [] kvs)))
theorem Ju (h:PPs X pos keys values trs)(hall:keys.all (·.isSome)=true)(hl:keys.length=values.length)(h0:keys≠[])(h15:keys.length<=15):PE X (.Dict keys values pos) (qf1 trs):=by
 intro pins s σ H Q I q;have hn:=I.hok.fresh (Nat.le_refl s.heap.objs.size);have I1:=I.laid (a:=s.heap.objs.size) (o:=.dK []) (h':=s.heap.push { cls:=.type "dict",data:=.dict #[] }) (t':=s.toks) (fun _ _ q=>Heap.get?_push_of_some _ q) (Nat.le_refl _) (Cu s.heap I.big);refine wpAny_Dict_walk (knd:=dZ X.prog X.w) hall hl h0 h15 (thn (h pins _ σ _ _ I1 (q _ hn)) fun ws s2 ⟨ps,H2,I2,rel,e,kvs,ep,lk,q2⟩=>?_);subst ep;obtain⟨rs,c,rk⟩:=vX (P:=X.prog) (w:=X.w) rel;obtain⟨z,hd,vs0,r0,dd⟩:=Yc I2.hok e
 cases r0
 refine⟨rs,c,dd,fun h' dd' hs=>⟨.ref s.heap.objs.size,_,?_,rfl,q2⟩⟩;have hz:(kE [] kvs).length<=sizeLine:=by
  have h1:=oI kvs [];rw[length_nil] at h1;rw[sizeLine_eq];lia
 have he:∃q,h'.get? s.heap.objs.size=some q:=let ⟨q,_,_,hq,_⟩:=dd';⟨q,hq⟩
 exact zU I2 (by rw[e];exact True.intro) hs he (Rv hz hd (rk.merge .nil) dd')
structure M1 (X:Cx) (o:Expr) (m:Str) (apos:Pos) (e:Expr) (cpos:Pos):Prop where
 base:attributeBase o m X.env (eval o X.env)=eval o X.env
 few:((backTo cpos (starEach [e] X.env)).all (fun x=>!x.1) && (backToKw cpos (keywordEach [] X.env)).all (fun x=>x.1.isSome)
  && decide (([e]:List Expr).length+([]:List Keyword).length+(if ([]:List Keyword).isEmpty then 0 else 1) < 30))=true
 line:(apos.endLine == cpos.line)=true
 trees:backTo cpos (starEach [e] X.env)=[(false,eval e X.env)]
def IsD (H:Hp)(a:Addr):Prop:=(∃kvs,Rd H a (.dK kvs))\/∃kvs,Rd H a (.dT kvs)
theorem Yw (I:Inv X pins σ H s)(d:IsD H a):
  s.TypeIs (.ref a) "dict"/\(∀b,Value.ref a=.ref b->∃ob,s.heap.get? b=some ob/\ob.dict=none)/\(a == sysModules)=false:=by
 rcases d with ⟨kvs,e⟩ | ⟨kvs,e⟩
 ·obtain⟨_,hd,vs,_,dd⟩:=uZ I.hok e;refine⟨dd.typeIs,fun b q=>?_,hd⟩
  cases q
  obtain⟨ob,_,_,h1,h2,_⟩:=dd;exact⟨ob,h1,h2.2.1⟩
 ·obtain⟨_,hd,xs,_,dd⟩:=vQ I.hok e;refine⟨dd.typeIs,fun b q=>?_,hd⟩
  cases q
  obtain⟨ob,_,_,h1,h2,_⟩:=dd;exact⟨ob,h1,h2.2.1⟩
section
variable {X:Cx} {pins:List (Addr × Obj)} {σ:St} {H:Hp} {s:Shared} {a:Addr} {y d:V} {u r:Value} {o:Option V} {A:Around} {E:Value->Shared->Prop}
theorem qa0 (hu:A.units+1 < cLine)(I:Inv X pins σ H s)(g:iR H a y o)(ry:cA y u)(h:∀w' s',Inv X pins σ H s'->cA (o.getD .non) w'->Q w' s'):
  wpAny (model X.prog X.w) A (call (.builtin "dict.get") [.ref a,u]) Q E s:=by
 rcases g with ⟨kvs,k,e,ey,l⟩ | ⟨kvs,k,b,e,ey,eb,l⟩
 ·subst ey;obtain⟨z,hd,vs,rel,dd⟩:=uZ I.hok e;refine call_meetsIn PySem.F.slot_dict_get dd.typeIs PySem.F.entry_dict_get (PySem.F.args_dict_get_2 _ _) (meets_dict_get (dZ X.prog X.w) a (vI ry) hd) ⟨_,dd.mapOf,h _ _ (I.tok _) ?_⟩;rw[l];exact(rel.val k).getD rfl
 ·subst ey
  cases (show u=Value.ref b from ry)
  obtain⟨z,hd,xs,rel,dd⟩:=vQ I.hok e;refine call_meetsIn PySem.F.slot_dict_get dd.typeIs PySem.F.entry_dict_get (PySem.F.args_dict_get_2 _ _) (meetsH_dict_get (tupleKind (dZ X.prog X.w)) a b hd) ⟨tupleKind_room_in1 hu,k,xs,rE I.hok eb,dd,h _ _ (I.tok _) ?_⟩;rw[l];exact(rel.val k).getD rfl
end
def Zi (td ty:TE):TE:=fun σ H Q=>td σ H fun x H1=>∃a,x=.ref a/\IsD H1 a/\ty σ H1 fun y H2=>∃o,iR H2 a y o/\Q (o.getD .non) H2
section
variable {X:Cx} {o e f:Expr} {apos cpos:Pos} {td ty tx:TE}
theorem Nq (hu:X.A.units+1 < cLine)(ho:PE X o td)(he:PE X e ty)(m:M1 X o "get" apos e cpos):PE X (.Call (.Attribute o "get" apos) [e] [] cpos) (Zi td ty):=by
 intro pins s σ H Q I h;refine wpAny_Call_method m.base m.few m.line PySem.F.plainAttrs_dict PySem.F.slot_dict_get PySem.F.type_dict_get (thn (ho pins s σ H _ I h) fun u s1 ⟨x,H1,I1,rx,a,ex,d,q1⟩=>?_);subst ex;obtain rfl:u=Value.ref a:=rx;obtain⟨t1,t2,_⟩:=Yw I1 d;refine⟨t1,t2,?_⟩;rw[m.trees];refine Calls.callWith_builtin rfl (Calls.evalArgs_plain (Calls.spliced_cons (thn (he pins s1 σ H1 _ I1 q1) fun iv s2 ⟨y,H2,I2,ry,ov,g,q2⟩=>Calls.spliced_nil ?_)));exact qa0 hu I2 g ry fun w' s3 I3 rw'=>⟨_,H2,I3,rw',q2⟩
end
def Ly:Kd->Q2->Q2->Q2->Q2
 | .pc,u,_,p=>rZ u p
 | .pu,_,_,p=>p
 | .ho,_,v,_=>v
theorem vL:∀ns:List Int,PyData.depthAll (ns.map PyData.int)<=1
 | []=>by simp[PyData.depthAll]
 |n :: r=>by
  have b:=vL r;simp only[map_cons,PyData.depthAll,PyData.depth];assumption
theorem Ot {K:Frag}{ns:List Int}(h1:SqL K H a (ns.map V.int))(h2:SqL K H b (ns.map V.int))(z:Q (.bl (!neg)) H):xH K neg (.ref a) (.ref b) H Q:=
 Bu (d:=.list (ns.map PyData.int)) (.lst h1 (uS ns)) (.lst h2 (uS ns)) (Dh ns) (by have:=vL ns;simp only[PyData.depth];lia) z
theorem Fq.mod {K:Frag}(l:K.lookup a=some ⟨.type "tuple",d,.seq #[.int i t,.int j u] n,sl⟩)(H:Hp):Fq K H a (i,j):=
 .inr ⟨_,_,_,l,rfl,rfl,(zl9 2),.cons ⟨_,rfl⟩ (.cons ⟨_,rfl⟩ .nil)⟩
abbrev RD:=Kd × Int × Int × Q2
inductive Rts (K:Frag) (H:Hp):List V->List RD->Prop where
 |nil:Rts K H [] []
 |cons {t z:Addr} {k:Kd} {i j:Int} {p:Q2} {xs:List V} {ds:List RD} (h:SqT K H t [.str k.wd,.int i,.int j,.ref z]) (f:Fq K H z p) (q:Rts K H xs ds):Rts K H (.ref t :: xs) ((k,i,j,p) :: ds)
section
variable {K:Frag} {H H':Hp}
theorem Rts.same (e:aW H H'):∀{xs:List V} {ds:List RD},Rts K H xs ds->Rts K H' xs ds
 |_,_,.nil=>.nil
 |_,_,.cons h f q=>.cons (e.seqT h) (e.fq f) (Rts.same e q)
theorem Rts.length:∀{xs:List V} {ds:List RD},Rts K H xs ds->xs.length=ds.length
 |_,_,.nil=>rfl
 |_,_,.cons _ _ q=>by simp[Rts.length q]
theorem Rts.app:∀{xs ys:List V} {ds es:List RD},Rts K H xs ds->Rts K H ys es->Rts K H (xs++ys) (ds++es)
 |_,_,_,_,.nil,r=>r
 |_,_,_,_,.cons h f q,r=>.cons h f (Rts.app q r)
theorem Rts.at:∀{xs:List V} {ds:List RD} {q:Nat} {d:RD},Rts K H xs ds->ds[q]?=some d->∃t z,xs[q]?=some (.ref t)/\SqT K H t [.str d.1.wd,.int d.2.1,.int d.2.2.1,.ref z]/\Fq K H z d.2.2.2
 |_,_,_,_,.nil,h=>by simp at h
 |_,_,0,_,.cons h f _,e=>by simp at e;subst e;exact⟨_,_,rfl,h,f⟩
 |_,_,i+1,_,.cons _ _ q,e=>by simpa using Rts.at q (by simpa using e)
theorem Rts.upd (hl:H l=some (.lst ys)):∀{xs:List V} {ds:List RD},Rts K H xs ds->Rts K (L2.upd H l o) xs ds
 |_,_,.nil=>.nil
 |_,_,.cons h f q=>.cons (h.upd hl) (f.upd hl) (Rts.upd hl q)
def rdd (d:RD):PyData:=rd4 d.1.wd d.2.1 d.2.2.1 d.2.2.2
theorem Rts.dat:∀{xs:List V} {ds:List RD},Rts K H xs ds->pG K H xs (ds.map rdd)
 |_,_,.nil=>.nil
 |_,_,.cons h f q=>.cons (Vo h f) (Rts.dat q)
theorem Eh:∀ds:List RD,PyData.canLayAll0 (ds.map rdd)=true
 | []=>rfl
 |d :: r=>by
  show ((rdd d).canLay0 && PyData.canLayAll0 (r.map rdd))=true;rw[Eh r,show (rdd d).canLay0=true from Us (Kd.lay _) _ _ _];rfl
theorem wI:∀ds:List RD,PyData.depthAll (ds.map rdd)<=3
 | []=>by simp[PyData.depthAll]
 |d :: r=>by
  have b:=wI r;have a:(rdd d).depth<=3:=by simp[rdd,rd4,qd,PyData.depth,PyData.depthAll]
  simp only[map_cons,PyData.depthAll];lia
theorem Sf (h1:SqL K H a xs)(h2:SqL K H b ys)(f1:Rts K H xs ds)(f2:Rts K H ys ds)(z:Q (.bl (!neg)) H):xH K neg (.ref a) (.ref b) H Q:=
 Bu (d:=.list (ds.map rdd)) (.lst h1 f1.dat) (.lst h2 f2.dat) (Eh ds) (by have:=wI ds;simp only[PyData.depth];lia) z
end
def cV (l:Addr)(H H':Hp):Prop:=∀b o,H b=some o->b≠l->H' b=some o
theorem aW.x (s:aW H H'):cV l H H':=fun b o h _=>s b o h
theorem cV.write (a:cV l H H1):cV l H (upd H1 l o):=fun c u h n=>by rw[aL n];exact a c u h n
section
variable {K:Frag} {H H':Hp} {l:Addr}
theorem cV.seqT (hl:H l=some (.lst ys))(e:cV l H H')(h:SqT K H a xs):SqT K H' a xs:=by
 rcases h with (h | ⟨u,h⟩) | h
 ·exact .inl (.inl (e _ _ h (gL h hl (fun z=>by cases z))))
 ·exact .inl (.inr ⟨u,e _ _ h (gL h hl (fun z=>by cases z))⟩)
 ·exact .inr h
theorem cV.rts (hl:H l=some (.lst ys))(e:cV l H H'):∀{xs:List V} {ds:List RD},Rts K H xs ds->Rts K H' xs ds
 |_,_,.nil=>.nil
 |_,_,.cons h f q=>.cons (e.seqT hl h) (e.seqT hl f) (cV.rts hl e q)
end
theorem fpk:¬(("point_count":Str) = "kept"):=by decide +kernel
def oH (m:Int)(l:Addr):List (Str × V):=fD "kept" (.ref l) (fD "point_count" (.int m) [])
theorem Dw (m:Int)(l:Addr):(oH m l).lookup ("point_count":Str)=some (.int m):=by
 unfold oH;rw[bN,if_neg fpk,bN,if_pos rfl]
theorem jH (m:Int)(l:Addr):(oH m l).lookup ("kept":Str)=some (.ref l):=by
 unfold oH;rw[bN,if_pos rfl]
theorem fP (m:Int)(l:Addr){x:Str}(h1:¬x = "point_count")(h2:¬x = "kept"):(oH m l).lookup x=none:=by
 unfold oH;rw[bN,if_neg h2,bN,if_neg h1];rfl
def Cp (m:Int)(d:RD):Prop:=0<=d.2.1/\d.2.1 < m/\0<=d.2.2.1/\d.2.2.1 < m/\Low d.2.2.2/\(d.1=.pc->0 < d.2.2.2.1)/\Bd 1000 d.2.2.2
structure dE (CN:Addr) (K:Frag) (H:Hp) (n l:Addr) (m:Int) (ds:List RD):Prop where
 ob:∃dx,H n=some (.ins CN dx (oH m l))
 ls:∃ts,H l=some (.lst ts)/\Rts K H ts ds
theorem dE.same {K:Frag}(e:aW H H')(h:dE CN K H n l m ds):dE CN K H' n l m ds:=
 let ⟨⟨dx,a⟩,ts,b,c⟩:=h;⟨⟨dx,e _ _ a⟩,ts,e _ _ b,c.same e⟩
structure NT (K:Frag) (mg:Str->Option Value) (CN:Addr):Prop where
 cl:Cls K CN
 nP:gX K CN "point_count"
 nK:gX K CN "kept"
 t1:W.findIn K (.ref CN) "__class__"=some (some (.builtin "object.__class__"))
 t2:W.specialIn K (.builtin "object.__class__") "__get__"=some (some (.builtin "getset_descriptor.__get__"))
 t3:W.takesIn K (.builtin "object.__class__")=some true
 t4:W.mroIn K CN (.type "object")=some true
 mN:mg "Net"=some (.ref CN)
def pY (K:Frag)(CK:Kd->Addr):Sp:=fun vs H Q _=>∃(t:Addr) (v s g z:V),vs=[.ref t]/\SqT K H t [v,s,g,z]/\∃k:Kd,v=.str k.wd/\qm7 CK H Q k s g z
def Rq (K:Frag):Sp:=fun vs H Q _=>∃(a:Addr) (p:Q2),vs=[.ref a]/\Fq K H a p/\Low p/\Q (.bl true) H
def qk3 (K:Frag):Sp:=fun vs H Q _=>∃(a:Addr) (p:Q2) (n:Nat),vs=[.ref a]/\Fq K H a p/\Low p/\0 < p.1/\Bd n p/\n<=8000/\Q (.bl true) H
def qj2 (K:Frag):Sp:=fun vs H Q _=>∃(k:Kd) (z:Addr) (p:Q2),vs=[.str k.wd,.ref z]/\Fq K H z p/\Low p/\(k=.pc->0 < p.1)/\Bd 1000 p/\Q .non H
def Je (CN:Addr):Sp:=fun vs H Q _=>∃(n dx:Addr) (m:Int),vs=[.ref n,.int m]/\H n=some (.ins CN dx [])/\1<=m/\m<=20/\∀l H',H l=none->(∀b o,H b=some o->b≠n->H' b=some o)->H' n=some (.ins CN dx (oH m l))->H' l=some (.lst [])->Q .non H'
def Ab (CN:Addr)(K:Frag):Sp:=fun vs H Q _=>∃(n l:Addr) (m:Int) (ds:List RD),vs=[.ref n]/\dE CN K H n l m ds/\Q (.int m) H
def Ac (CN:Addr)(K:Frag):Sp:=fun vs H Q _=>∃(n l:Addr) (m:Int) (ds:List RD),vs=[.ref n]/\dE CN K H n l m ds/\∀a ts H',aW H H'->H a=none->H' a=some (.lst ts)->Rts K H' ts ds->Q (.ref a) H'
def Od (CN:Addr)(K:Frag)(CK:Kd->Addr):Sp:=fun vs H Q _=>∃(n l x z:Addr) (m:Int) (ds:List RD) (k:Kd) (i j:Int) (p:Q2),vs=[.ref n,.ref x]/\dE CN K H n l m ds/\Rw CK H x k (.int i) (.int j) (.ref z)/\Fq K H z p/\Cp m (k,i,j,p)/\ds.length < 40/\
 ∀H',cV l H H'->dE CN K H' n l m (ds++[(k,i,j,p)])->Q (.int ds.length) H'
theorem vK (P:St->Hp->Prop)(h1:∀X:St->Hp->Prop,(∀σ' H',P σ' H'->X σ' H')->(a1) { D with nx:=X } σ H)(h2:∀σ' H',P σ' H'->u D σ' H'):(gJ a1 (u)) D σ H:=h1 _ h2
theorem Sc (P:St->Hp->Prop)(h1:∀X:St->Hp->Prop,(∀σ' H',P σ' H'->X σ' H')->(gJ a1 (a2)) { D with nx:=X } σ H)(h2:∀σ' H',P σ' H'->u D σ' H'):(gJ a1 (gJ a2 (u))) D σ H:=h1 _ h2
theorem qi2 (P:St->Hp->Prop)(h1:∀X:St->Hp->Prop,(∀σ' H',P σ' H'->X σ' H')->(gJ a1 (gJ a2 (a3))) { D with nx:=X } σ H)(h2:∀σ' H',P σ' H'->u D σ' H'):(gJ a1 (gJ a2 (gJ a3 (u)))) D σ H:=h1 _ h2
theorem qk5 (P:St->Hp->Prop)(h1:∀X:St->Hp->Prop,(∀σ' H',P σ' H'->X σ' H')->(gJ a1 (gJ a2 (gJ a3 (a4)))) { D with nx:=X } σ H)(h2:∀σ' H',P σ' H'->u D σ' H'):(gJ a1 (gJ a2 (gJ a3 (gJ a4 (u))))) D σ H:=h1 _ h2
theorem qm5 (P:St->Hp->Prop)(h1:∀X:St->Hp->Prop,(∀σ' H',P σ' H'->X σ' H')->(gJ a1 (gJ a2 (gJ a3 (gJ a4 (a5))))) { D with nx:=X } σ H)(h2:∀σ' H',P σ' H'->u D σ' H'):(gJ a1 (gJ a2 (gJ a3 (gJ a4 (gJ a5 (u)))))) D σ H:=h1 _ h2
end L2
namespace Mq
def val (p:Q2):Rat:=(p.1:Rat) / (p.2:Rat)
theorem dP {b:Int}(h:b≠0):(b:Rat)≠0:=fun e=>h (Rat.intCast_inj.mp (by simpa using e))
theorem Hm {p:Q2}(hp:p.2≠0)(hb:b≠0)(h:p.1*b=t*p.2):val p=(t:Rat) / (b:Rat):=by
 unfold val;have h1:=dP hp;have h2:=dP hb;have h3:(p.1:Rat)*(b:Rat)=(t:Rat)*(p.2:Rat):=by rw[<- Rat.intCast_mul,<- Rat.intCast_mul,h]
 grind
theorem iY (hb:b≠0):val (red t b)=(t:Rat) / (b:Rat):=by
 have:=(gK (t:=t) hb).pos;exact Hm (by lia) hb (yE hb)
theorem Xi (hp:Low p)(hq:Low q)(h:val p=val q):p=q:=by
 refine Qv hp hq ?_;have p1:=dP (show p.2≠0 by have:=hp.pos;lia);have q1:=dP (show q.2≠0 by have:=hq.pos;lia);unfold val at h;have:(p.1:Rat)*(q.2:Rat)=(q.1:Rat)*(p.2:Rat):=by grind
 rw[<- Rat.intCast_mul,<- Rat.intCast_mul] at this;exact Rat.intCast_inj.mp this
theorem wF (hp:1<=p.2)(hq:1<=q.2):val (lW p q)=val p+val q:=by
 have p1:=dP (by lia:p.2≠0);have q1:=dP (by lia:q.2≠0);unfold lW;rw[iY (iQ hp hq),Rat.intCast_add,Rat.intCast_mul,Rat.intCast_mul,Rat.intCast_mul];unfold val;grind
theorem zM (hp:1<=p.2)(hq:1<=q.2):val (minus p q)=val p - val q:=by
 have p1:=dP (by lia:p.2≠0);have q1:=dP (by lia:q.2≠0);unfold minus;rw[iY (iQ hp hq),Rat.intCast_sub,Rat.intCast_mul,Rat.intCast_mul,Rat.intCast_mul];unfold val;grind
theorem Lp (hp:1<=p.2)(hq:1<=q.2):val (sY p q)=val p*val q:=by
 have p1:=dP (by lia:p.2≠0);have q1:=dP (by lia:q.2≠0);unfold sY;rw[iY (iQ hp hq),Rat.intCast_mul,Rat.intCast_mul];unfold val;grind
theorem Oq (hp:1<=p.2)(hq:1<=q.2)(h0:q.1≠0):val (rZ p q)=val p / val q:=by
 have p1:=dP (by lia:p.2≠0);have q1:=dP (by lia:q.2≠0);have q2:=dP h0;unfold rZ;rw[iY (uF hp h0),Rat.intCast_mul,Rat.intCast_mul];unfold val;grind
theorem Jr:val (0,1)=0:=by unfold val;simp;grind
theorem Xv:val (1,1)=1:=by unfold val;simp;grind
structure Ps (p:Q2):Prop where
 low:Low p
 pos:0 < p.1
theorem Tn (ht:0 < t)(hb:0 < b):0 < (red t b).1:=by
 have h1:=yE (t:=t) (b:=b) (by lia);have h2:=(gK (t:=t) (b:=b) (by lia)).pos;have h3:0 < t*(red t b).2:=Int.mul_pos ht (by assumption);rw[<- h1] at h3;exact Int.pos_of_mul_pos_left h3 (by assumption)
theorem qc6 (ht:0 < t)(hb:0 < b):Ps (red t b):=⟨gK (by lia),Tn ht hb⟩
def iS:List Rat->Rat
 | []=>0
 |x :: l=>x+iS l
theorem yD:∀{l:List Q2} {p:Q2},1<=p.2->Pos l->val (l.foldl lW p)=val p+iS (l.map val)
 | [],p,_,_=>by simp[iS];grind
 |q :: l,p,hp,h=>by
  have hq:=h q (by simp);rw[foldl_cons,yD (mX hp hq).pos (fun f hf=>h f (mem_cons_of_mem _ hf)),wF hp hq];simp only[map_cons,iS];grind
theorem Ut (h:Pos l):val (tot l)=iS (l.map val):=by
 unfold tot;rw[yD (by decide) h,Jr];grind
def rs (n:Nat)(F:Nat->Rat):Rat:=match n with
 |0=>0
 |n+1=>rs n F+F n
theorem aT {F G:Nat->Rat}(h:∀i,i < n->F i=G i):rs n F=rs n G:=by
 induction n with
 |zero=>rfl
 |succ n ih=>simp only[rs];rw[ih (fun i hi=>h i (by lia)),h n (by lia)]
theorem fI (n:Nat)(F G:Nat->Rat):rs n (fun i=>F i+G i)=rs n F+rs n G:=by
 induction n with
 |zero=>simp[rs];grind
 |succ n ih=>simp only[rs];rw[ih];grind
theorem fV (n:Nat)(c:Rat)(F:Nat->Rat):rs n (fun i=>c*F i)=c*rs n F:=by
 induction n with
 |zero=>simp[rs]
 |succ n ih=>simp only[rs];rw[ih];grind
theorem rX (n:Nat)(F:Nat->Rat):rs n (fun i=>- F i)=- rs n F:=by
 induction n with
 |zero=>simp[rs]
 |succ n ih=>simp only[rs];rw[ih];grind
theorem eE (n:Nat):rs n (fun _=>0)=0:=by
 induction n with
 |zero=>rfl
 |succ n ih=>simp only[rs];rw[ih];grind
theorem Fu (n k:Nat)(F:Nat->Rat):rs n (fun i=>if k=i then F i else 0)=if k < n then F k else 0:=by
 induction n with
 |zero=>simp[rs]
 |succ n ih=>
  simp only[rs];rw[ih]
  by_cases h1:k < n
  ·rw[if_pos h1,if_neg (by lia),if_pos (by lia)];grind
  ·by_cases h2:k=n
   ·subst h2;rw[if_neg h1,if_pos rfl,if_pos (by lia)];grind
   ·rw[if_neg h1,if_neg h2,if_neg (by lia)];grind
abbrev z0:Q2:=(0,1)
abbrev Row:=Nat × Nat × Q2
theorem oW.pos (h:oW ls):Pos ls:=fun p hp=>(h p hp).pos
def oU (L b:Int):Int:=Int.fdiv L (gc L b)*b
theorem oK (hL:1<=L)(hb:1<=b):1<=oU L b/\(∃j,oU L b=L*j)/\(∃k,oU L b=k*b/\1<=k)/\oU L b<=L*b:=by
 have gp:0 < gc L b:=vH (by lia);have d1:gc L b ∣ L:=by unfold gc;exact Int.gcd_dvd_left ..
 have d2:gc L b ∣ b:=by unfold gc;exact Int.gcd_dvd_right ..
 obtain⟨k,hk⟩:=d1;obtain⟨j,hj⟩:=d2;have ek:Int.fdiv L (gc L b)=k:=gD (by lia) hk;have k1:1<=k:=by
  have:0 < gc L b*k:=by lia
  have:=Int.pos_of_mul_pos_right this (by assumption);assumption
 unfold oU;rw[ek];refine⟨?_,⟨j,?_⟩,⟨k,rfl,k1⟩,?_⟩
 ·have:0 < k*b:=Int.mul_pos (by assumption) (by assumption);assumption
 ·generalize gc L b=g at *
  rw[hk,hj];grind
 ·have:k<=L:=by
   rw[hk];have:=Int.mul_le_mul_of_nonneg_right (by assumption:1<=gc L b) (by lia:0<=k);lia
  exact Int.mul_le_mul_of_nonneg_right this (by lia)
def dX (ps:List Q2):Int:=ps.foldl (fun L p=>oU L p.2) 1
theorem Lm (ps:List Q2)(p:Q2):dX (ps++[p])=oU (dX ps) p.2:=by unfold dX;rw[foldl_append];rfl
theorem nH {ps:List Q2}(h:ps[i]?=some p):dX (ps.take (i+1))=oU (dX (ps.take i)) p.2:=by
 rw[take_add_one,h];exact Lm _ _
theorem oY (hp:Pos ps)(hb:∀p∈ps,Bd n p):∀i,i<=ps.length->1<=dX (ps.take i)/\B (1+n*i) (dX (ps.take i))/\∀p∈ps.take i,∃k,dX (ps.take i)=k*p.2
 |0,_=>⟨by show (1:Int)<=1;decide,show (1:Nat) < 2 ^ (1+n*0) by simp,fun p h=>by simp at h⟩
 |i+1,hi=>by
  obtain⟨h1,h2,h3⟩:=oY hp hb i (by lia);have e:ps[i]?=some ps[i]:=getElem?_eq_getElem (by assumption);have mem:ps[i]∈ps:=getElem_mem _;rw[nH e];obtain⟨l1,⟨j,l2⟩,⟨k,l3,l4⟩,l5⟩:=oK h1 (hp _ mem);refine⟨l1,?_,fun p hpp=>?_⟩
  ·have:=h2.mul (hb _ mem).b;refine B.mono (n:=1+n*i+n) (this.le ?_) (by rw[Nat.mul_succ];lia);have h0:1<=ps[i].2:=hp _ mem;have:0<=dX (ps.take i)*ps[i].2:=Int.mul_nonneg (by lia) (by lia);lia
  ·rw[take_add_one,e] at hpp;rcases mem_append.mp hpp with z | z
   ·obtain⟨q,hq⟩:=h3 p z;exact⟨q*j,by rw[l2,hq];grind⟩
   ·have:p=ps[i]:=by simpa using z
    rw[this];exact⟨k,l3⟩
theorem tQ (hp:Pos ps):1<=dX ps:=by
 have:∀(l:List Q2) (L:Int),1<=L->Pos l->1<=l.foldl (fun L p=>oU L p.2) L:=fun l=>by
  induction l with
  |nil=>intro L h _;exact h
  |cons p l ih=>intro L h q;exact ih _ (oK h (q p (by simp))).1 fun x hx=>q x (mem_cons_of_mem _ hx)
 exact this ps 1 (by decide) hp
def Ez (L:Int)(p:Q2):Int:=p.1*Int.fdiv L p.2
def iw (ps:List Q2):List Int:=ps.map (Ez (dX ps))
theorem Na (h:1<=p.2)(e:L=k*p.2):((Ez L p:Int):Rat)=val p*(L:Rat):=by
 have e1:Int.fdiv L p.2=k:=gD (by lia) (by rw[e,Int.mul_comm]);have n:=dP (by lia:p.2≠0);unfold Ez val;rw[e1,e,Rat.intCast_mul,Rat.intCast_mul];grind
theorem Dr (hp:Pos ps):∀p∈ps,∃k,dX ps=k*p.2:=fun p hpp=>by
 have:∀(l:List Q2) (L:Int),1<=L->Pos l->(∃j,l.foldl (fun L p=>oU L p.2) L=L*j)/\∀p∈l,∃k,l.foldl (fun L p=>oU L p.2) L=k*p.2:=fun l=>by
  induction l with
  |nil=>intro L h _;exact⟨⟨1,by simp⟩,fun p h=>by simp at h⟩
  |cons q l ih=>
   intro L h hq;obtain⟨l1,⟨j,l2⟩,⟨k,l3,l4⟩,l5⟩:=oK h (hq q (by simp));obtain⟨⟨j2,i1⟩,i2⟩:=ih (oU L q.2) l1 fun x hx=>hq x (mem_cons_of_mem _ hx);refine⟨⟨j*j2,by rw[foldl_cons,i1,l2];grind⟩,fun p hp=>?_⟩;rcases mem_cons.mp hp with rfl | hp
   ·exact⟨k*j2,by rw[foldl_cons,i1,l3];grind⟩
   ·exact i2 p hp
 exact(this ps 1 (by decide) hp).2 p hpp
def gF (X:List (List Q2)):Prop:=∀row∈X,Pos row
theorem No (h:Pos row)(j:Nat):1<=(row.getD j z0).2:=by
 rw[getD_eq_getElem?_getD]
 cases e:row[j]? with
 |none=>exact Int.le_refl 1
 |some v=>exact h v (mem_of_getElem? e)
end Mq
open Mq (Dr Ez Fu Jr Ps Xv aT dP dX eE fI fV gF iS iY iw oW oY tQ wF zM)
namespace L2
open PySem PySem.Spec PyProof.Rows
def Ite (K : Frag)(a : Addr) : It :=
  ⟨fun i H => ∃ xs x, SqL K H a xs /\ xs[i]? = some x,
   fun i H v H' => ∃ T x, v = .ref T /\ H T = none /\ H' = upd H T (.tup [.int (i : Int), x]) /\ ∀ xs, SqL K H a xs -> xs[i]? = some x,
   fun i H => ∃ xs, SqL K H a xs /\ xs.length <= i⟩
def qe4 (e it l:Addr)(i:Nat)(h:Heap):Prop:=e≠it/\(∃old,IsEnum h e it (i:Int) old)/\h.IsListIter it l i
theorem Mc {P:Program}{w:World}{K:Frag}{elts:List Expr}{kk:Nat}{tpos:Pos}(e it l:Addr) :
  Li P w K (.Tuple elts kk tpos) (Ite K l) [e,it] e (qe4 e it l) where
 mem:=by simp
 obj:=fun i h st b hb=>by
  obtain⟨ne,⟨old,he⟩,⟨o1,e1,c1,d1⟩⟩:=st;simp only[mem_cons,not_mem_nil,or_false] at hb;rcases hb with rfl | rfl
  ·exact⟨_,he,fun v q=>by cases q⟩
  ·exact⟨o1,e1,fun v q=>by rw[d1] at q;cases q⟩
 keep:=fun i h h' st k=>by
  obtain⟨ne,⟨old,he⟩,⟨o1,e1,c1,d1⟩⟩:=st;exact⟨ne,⟨old,k _ (by simp) _ he⟩,⟨o1,k _ (by simp) _ e1,c1,d1⟩⟩
 item:=by
  intro X hP hw hK hc i pins s σ H E I hf st hg;subst hP hw hK;obtain⟨ne,⟨old,he⟩,t1⟩:=st;obtain⟨xs,x,hx,ex⟩:=hg;obtain⟨its1,rv1,p1,z1⟩:=I.list hx;obtain⟨u1,hu1,ru1⟩:=rv1.get ex;refine wpAny_pyNext_enum_item he t1 p1.isList (x:=u1) (by simpa using hu1) ne fun h' g1 g2 g3 g4 kk'=>?_;have hn:H s.heap.objs.size=none:=I.hok.fresh (Nat.le_refl _);have lt:∀b∈[e,it],b < s.heap.objs.size:=fun b hb=>by
   simp only[mem_cons,not_mem_nil,or_false] at hb;obtain⟨o1,e1,_⟩:=t1;rcases hb with rfl | rfl
   ·exact Heap.lt_size he
   ·exact Heap.lt_size e1
  have I1:Inv X pins σ (upd H s.heap.objs.size (.tup [.int (i:Int),x])) { s with heap:=s.heap.push { cls:=.type "tuple",data:=.seq #[.int i s.toks,u1] },toks:=s.toks+1 }:=
   I.laid (t':=s.toks+1) (fun b o e=>Heap.get?_push_of_some _ e) (Nat.le_refl _) (show cK X.prog X.w _ _ _ (.tup [.int (i:Int),x]) from ⟨zl9 2,[.int i s.toks,u1],.cons ⟨_,rfl⟩ (.cons ru1 .nil),IsTup.new _ _⟩)
  have hf1:∀b∈[e,it],oB X pins (upd H s.heap.objs.size (.tup [.int (i:Int),x])) b:=fun b hb=>⟨by rw[aL (Nat.ne_of_lt (lt b hb))];exact(hf b hb).1,(hf b hb).2⟩
  have k1:∀b o,b∉[e,it]->(s.heap.push { cls:=.type "tuple",data:=.seq #[.int i s.toks,u1] }).get? b=some o->h'.get? b=some o:=fun b o nb e=>by
   simp only[mem_cons,not_mem_nil,or_false,not_or] at nb
   by_cases hb:b=s.heap.objs.size
   ·subst hb;rw[Heap.get?_push_size _ rfl] at e
    cases e
    exact g3
   ·have e0:s.heap.get? b=some o:=by rw[Heap.get?_push_ne _ _ _ hb] at e;exact e
    exact kk' b o nb.1 nb.2 e0
  have I2:Inv X pins σ (upd H s.heap.objs.size (.tup [.int (i:Int),x])) { s with heap:=h',toks:=s.toks+1 }:=Inv.turnedL (s:={ s with heap:=s.heap.push { cls:=.type "tuple",data:=.seq #[.int i s.toks,u1] },toks:=s.toks+1 }) (t':=s.toks+1) I1 k1 hf1;refine⟨_,rfl,wpAny_letOwnedTupleGo_enum (s:={ s with heap:=h',toks:=s.toks+1 }) g1 fun h2 q1 q2=>?_⟩;have kz:∀b o,b≠e->h'.get? b=some o->h2.get? b=some o:=fun b o nb e=>(q2.2 b nb).trans e;have I3:Inv X pins σ (upd H s.heap.objs.size (.tup [.int (i:Int),x])) { s with heap:=h2,toks:=s.toks+1 }:=Inv.turnedL (s:={ s with heap:=h',toks:=s.toks+1 }) (t':=s.toks+1) (fp:=[e]) I2 (fun b o nb e=>kz b o (by simpa using nb) e) fun b hb=>hf1 b (by simp at hb;simp[hb]);obtain⟨o3,e3,c3,d3⟩:=g2;refine⟨.ref s.heap.objs.size,_,I3,rfl,⟨_,x,rfl,hn,rfl,fun xs' h1=>?_⟩,⟨ne,⟨_,q1⟩,⟨o3,kz _ _ ne.symm e3,c3,d3⟩⟩,fun b hb=>(hf1 b hb).1⟩;rw[I.list_inj h1 hx];exact ex
 done:=by
  intro X hP hw hK hc i pins s σ H E I hf st hg;subst hP hw hK;obtain⟨ne,⟨old,he⟩,t1⟩:=st;obtain⟨xs,hx,hor⟩:=hg;obtain⟨its1,rv1,p1,z1⟩:=I.list hx;have l1':=rv1.length;refine wpAny_pyNext_enum_end (I.ok.hd hc) he t1 p1.isList (by simp;lia) fun h' kk'=>⟨rfl,?_⟩
  refine I.turnedL (t':=s.toks) (fun b o nb e=>?_) hf;simp only[mem_cons,not_mem_nil,or_false,not_or] at nb;exact kk' b o nb.2 e
 self:=fun A i s Q E st h=>by
  obtain⟨ne,⟨old,he⟩,t1⟩:=st;exact wpAny_pyIter_enum he h
section
variable {X:Cx}
def qe5 (K:Frag)(ta:TA):TI:=fun σ H R=>ta σ H fun vs H1=>∃a,vs=[.ref a]/\(∃xs,SqL K H1 a xs)/\R (Ite K a) H1
theorem Bk (hg:Gl X "enumerate")(hm:X.mg "enumerate"=none)(hv:bootBuiltins "enumerate"=some (.type "enumerate"))(ha:PA X [e1] ta)(hs:starEach [e1] X.env=(false,eval e1 X.env) :: starEach [] X.env:=by rfl)(hpl:(backTo pos (starEach [] X.env)).any (·.1)=false:=by rfl):PI X (.Tuple elts kk tpos) (.Call (.Name "enumerate" p) [e1] [] pos) (qe5 X.K ta):=by
 intro pins s σ H R I h;refine Call_ (kC I hg hm hv (PyProof.Rows.callWith_type1 (thn (ha pos pins s σ H _ I h) fun us s1 ⟨vs,H1,I1,r1,q1⟩=>?_) hs hpl));obtain⟨a,rfl,⟨xs,hx⟩,q⟩:=q1;obtain⟨u,rfl,ra⟩:=xL r1
 cases (show u=Value.ref a from ra)
 obtain⟨its1,rv1,p1,z1⟩:=I1.list hx;have la:a < s1.heap.objs.size:=by obtain⟨o,e,_⟩:=p1.isList;exact Heap.lt_size e
 refine call_enumerate_list p1.isList fun h' g1 g2 g3 kk'=>?_;refine wpAny_pyIter_enum g1 ?_;refine⟨s1.heap.objs.size+1,[s1.heap.objs.size+1,s1.heap.objs.size],_,Ite X.K a,H1,rfl,I1.kept (t':=s1.toks) kk',Mc _ _ a,⟨?_,⟨_,g1⟩,g2⟩,fun c hc=>?_,q⟩
 ·exact Nat.succ_ne_self _
 ·have hle:s1.heap.objs.size<=c:=by
   simp only[mem_cons,not_mem_nil,or_false] at hc;rcases hc with rfl | rfl<;>first | exact Nat.le_add_right _ _ | exact Nat.le_refl _
  exact I1.fpOk hle (I1.hok.fresh hle)
theorem Nl {K:Frag}{g:TG}{tb:TS}{D:gO}(Pv:Nat->St->Hp->Prop)(h0:Pv 0 σ H)(hl:∀i σ H,i<=xs.length->Pv i σ H->SqL K H a xs)(hs:∀i x σ H T,xs[i]?=some x->Pv i σ H->H T=none->g (.ref T) σ (upd H T (.tup [.int (i:Int),x])) fun σ2 H2=>tb { D with nx:=Pv (i+1),ct:=Pv (i+1),bk:=D.nx } σ2 H2)(hd:∀σ H,Pv xs.length σ H->D.nx σ H):
  ∃W:Nat->Nat->St->Hp->Prop,(∃m,W 0 m σ H)/\∀i m σ H,W i m σ H->
   ((Ite K a).stop i H/\D.nx σ H)\/((Ite K a).go i H/\∃N:St->Hp->Prop,(∀σ' H',N σ' H'->∃m',m' < m/\W (i+1) m' σ' H')/\∀x H',(Ite K a).yld i H x H'->g x σ H' fun σ2 H2=>tb { D with nx:=N,ct:=N,bk:=D.nx } σ2 H2):=by
 refine⟨fun i m σ H=>m=xs.length - i/\i<=xs.length/\Pv i σ H,⟨_,rfl,Nat.zero_le _,h0⟩,?_⟩;rintro i m σ H ⟨rfl,hi,p⟩;have qx:=hl i σ H hi p
 by_cases hlt:i < xs.length
 ·refine .inr ⟨⟨xs,xs[i],qx,by simp[hlt]⟩,Pv (i+1),fun σ' H' p'=>⟨xs.length - (i+1),by lia,rfl,hlt,p'⟩,fun v H' z=>?_⟩;obtain⟨T,x,rfl,hT,rfl,hh⟩:=z;exact hs i x σ H T (hh xs qx) p hT
 ·have e:i=xs.length:=by lia
  subst e;exact .inl ⟨⟨xs,qx,Nat.le_refl _⟩,hd σ H p⟩
theorem xZ {K:Frag}(Pv:Nat->List V->Hp->Prop)(h0:Pv 0 [] (upd H1 D (.lst [])))(hl:∀i zs H,Pv i zs H->H D=some (.lst zs))(hx:∀i zs H,i<=xs.length->Pv i zs H->SqL K H a xs)(hs:∀i zs x H T,xs[i]?=some x->Pv i zs H->H T=none->∀(C:Nat->List V->Hp->Prop),(∀zs H,Pv (i+1) zs H->C (i+1) zs H)->Jp nl fr g tt te σ D C i zs (.ref T) (upd H T (.tup [.int (i:Int),x])))(hd:∀zs H,Pv xs.length zs H->Q (.ref D) H):
  Dn (Ite K a) nl fr g tt te σ D H1 Q:=by
 refine⟨fun i m zs H=>m=xs.length - i/\i<=xs.length/\Pv i zs H,⟨_,rfl,Nat.zero_le _,h0⟩,?_⟩;rintro i m zs H ⟨rfl,hi,p⟩;refine⟨hl i zs H p,?_⟩;have qx:=hx i zs H hi p
 by_cases hlt:i < xs.length
 ·refine .inr ⟨⟨xs,xs[i],qx,by simp[hlt]⟩,fun v H' z=>?_⟩;obtain⟨T,x,rfl,hT,rfl,hh⟩:=z;exact hs i zs x H T (hh xs qx) p hT (fun j zs Hz=>∃m',m' < xs.length - i/\m'=xs.length - j/\j<=xs.length/\Pv j zs Hz) fun zs Hz z=>⟨xs.length - (i+1),by lia,rfl,hlt,z⟩
 ·have e:i=xs.length:=by lia
  subst e;exact .inl ⟨⟨xs,qx,Nat.le_refl _⟩,hd zs H p⟩
end
end L2
namespace Shp
open PySem L2
theorem Ad {t b:Int}(h:0 < b):dvr t b=gc t b:=by unfold dvr;rw[if_neg (by lia)]
end Shp
namespace Mq
def skip (j k:Nat):Nat:=if k < j then k else k+1
def sgn (n:Nat):Rat:=if n % 2=0 then 1 else -1
theorem wM (n:Nat):sgn (n+1)=- sgn n:=by
 unfold sgn;rcases Nat.mod_two_eq_zero_or_one n with h | h
 ·rw[if_neg (by lia),if_pos h]
 ·rw[if_pos (by lia),if_neg (by lia)];grind
abbrev Mat:=Nat->Nat->Rat
def det:Nat->Mat->Rat
 |0,_=>1
 |n+1,M=>rs (n+1) fun j=>sgn (n+j)*M n j*det n fun i k=>M i (skip j k)
theorem gG (n:Nat)(M:Mat):det (n+1) M=rs (n+1) fun j=>sgn (n+j)*M n j*det n fun i k=>M i (skip j k):=rfl
theorem Ty (hk:k < n):skip j k < n+1:=by unfold skip;split<;>lia
theorem cL:∀{n:Nat} {M N:Mat},(∀i j,i < n->j < n->M i j=N i j)->det n M=det n N
 |0,_,_,_=>rfl
 |n+1,M,N,h=>by
  rw[gG,gG];exact aT fun j hj=>by rw[h n j (by lia) hj,cL (N:=fun i k=>N i (skip j k)) fun i k hi hk=>h i _ (by lia) (Ty hk)]
theorem zH (h:j<=k):skip (k+1) (skip j l)=skip j (skip k l):=by
 unfold skip
 by_cases h1:l < j
 ·rw[if_pos h1,if_pos (by lia:l < k),if_pos (by lia:l < k+1),if_pos h1]
 ·rw[if_neg h1]
  by_cases h2:l < k
  ·rw[if_pos h2,if_pos (by lia:l+1 < k+1),if_neg h1]
  ·rw[if_neg h2,if_neg (by lia:¬l+1 < k+1),if_neg (by lia:¬l+1 < j)]
theorem Tw (n m:Nat)(F:Nat->Nat->Rat):(rs n fun i=>rs m fun j=>F i j)=rs m fun j=>rs n fun i=>F i j:=by
 induction n with
 |zero=>simp only[rs];rw[eE]
 |succ n ih=>simp only[rs];rw[ih,<- fI]
theorem wX (n:Nat)(F:Nat->Rat):rs (n+1) F=F 0+rs n fun i=>F (i+1):=by
 induction n with
 |zero=>simp only[rs];grind
 |succ n ih=>rw[show rs (n+1+1) F=rs (n+1) F+F (n+1) from rfl,ih];simp only[rs];grind
theorem yC (N:Nat)(X:Nat->Nat->Rat):(rs (N+1) fun j=>rs N fun k=>X j k)=(rs N fun k=>rs N fun j=>if k<=j then X (j+1) k else 0)+rs N fun j=>rs N fun k=>if j<=k then X j k else 0:=by
 have h1:(rs (N+1) fun j=>rs N fun k=>X j k)=(rs (N+1) fun j=>rs N fun k=>if k < j then X j k else 0)+rs (N+1) fun j=>rs N fun k=>if k < j then 0 else X j k:=by
  rw[<- fI];refine aT fun j _=>?_;rw[<- fI];exact aT fun k _=>by split<;>grind
 have h2:(rs (N+1) fun j=>rs N fun k=>if k < j then X j k else 0)=rs N fun k=>rs N fun j=>if k<=j then X (j+1) k else 0:=by
  rw[Tw];refine aT fun k _=>?_;rw[wX,if_neg (by lia)];have:(rs N fun i=>if k < i+1 then X (i+1) k else 0)=rs N fun j=>if k<=j then X (j+1) k else 0:=aT fun i _=>by
   by_cases c:k<=i
   ·rw[if_pos (by lia),if_pos c]
   ·rw[if_neg (by lia),if_neg c]
  rw[this];grind
 have h3:(rs (N+1) fun j=>rs N fun k=>if k < j then 0 else X j k)=rs N fun j=>rs N fun k=>if j<=k then X j k else 0:=by
  show (rs N fun j=>rs N fun k=>if k < j then 0 else X j k)+(rs N fun k=>if k < N then 0 else X N k)=_;have:(rs N fun k=>if k < N then 0 else X N k)=rs N fun _=>0:=aT fun k hk=>by rw[if_pos hk]
  rw[this,eE];have e2:(rs N fun j=>rs N fun k=>if k < j then 0 else X j k)=rs N fun j=>rs N fun k=>if j<=k then X j k else 0:=aT fun j _=>aT fun k _=>by
   by_cases c:j<=k
   ·rw[if_neg (by lia),if_pos c]
   ·rw[if_pos (by lia),if_neg c]
  rw[e2];grind
 rw[h1,h2,h3]
theorem Fb (N:Nat)(X Y:Nat->Nat->Rat)(h:∀j k,j<=k->Y (k+1) j=- X j k)(h':∀j k,j<=k->X (k+1) j=- Y j k):(rs (N+1) fun j=>rs N fun k=>Y j k)=- rs (N+1) fun j=>rs N fun k=>X j k:=by
 rw[yC,yC];have e1:(rs N fun k=>rs N fun j=>if k<=j then Y (j+1) k else 0)=- rs N fun j=>rs N fun k=>if j<=k then X j k else 0:=by
  rw[<- rX];refine aT fun k _=>?_;rw[<- rX];exact aT fun j _=>by
   by_cases c:k<=j
   ·rw[if_pos c,if_pos c,h k j c]
   ·rw[if_neg c,if_neg c];grind
 have e2:(rs N fun k=>rs N fun j=>if k<=j then X (j+1) k else 0)=- rs N fun j=>rs N fun k=>if j<=k then Y j k else 0:=by
  rw[<- rX];refine aT fun k _=>?_;rw[<- rX];exact aT fun j _=>by
   by_cases c:k<=j
   ·rw[if_pos c,if_pos c,h' k j c]
   ·rw[if_neg c,if_neg c];grind
 rw[e1,e2];grind
def cF (a:Nat)(M:Mat):Mat:=fun i=>if i=a then M (a+1) else if i=a+1 then M a else M i
theorem Jn (n:Nat)(M:Mat):det (n+2) M=rs (n+2) fun j=>rs (n+1) fun k=>(sgn (n+1+j)*M (n+1) j)*(sgn (n+k)*M n (skip j k)*det n fun i l=>M i (skip j (skip k l))):=by
 rw[gG];exact aT fun j _=>by rw[gG,<- fV]
theorem qV (a b:Nat):sgn (a+1+b)=- sgn (a+b):=by rw[show a+1+b=a+b+1 by lia,wM]
theorem zC (n:Nat)(M:Mat):det (n+2) (cF n M)=- det (n+2) M:=by
 rw[Jn,Jn];refine Fb (n+1) _ _ (fun j k hjk=>?_) (fun j k hjk=>?_)
 ·show (sgn (n+1+(k+1))*cF n M (n+1) (k+1))*(sgn (n+j)*cF n M n (skip (k+1) j)*det n fun i l=>cF n M i (skip (k+1) (skip j l)))=- ((sgn (n+1+j)*M (n+1) j)*(sgn (n+k)*M n (skip j k)*det n fun i l=>M i (skip j (skip k l))));have a1:cF n M (n+1)=M n:=by unfold cF;rw[if_neg (by lia),if_pos rfl]
  have a2:cF n M n=M (n+1):=by unfold cF;rw[if_pos rfl]
  have a3:(det n fun i l=>cF n M i (skip (k+1) (skip j l)))=det n fun i l=>M i (skip j (skip k l)):=cL fun i l hi _=>by
   show cF n M i (skip (k+1) (skip j l))=M i (skip j (skip k l));rw[zH hjk];unfold cF;rw[if_neg (by lia),if_neg (by lia)]
  have a4:skip (k+1) j=j:=by unfold skip;rw[if_pos (by lia)]
  have a5:skip j k=k+1:=by unfold skip;rw[if_neg (by lia)]
  rw[a1,a2,a3,a4,a5,qV,qV,show n+(k+1)=n+k+1 by lia,wM];generalize (det n fun i l=>M i (skip j (skip k l)))=dd;generalize sgn (n+k)=s1;generalize sgn (n+j)=s2;grind
 ·show (sgn (n+1+(k+1))*M (n+1) (k+1))*(sgn (n+j)*M n (skip (k+1) j)*det n fun i l=>M i (skip (k+1) (skip j l)))=- ((sgn (n+1+j)*cF n M (n+1) j)*(sgn (n+k)*cF n M n (skip j k)*det n fun i l=>cF n M i (skip j (skip k l))));have a1:cF n M (n+1)=M n:=by unfold cF;rw[if_neg (by lia),if_pos rfl]
  have a2:cF n M n=M (n+1):=by unfold cF;rw[if_pos rfl]
  have a3:(det n fun i l=>M i (skip (k+1) (skip j l)))=det n fun i l=>cF n M i (skip j (skip k l)):=cL fun i l hi _=>by
   show M i (skip (k+1) (skip j l))=cF n M i (skip j (skip k l));rw[zH hjk];unfold cF;rw[if_neg (by lia),if_neg (by lia)]
  have a4:skip (k+1) j=j:=by unfold skip;rw[if_pos (by lia)]
  have a5:skip j k=k+1:=by unfold skip;rw[if_neg (by lia)]
  rw[a1,a2,a3,a4,a5,qV,qV,show n+(k+1)=n+k+1 by lia,wM];generalize (det n fun i l=>cF n M i (skip j (skip k l)))=dd;generalize sgn (n+k)=s1;generalize sgn (n+j)=s2;grind
theorem mY:∀(n a:Nat) (M:Mat),a+1 < n->det n (cF a M)=- det n M
 |0,_,_,h=>absurd h (by lia)
 |n+1,a,M,h=>by
  by_cases e:a+1=n
  ·subst e;exact zC a M
  ·rw[gG,gG,<- rX];refine aT fun j hj=>?_;have e1:cF a M n j=M n j:=by unfold cF;rw[if_neg (by lia),if_neg (by lia)]
   have e2:(det n fun i k=>cF a M i (skip j k))=- det n fun i k=>M i (skip j k):=by
    rw[<- mY n a (fun i k=>M i (skip j k)) (by lia)];exact cL fun i k _ _=>by
     show cF a M i (skip j k)=cF a (fun i k=>M i (skip j k)) i k;unfold cF;split
     ·rfl
     ·split<;>rfl
   rw[e1,e2];grind
theorem zD:∀(t n:Nat) (M:Mat) (i:Nat),i+t+1=n->(∀j,M i j=M n j)->det (n+1) M=0
 |0,n,M,i,h,e=>by
  have hn:n=i+1:=by lia
  subst hn;have s:=zC i M;have c:det (i+2) (cF i M)=det (i+2) M:=cL fun k j _ _=>by
   unfold cF
   by_cases k1:k=i
   ·rw[if_pos k1,k1];exact(e j).symm
   ·rw[if_neg k1]
    by_cases k2:k=i+1
    ·rw[if_pos k2,k2];exact e j
    ·rw[if_neg k2]
  rw[c] at s;grind
 |t+1,n,M,i,h,e=>by
  have s:=mY (n+1) i M (by lia);have z:=zD t n (cF i M) (i+1) (by lia) fun j=>by
   have a1:cF i M (i+1)=M i:=by unfold cF;rw[if_neg (by lia),if_pos rfl]
   have a2:cF i M n=M n:=by unfold cF;rw[if_neg (by lia),if_neg (by lia)]
   rw[a1,a2];exact e j
  rw[z] at s;grind
def Bv (n:Nat)(S:Mat)(x:Nat->Rat):Mat:=fun i=>if i=n then x else S i
def F (n:Nat)(S:Mat)(c:Nat->Nat)(x:Nat->Rat):Rat:=det (n+1) (Bv n (fun i j=>S i (c j)) fun j=>x (c j))
theorem Kx (n:Nat)(S:Mat)(c:Nat->Nat)(x:Nat->Rat):F n S c x=rs (n+1) fun j=>sgn (n+j)*x (c j)*det n fun i k=>S i (c (skip j k)):=by
 unfold F;rw[gG];refine aT fun j _=>?_;have e1:Bv n (fun i j=>S i (c j)) (fun j=>x (c j)) n j=x (c j):=by unfold Bv;rw[if_pos rfl]
 rw[e1,cL fun i k hi _=>show Bv n (fun i j=>S i (c j)) (fun j=>x (c j)) i (skip j k)=S i (c (skip j k)) by unfold Bv;rw[if_neg (by lia)]]
theorem qj6 (n:Nat)(S:Mat)(c:Nat->Nat)(x y:Nat->Rat)(l:Rat):F n S c (fun j=>x j+l*y j)=F n S c x+l*F n S c y:=by
 rw[Kx,Kx,Kx,<- fV,<- fI];exact aT fun j _=>by grind
theorem Jj (n:Nat)(S:Mat)(c:Nat->Nat)(h:i < n):F n S c (S i)=0:=by
 unfold F;refine zD (n - i - 1) n _ i (by lia) fun j=>?_;unfold Bv;rw[if_neg (by lia),if_pos rfl]
theorem Aj (n:Nat)(S:Mat)(c:Nat->Nat)(x:Nat->Rat)(h:∀j,j < n->x (c j)=0):F n S c x=x (c n)*det n fun i j=>S i (c j):=by
 rw[Kx];show (rs n fun j=>sgn (n+j)*x (c j)*det n fun i k=>S i (c (skip j k)))+sgn (n+n)*x (c n)*(det n fun i k=>S i (c (skip n k)))=_;have z:(rs n fun j=>sgn (n+j)*x (c j)*det n fun i k=>S i (c (skip j k)))=rs n fun _=>0:=aT fun j hj=>by rw[h j hj];grind
 have s:sgn (n+n)=1:=by unfold sgn;rw[if_pos (by lia)]
 have d:(det n fun i k=>S i (c (skip n k)))=det n fun i j=>S i (c j):=cL fun i k _ hk=>by show S i (c (skip n k))=_;unfold skip;rw[if_pos hk]
 rw[z,eE,s,d];grind
theorem Ci {F:Nat->Rat}(h:∀i,i < n->∃z:Int,F i=(z:Rat)):∃z:Int,rs n F=(z:Rat):=by
 induction n with
 |zero=>exact⟨0,by simp[rs]⟩
 |succ n ih=>
  obtain⟨a,ha⟩:=ih fun i hi=>h i (by lia);obtain⟨b,hb⟩:=h n (by lia);exact⟨a+b,by simp only[rs];rw[ha,hb,Rat.intCast_add]⟩
theorem Mm (n:Nat):∃z:Int,sgn n=(z:Rat):=by
 unfold sgn;split
 ·exact⟨1,by simp⟩
 ·exact⟨-1,by rw[Rat.intCast_neg];simp⟩
theorem qY (h:∃z:Int,a=(z:Rat))(k:∃z:Int,b=(z:Rat)):∃z:Int,a*b=(z:Rat):=by
 obtain⟨x,rfl⟩:=h;obtain⟨y,rfl⟩:=k;exact⟨x*y,by rw[Rat.intCast_mul]⟩
theorem yL:∀{n:Nat} {M:Mat},(∀i j,∃z:Int,M i j=(z:Rat))->∃z:Int,det n M=(z:Rat)
 |0,_,_=>⟨1,by simp[det]⟩
 |n+1,M,h=>by
  rw[gG];exact Ci fun j _=>qY (qY (Mm _) (h n j)) (yL fun i k=>h i _)
theorem Wl (h:∀i j,∃z:Int,S i j=(z:Rat))(hx:∀j,∃z:Int,x j=(z:Rat)):∃z:Int,F n S c x=(z:Rat):=by
 unfold F;refine yL fun i j=>?_;unfold Bv;split
 ·exact hx _
 ·exact h i _
def Lin (Φ:(Nat->Rat)->Rat):Prop:=∀x y l,Φ (fun j=>x j+l*y j)=Φ x+l*Φ y
theorem Lin.zero (h:Lin Φ):Φ (fun _=>0)=0:=by
 have:=h (fun _=>0) (fun _=>0) 1;have e:(fun j:Nat=>(fun _=>(0:Rat)) j+1*(fun _=>(0:Rat)) j)=fun _=>0:=by funext j;show (0:Rat)+1*0=0;grind
 rw[e] at this;grind
theorem Lin.mul (h:Lin Φ)(l:Rat)(y:Nat->Rat):Φ (fun j=>l*y j)=l*Φ y:=by
 have:=h (fun _=>0) y l;have e:(fun j:Nat=>(fun _=>(0:Rat)) j+l*y j)=fun j=>l*y j:=by funext j;show (0:Rat)+l*y j=_;grind
 rw[e,h.zero] at this;grind
theorem Lin.sum (h:Lin Φ)(a:Nat->Rat)(Y:Nat->Nat->Rat):∀n,Φ (fun j=>rs n fun k=>a k*Y k j)=rs n fun k=>a k*Φ (Y k)
 |0=>h.zero
 |n+1=>by
  have:=h (fun j=>rs n fun k=>a k*Y k j) (Y n) (a n);simp only[rs];rw[this,Lin.sum h a Y n]
theorem Ih (n:Nat)(S:Mat)(c:Nat->Nat):Lin (F n S c):=fun x y l=>qj6 n S c x y l
def Wh (x:Rat):Prop:=∃z:Int,x=(z:Rat)
theorem Wh.mul (h:Wh a)(k:Wh b):Wh (a*b):=qY h k
theorem Wh.neg (h:Wh a):Wh (-a):=by obtain⟨z,rfl⟩:=h;exact⟨-z,by rw[Rat.intCast_neg]⟩
theorem Wh.sub (h:Wh a)(k:Wh b):Wh (a - b):=by obtain⟨x,rfl⟩:=h;obtain⟨y,rfl⟩:=k;exact⟨x - y,by rw[Rat.intCast_sub]⟩
theorem Wh.one:Wh 1:=⟨1,by simp⟩
theorem Wh.nil:Wh 0:=⟨0,by simp⟩
structure Bar (m:Nat) (A E:Mat) (r col:Nat) (d:Rat) (c:Nat->Nat):Prop where
 dne:d≠0
 rm:r<=m
 rc:r<=col
 clt:∀j,j < r->c j < col
 cinj:∀i j,i < r->j < r->c i=c j->i=j
 wA:∀i j,Wh (A i j)
 wE:∀i j,i < m->Wh (E i j)
 i2:∀k j,k < r->j < r->E k (c j)=if j=k then d else 0
 i3:∀i x,r<=i->i < m->x < col->E i x=0
 i4:∀i x,i < m->d*A i x=(rs r fun k=>A i (c k)*E k x)+if i < r then 0 else E i x
 i5:det r (fun i j=>A i (c j))=d
 i6:∀Φ,Lin Φ->(∀s,s < r->Φ (A s)=0)->∀k,k < r->Φ (E k)=0
 full:r=col->∀j,j < r->c j=j
theorem Bar.start {m:Nat}{A:Mat}(wA:∀i j,Wh (A i j)):Bar m A A 0 0 1 id where
 dne:=by grind
 rm:=by lia
 rc:=by decide
 clt:=fun j h=>absurd h (by lia)
 cinj:=fun i j h=>absurd h (by lia)
 wA:=wA
 wE:=fun i j _=>wA i j
 i2:=fun k j h=>absurd h (by lia)
 i3:=fun i x _ _ h=>absurd h (by lia)
 i4:=fun i x _=>by simp only[rs];rw[if_neg (by lia)];grind
 i5:=rfl
 i6:=fun Φ _ _ k h=>absurd h (by lia)
 full:=fun _ j h=>absurd h (by lia)
section
variable {m:Nat} {A E:Mat} {r col:Nat} {d:Rat} {c:Nat->Nat}
theorem Bar.skip (h:Bar m A E r col d c)(hz:∀i,r<=i->i < m->E i col=0):Bar m A E r (col+1) d c:=
 { h with
  rc:=by have:=h.rc;lia
  clt:=fun j hj=>by have:=h.clt j hj;lia
  i3:=fun i x hi hm hx=>by
   by_cases e:x=col
   ·rw[e];exact hz i hi hm
   ·exact h.i3 i x hi hm (by lia)
  full:=fun e=>by have:=h.rc;lia }
def sw (p r i:Nat):Nat:=if i=r then p else if i=p then r else i
theorem xQ (hp:r<=p)(hi:i < r):sw p r i=i:=by unfold sw;rw[if_neg (by lia),if_neg (by lia)]
theorem Xp (hp:r<=p)(hi:r<=i):r<=sw p r i:=by unfold sw;split;exact hp;split<;>lia
theorem Bo (hp:p < m)(hr:r < m)(hi:i < m):sw p r i < m:=by unfold sw;split;exact hp;split<;>assumption
theorem Qf (p r i:Nat):sw p r (sw p r i)=i:=by
 unfold sw
 by_cases h1:i=r
 ·rw[if_pos h1]
  by_cases h2:p=r
  ·rw[if_pos h2];lia
  ·rw[if_neg h2,if_pos rfl];exact h1.symm
 ·rw[if_neg h1]
  by_cases h2:i=p
  ·rw[if_pos h2,if_pos rfl];exact h2.symm
  ·rw[if_neg h2,if_neg h1,if_neg h2]
theorem Bar.swap (h:Bar m A E r col d c)(hp:r<=p)(hpm:p < m):Bar m (fun i=>A (sw p r i)) (fun i=>E (sw p r i)) r col d c:=
 { h with
  wA:=fun i j=>h.wA _ j
  wE:=fun i j hi=>h.wE _ j (Bo hpm (by lia) hi)
  i2:=fun k j hk hj=>by
   show E (sw p r k) (c j)=_;rw[xQ hp hk];exact h.i2 k j hk hj
  i3:=fun i x hi hm hx=>h.i3 _ x (Xp hp hi) (Bo hpm (by lia) hm) hx
  i4:=fun i x hm=>by
   have e:(rs r fun k=>A (sw p r i) (c k)*E (sw p r k) x)=rs r fun k=>A (sw p r i) (c k)*E k x:=aT fun k hk=>by rw[xQ hp hk]
   show d*A (sw p r i) x=(rs r fun k=>A (sw p r i) (c k)*E (sw p r k) x)+_;rw[e,h.i4 _ x (Bo hpm (by lia) hm)];congr 1
   by_cases hi:i < r
   ·rw[xQ hp hi,if_pos hi]
   ·have:=Xp hp (by lia:r<=i);rw[if_neg (by lia),if_neg hi]
  i5:=by
   rw[<- h.i5];exact cL fun i j hi _=>by show A (sw p r i) (c j)=_;rw[xQ hp hi]
  i6:=fun Φ hΦ hs k hk=>by
   show Φ (E (sw p r k))=0;rw[xQ hp hk];exact h.i6 Φ hΦ (fun s hs'=>by have:=hs s hs';rwa [xQ hp hs'] at this) k hk }
def clr (E:Mat)(r col:Nat)(d:Rat):Mat:=fun k x=>if k=r then E r x else (E r col*E k x - E k col*E r x) / d
def c1 (c:Nat->Nat)(r col:Nat):Nat->Nat:=fun j=>if j=r then col else c j
theorem jP (c:Nat->Nat)(h:j < r):c1 c r col j=c j:=by unfold c1;rw[if_neg (by lia)]
theorem oG (c:Nat->Nat)(r col:Nat):c1 c r col r=col:=by unfold c1;rw[if_pos rfl]
theorem Al (E:Mat)(r col:Nat)(d:Rat):clr E r col d r=E r:=by funext x;unfold clr;rw[if_pos rfl]
theorem mD (E:Mat)(h:k≠r)(x:Nat):clr E r col d k x=(E r col*E k x - E k col*E r x) / d:=by unfold clr;rw[if_neg h]
theorem Bar.j2 (h:Bar m A E r col d c)(hr:r < m):∀k j,k < r+1->j < r+1->clr E r col d k (c1 c r col j)=if j=k then E r col else 0:=fun k j hk hj=>by
 have hd:=h.dne
 by_cases kr:k=r
 ·subst kr;rw[Al]
  by_cases jr:j=k
  ·rw[if_pos jr,jr,oG]
  ·rw[if_neg jr,jP c (by lia)];exact h.i3 k _ (Nat.le_refl _) hr (h.clt j (by lia))
 ·rw[mD E kr]
  by_cases jr:j=r
  ·subst jr;rw[oG,if_neg (by lia)];grind
  ·rw[jP c (by lia),h.i2 k j (by lia) (by lia),h.i3 r (c j) (Nat.le_refl _) hr (h.clt j (by lia))]
   by_cases e:j=k
   ·rw[if_pos e,if_pos e];grind
   ·rw[if_neg e,if_neg e];grind
theorem Bar.j4 (h:Bar m A E r col d c)(hr:r < m):∀i x,i < m->E r col*A i x=(rs (r+1) fun k=>A i (c1 c r col k)*clr E r col d k x)+if i < r+1 then 0 else clr E r col d i x:=fun i x hi=>by
 have hd:=h.dne;have q:=h.i4 i x hi;have q2:=h.i4 i col hi;show _=(rs r fun k=>A i (c1 c r col k)*clr E r col d k x)+A i (c1 c r col r)*clr E r col d r x+_;rw[oG,Al];have e:(rs r fun k=>A i (c1 c r col k)*clr E r col d k x)=(E r col / d)*(rs r fun k=>A i (c k)*E k x)+(-(E r x / d))*rs r fun k=>A i (c k)*E k col:=by
  rw[<- fV,<- fV,<- fI];exact aT fun k hk=>by rw[jP c hk,mD E (by lia)];grind
 rw[e];generalize (rs r fun k=>A i (c k)*E k x)=s1 at q ⊢;generalize (rs r fun k=>A i (c k)*E k col)=s2 at q2 ⊢
 by_cases h1:i < r
 ·rw[if_pos h1] at q q2;rw[if_pos (by lia)];have:s1=d*A i x:=by grind
  have:s2=d*A i col:=by grind
  subst s1 s2;grind
 ·rw[if_neg h1] at q q2;have a1:s1=d*A i x - E i x:=by grind
  have a2:s2=d*A i col - E i col:=by grind
  subst a1 a2
  by_cases h2:i=r
  ·subst h2;rw[if_pos (by lia)];grind
  ·rw[if_neg (by lia),mD E h2];grind
theorem Bar.j6 (h:Bar m A E r col d c)(hr:r < m):∀Φ,Lin Φ->(∀s,s < r+1->Φ (A s)=0)->∀k,k < r+1->Φ (clr E r col d k)=0:=fun Φ hΦ hs k hk=>by
 have hd:=h.dne;have z:=h.i6 Φ hΦ fun s hs'=>hs s (by lia);have zr:Φ (E r)=0:=by
  have e:E r=fun x=>(fun x=>d*A r x) x+(-1)*(fun x=>rs r fun k=>A r (c k)*E k x) x:=by
   funext x
   have:=h.i4 r x hr;rw[if_neg (by lia)] at this;show E r x=d*A r x+(-1)*(rs r fun k=>A r (c k)*E k x)
   grind
  rw[e,hΦ,hΦ.mul,hΦ.sum,hs r (by lia)];have:(rs r fun k=>A r (c k)*Φ (E k))=rs r fun _=>0:=aT fun k hk=>by rw[z k hk];grind
  rw[this,eE];grind
 by_cases kr:k=r
 ·rw[kr,Al];exact zr
 ·have e:clr E r col d k=fun x=>(fun x=>(E r col / d)*E k x) x+(-(E k col / d))*E r x:=by
   funext x
   rw[mD E kr];show _=(E r col / d)*E k x+(-(E k col / d))*E r x;grind
  rw[e,hΦ,hΦ.mul,z k (by lia),zr];grind
theorem Bar.j5 (h:Bar m A E r col d c)(hr:r < m):det (r+1) (fun i j=>A i (c1 c r col j))=E r col:=by
 have hd:=h.dne;have e1:det (r+1) (fun i j=>A i (c1 c r col j))=F r A (c1 c r col) (A r):=by
  unfold F;exact cL fun i j hi _=>by
   unfold Bv
   by_cases e:i=r
   ·rw[if_pos e,e]
   ·rw[if_neg e]
 have hΦ:=Ih r A (c1 c r col);have z:=h.i6 _ hΦ fun s hs=>Jj r A (c1 c r col) hs;have eA:A r=fun x=>(fun x=>(1 / d)*E r x) x+(1 / d)*(fun x=>rs r fun k=>A r (c k)*E k x) x:=by
  funext x
  have:=h.i4 r x hr;rw[if_neg (by lia)] at this;show A r x=(1 / d)*E r x+(1 / d)*(rs r fun k=>A r (c k)*E k x)
  grind
 have zs:(rs r fun k=>A r (c k)*F r A (c1 c r col) (E k))=0:=by
  have:(rs r fun k=>A r (c k)*F r A (c1 c r col) (E k))=rs r fun _=>0:=aT fun k hk=>by rw[z k hk];grind
  rw[this,eE]
 have fb:=Aj r A (c1 c r col) (E r) fun j hj=>by rw[jP c hj];exact h.i3 r _ (Nat.le_refl _) hr (h.clt j hj)
 have dd:(det r fun i j=>A i (c1 c r col j))=d:=by rw[<- h.i5];exact cL fun i j _ hj=>by show A i (c1 c r col j)=_;rw[jP c hj]
 rw[oG,dd] at fb;rw[e1,eA,hΦ,hΦ.mul,hΦ.sum,zs,fb];grind
theorem Bar.wV (h:Bar m A E r col d c)(hr:r < m)(he:E r col≠0):∀i x,i < m->Wh (clr E r col d i x):=by
 have j2:=h.j2 hr;have j4:=h.j4 hr;have j5:=h.j5 hr;have j6:=h.j6 hr;have cin:∀i j,i < r+1->j < r+1->c1 c r col i=c1 c r col j->i=j:=fun i j hi hj e=>by
  by_cases a:i=r
  ·by_cases b:j=r
   ·lia
   ·rw[a,oG,jP c (by lia)] at e;have:=h.clt j (by lia);lia
  ·by_cases b:j=r
   ·rw[b,oG,jP c (by lia)] at e;have:=h.clt i (by lia);lia
   ·rw[jP c (by lia),jP c (by lia)] at e;exact h.cinj i j (by lia) (by lia) e
 have top:∀k x,k < r+1->Wh (clr E r col d k x):=fun k x hk=>by
  by_cases hx:∃j,j < r+1/\x=c1 c r col j
  ·obtain⟨j,hj,rfl⟩:=hx;rw[j2 k j hk hj];split
   ·exact h.wE r col hr
   ·exact Wh.nil
  ·let c2:Nat->Nat:=fun j=>if j=r+1 then x else c1 c r col j
   let u:Nat->Rat:=fun j=>if j=c1 c r col k then 1 else 0
   have hΦ:=Ih (r+1) A c2;have z:=j6 _ hΦ (fun s hs=>Jj (r+1) A c2 hs) k hk;have eu:u=fun y=>(fun y=>u y+(-(1 / E r col))*clr E r col d k y) y+(1 / E r col)*clr E r col d k y:=by
    funext y
    show u y=u y+(-(1 / E r col))*clr E r col d k y+(1 / E r col)*clr E r col d k y;grind
   have fb:=Aj (r+1) A c2 (fun y=>u y+(-(1 / E r col))*clr E r col d k y) fun j hj=>by
    have ec:c2 j=c1 c r col j:=by show (if j=r+1 then x else c1 c r col j)=_;rw[if_neg (by lia)]
    rw[ec];show u (c1 c r col j)+(-(1 / E r col))*clr E r col d k (c1 c r col j)=0;rw[j2 k j hk hj];show (if c1 c r col j=c1 c r col k then (1:Rat) else 0)+_=0
    by_cases e:j=k
    ·rw[if_pos e,if_pos (by rw[e])];grind
    ·rw[if_neg e,if_neg (fun q=>e (cin j k hj hk q))];grind
   have dd:(det (r+1) fun i j=>A i (c2 j))=E r col:=by
    rw[<- j5];exact cL fun i j _ hj=>by show A i (if j=r+1 then x else c1 c r col j)=_;rw[if_neg (by lia)]
   have ux:u x=0:=by show (if x=c1 c r col k then (1:Rat) else 0)=0;rw[if_neg (fun q=>hx ⟨k,hk,q⟩)]
   have cx:c2 (r+1)=x:=by show (if r+1=r+1 then x else _)=x;rw[if_pos rfl]
   rw[dd,cx] at fb;have val:F (r+1) A c2 u=- clr E r col d k x:=by
    rw[eu,hΦ,z,fb];show (u x+(-(1 / E r col))*clr E r col d k x)*E r col+_=_;rw[ux];grind
   have wh:Wh (F (r+1) A c2 u):=Wl h.wA fun j=>by
    show Wh (if j=c1 c r col k then (1:Rat) else 0);split
    ·exact Wh.one
    ·exact Wh.nil
   rw[val] at wh;have:=wh.neg
   rwa [show - - clr E r col d k x=clr E r col d k x by grind] at this
 intro i x hi
 by_cases h1:i < r+1
 ·exact top i x h1
 ·have q:=j4 i x hi;rw[if_neg h1] at q;have e:clr E r col d i x=E r col*A i x - rs (r+1) fun k=>A i (c1 c r col k)*clr E r col d k x:=by grind
  rw[e];exact Wh.sub (Wh.mul (h.wE r col hr) (h.wA i x)) (Ci fun k hk=>Wh.mul (h.wA _ _) (top k x hk))
theorem Bar.clear (h:Bar m A E r col d c)(hr:r < m)(he:E r col≠0):Bar m A (clr E r col d) (r+1) (col+1) (E r col) (c1 c r col) where
 dne:=he
 rm:=hr
 rc:=by have:=h.rc;lia
 clt:=fun j hj=>by
  by_cases e:j=r
  ·rw[e,oG];lia
  ·rw[jP c (by lia)];have:=h.clt j (by lia);lia
 cinj:=fun i j hi hj e=>by
  by_cases a:i=r
  ·by_cases b:j=r
   ·lia
   ·rw[a,oG,jP c (by lia)] at e;have:=h.clt j (by lia);lia
  ·by_cases b:j=r
   ·rw[b,oG,jP c (by lia)] at e;have:=h.clt i (by lia);lia
   ·rw[jP c (by lia),jP c (by lia)] at e;exact h.cinj i j (by lia) (by lia) e
 wA:=h.wA
 wE:=fun i j hi=>h.wV hr he i j hi
 i2:=h.j2 hr
 i3:=fun i x hi hm hx=>by
  rw[mD E (by lia)]
  by_cases e:x=col
  ·rw[e];grind
  ·rw[h.i3 i x (by lia) hm (by lia),h.i3 r x (Nat.le_refl _) hr (by lia)];grind
 i4:=h.j4 hr
 i5:=h.j5 hr
 i6:=h.j6 hr
 full:=fun e j hj=>by
  by_cases a:j=r
  ·rw[a,oG];lia
  ·rw[jP c (by lia)];exact h.full (by lia) j (by lia)
end
def ent (R:List (List Int))(i x:Nat):Int:=(R.getD i []).getD x 0
def at2 (R:List (List Int)):Mat:=fun i x=>((ent R i x:Int):Rat)
theorem Bar.congr (h:Bar m A E r col d c)(e:∀i,i < m->E i=E' i):Bar m A E' r col d c:=
 { h with
  wE:=fun i j hi=>by rw[<- e i hi];exact h.wE i j hi
  i2:=fun k j hk hj=>by rw[<- e k (by have:=h.rm;lia)];exact h.i2 k j hk hj
  i3:=fun i x hi hm hx=>by rw[<- e i hm];exact h.i3 i x hi hm hx
  i4:=fun i x hm=>by
   rw[h.i4 i x hm];congr 1
   ·exact aT fun k hk=>by rw[e k (by have:=h.rm;lia)]
   ·rw[e i hm]
  i6:=fun Φ hΦ hs k hk=>by rw[<- e k (by have:=h.rm;lia)];exact h.i6 Φ hΦ hs k hk }
theorem Qo (n:Nat):∀(t p r:Nat) (A:Mat),p=r+t+1->p < n->det n (fun i=>A (sw p r i))=- det n A
 |0,p,r,A,h,hp=>by
  subst h;rw[<- mY n r A (by assumption)];exact cL fun i j _ _=>by
   show A (sw (r+0+1) r i) j=cF r A i j;unfold sw cF
   by_cases h1:i=r
   ·rw[if_pos h1,if_pos h1]
   ·rw[if_neg h1,if_neg h1]
    by_cases h2:i=r+1
    ·rw[if_pos (by assumption),if_pos h2]
    ·rw[if_neg (by assumption),if_neg h2]
 |t+1,p,r,A,h,hp=>by
  have ih:=Qo n t (r+t+1) r (cF (r+t+1) A) rfl (by lia);have s1:=mY n (r+t+1) A (by lia);have s2:=mY n (r+t+1) (fun i=>cF (r+t+1) A (sw (r+t+1) r i)) (by lia);have e:det n (fun i=>A (sw p r i))=det n (cF (r+t+1) (fun i=>cF (r+t+1) A (sw (r+t+1) r i))):=cL fun i j _ _=>by
   subst h;show A (sw (r+(t+1)+1) r i) j=cF (r+t+1) (fun i=>cF (r+t+1) A (sw (r+t+1) r i)) i j
   by_cases h1:i=r
   ·have a1:sw (r+(t+1)+1) r i=r+t+1+1:=by unfold sw;rw[if_pos h1];lia
    have a2:sw (r+t+1) r i=r+t+1:=by unfold sw;rw[if_pos h1]
    rw[a1];unfold cF;rw[if_neg (by lia),if_neg (by lia)];dsimp only;rw[a2,if_pos rfl]
   ·by_cases h2:i=r+t+1+1
    ·have a1:sw (r+(t+1)+1) r i=r:=by unfold sw;rw[if_neg h1,if_pos (by assumption)]
     have a2:sw (r+t+1) r (r+t+1)=r:=by unfold sw;rw[if_neg (by lia),if_pos rfl]
     rw[a1];unfold cF;rw[if_neg (by lia),if_pos h2];dsimp only;rw[a2,if_neg (by lia),if_neg (by lia)]
    ·have a1:sw (r+(t+1)+1) r i=i:=by unfold sw;rw[if_neg h1,if_neg (by assumption)]
     rw[a1]
     by_cases h3:i=r+t+1
     ·have a2:sw (r+t+1) r (r+t+1+1)=r+t+1+1:=by unfold sw;rw[if_neg (by lia),if_neg (by lia)]
      unfold cF;rw[if_pos h3];dsimp only;rw[a2,if_neg (by lia),if_pos rfl,h3]
     ·have a2:sw (r+t+1) r i=i:=by unfold sw;rw[if_neg h1,if_neg h3]
      unfold cF;rw[if_neg h3,if_neg h2];dsimp only;rw[a2,if_neg h3,if_neg h2]
  rw[e,s2,ih,s1];grind
def fY (R:List (List Int))(p r:Nat):List (List Int):=(R.set p (R.getD r [])).set r (R.getD p [])
theorem Zd (R:List (List Int))(p r:Nat):(fY R p r).length=R.length:=by unfold fY;simp
theorem Bg (hp:p < R.length)(hr:r < R.length)(i:Nat):(fY R p r).getD i []=R.getD (sw p r i) []:=by
 unfold fY sw;rw[getD_eq_getElem?_getD]
 by_cases h1:i=r
 ·rw[if_pos h1,h1,getElem?_set_self (by simpa using hr)];rfl
 ·rw[if_neg h1,getElem?_set_ne (Ne.symm h1)]
  by_cases h2:i=p
  ·rw[if_pos h2,h2,getElem?_set_self hp];rfl
  ·rw[if_neg h2,getElem?_set_ne (Ne.symm h2),getD_eq_getElem?_getD]
def gV (upper row:List Int)(col:Nat)(dv:Int):List Int:=zipWith (fun here above=>Int.fdiv (upper.getD col 0*here - row.getD col 0*above) dv) row upper
def cG (R:List (List Int))(r col:Nat)(dv:Int):List (List Int):=R.mapIdx fun i row=>if i=r then row else gV (R.getD r []) row col dv
theorem Jb (R:List (List Int))(r col:Nat)(dv:Int):(cG R r col dv).length=R.length:=by unfold cG;simp
theorem pB (hi:i < R.length)(r col:Nat)(dv:Int):(cG R r col dv).getD i []=if i=r then R.getD i [] else gV (R.getD r []) (R.getD i []) col dv:=by
 unfold cG;rw[getD_eq_getElem?_getD,getElem?_mapIdx,getElem?_eq_getElem hi];have:R.getD i []=R[i]:=by rw[getD_eq_getElem?_getD,getElem?_eq_getElem hi];rfl
 rw[this];rfl
structure SI (m w:Nat) (A0:Mat) (R:List (List Int)) (r col:Nat) (d sg:Int):Prop where
 len:R.length=m
 wid:∀i,i < m->(R.getD i []).length=w
 bar:∃A c,Bar m A (at2 R) r col (d:Rat) c/\det m A=(sg:Rat)*det m A0
 one:sg=1\/sg=-1
theorem SI.start (h:R.length=m)(hw:∀i,i < m->(R.getD i []).length=w):SI m w (at2 R) R 0 0 1 1:=
 ⟨h,hw,⟨at2 R,id,by
  have:=Bar.start (m:=m) (A:=at2 R) fun i j=>⟨_,rfl⟩
  simpa using this,by simp⟩,.inl rfl⟩
theorem SI.skip (h:SI m w A0 R r col d sg)(hz:∀i,r<=i->i < m->ent R i col=0):SI m w A0 R r (col+1) d sg:=by
 obtain⟨A,c,B,e⟩:=h.bar;exact⟨h.len,h.wid,⟨A,c,B.skip fun i h1 h2=>by unfold at2;rw[hz i h1 h2];simp,e⟩,h.one⟩
theorem SI.swap (h:SI m w A0 R r col d sg)(hp:r < p)(hm:p < m):SI m w A0 (fY R p r) r col d (-sg):=by
 obtain⟨A,c,B,e⟩:=h.bar;have hl:=h.len;have gd:=fun i=>Bg (R:=R) (p:=p) (r:=r) (by lia) (by lia) i;refine⟨(Zd R p r).trans hl,fun i hi=>?_,⟨_,c,(B.swap (by lia) hm).congr fun i hi=>?_,?_⟩,?_⟩
 ·rw[gd i];exact h.wid _ (Bo hm (by lia) hi)
 ·funext x
  show (((R.getD (sw p r i) []).getD x 0:Int):Rat)=((((fY R p r).getD i []).getD x 0:Int):Rat)
  rw[gd i]
 ·rw[Qo m (p - r - 1) p r A (by lia) hm,e,Rat.intCast_neg];grind
 ·rcases h.one with z | z
  ·right;lia
  ·left;lia
theorem mQ {l:List Int}(h:x < l.length):l[x]?=some (l.getD x 0):=by rw[getD_eq_getElem?_getD,getElem?_eq_getElem h];rfl
theorem vS {l:List Int}(h:l.length<=x):l.getD x 0=0:=by rw[getD_eq_getElem?_getD,getElem?_eq_none h];rfl
theorem Kf (h:SI m w A0 R r col d sg)(B:Bar m A (at2 R) r col (d:Rat) c)(hr:r < m)(hc:col < w)(he:ent R r col≠0)(hi:i < m)(hir:i≠r)(x:Nat):
  ∃z:Int,(gV (R.getD r []) (R.getD i []) col d).getD x 0=z/\(z:Rat)=clr (at2 R) r col (d:Rat) i x/\(x < w->ent R r col*ent R i x - ent R i col*ent R r x=d*z):=by
 have dn:d≠0:=fun z=>B.dne (by rw[z];simp);have dq:=B.dne;have heq:at2 R r col≠0:=fun z=>he (Rat.intCast_inj.mp (by unfold at2 at z;simpa using z));have wi:=h.wid i hi;have wr:=h.wid r hr
 by_cases hx:x < w
 ·obtain⟨z,hz⟩:=B.wV hr heq i x hi;have e1:ent R r col*ent R i x - ent R i col*ent R r x=d*z:=by
   rw[mD _ hir] at hz;have:((ent R r col*ent R i x - ent R i col*ent R r x:Int):Rat)=((d*z:Int):Rat):=by
    rw[Rat.intCast_sub,Rat.intCast_mul,Rat.intCast_mul,Rat.intCast_mul,<- hz];show at2 R r col*at2 R i x - at2 R i col*at2 R r x=_;grind
   exact Rat.intCast_inj.mp this
  refine⟨z,?_,hz.symm,fun _=>e1⟩;unfold gV;have g1:(R.getD i [])[x]?=some ((R.getD i []).getD x 0):=mQ (by lia);have g2:(R.getD r [])[x]?=some ((R.getD r []).getD x 0):=mQ (by lia);rw[getD_eq_getElem?_getD (l:=zipWith _ _ _),getElem?_zipWith,g1,g2];exact gD dn e1
 ·refine⟨0,?_,?_,fun h=>absurd h hx⟩
  ·unfold gV;exact vS (by rw[length_zipWith,wi,wr];lia)
  ·rw[mD _ hir];have a1:at2 R i x=0:=by unfold at2 ent;rw[vS (by lia)];simp
   have a2:at2 R r x=0:=by unfold at2 ent;rw[vS (by lia)];simp
   rw[a1,a2];simp;grind
theorem SI.clear (h:SI m w A0 R r col d sg)(hr:r < m)(hc:col < w)(he:ent R r col≠0):SI m w A0 (cG R r col d) (r+1) (col+1) (ent R r col) sg:=by
 obtain⟨A,c,B,e⟩:=h.bar;have hl:=h.len;have heq:at2 R r col≠0:=fun z=>he (Rat.intCast_inj.mp (by unfold at2 at z;simpa using z));refine⟨(Jb R r col d).trans hl,fun i hi=>?_,⟨A,_,(B.clear hr heq).congr fun i hi=>?_,e⟩,h.one⟩
 ·rw[pB (by lia)];split
  ·exact h.wid i hi
  ·unfold gV;rw[length_zipWith,h.wid i hi,h.wid r hr,Nat.min_self]
 ·funext x
  show clr (at2 R) r col (d:Rat) i x=((((cG R r col d).getD i []).getD x 0:Int):Rat)
  rw[pB (by lia)]
  by_cases hir:i=r
  ·rw[if_pos hir,hir,Al];rfl
  ·rw[if_neg hir];obtain⟨z,h1,h2,_⟩:=Kf h B hr hc he hi hir x;rw[h1,h2]
def BdR (n:Nat)(R:List (List Int)):Prop:=∀i x,B n (ent R i x)
theorem SI.whole (h:SI m w A0 R m m d sg):det m A0=(sg:Rat)*(d:Rat):=by
 obtain⟨A,c,B,e⟩:=h.bar;have f:=B.full rfl;have i5:=B.i5;have:det m (fun i j=>A i (c j))=det m A:=cL fun i j _ hj=>by show A i (c j)=A i j;rw[f j hj]
 rw[this,e] at i5;rcases h.one with z | z
 ·rw[z] at i5 ⊢;simp at i5 ⊢;exact i5
 ·rw[z,Rat.intCast_neg] at i5 ⊢;simp at i5 ⊢;grind
theorem SI.lame (h:SI m w A0 R r m d sg)(hr:r < m):det m A0=0:=by
 obtain⟨A,c,B,e⟩:=h.bar;obtain⟨n,rfl⟩:∃n,m=n+1:=⟨m - 1,by lia⟩
 have dq:=B.dne;have e1:det (n+1) A=F n A id (A n):=by
  unfold F;exact cL fun i j hi _=>by
   unfold Bv
   by_cases z:i=n
   ·rw[if_pos z,z];rfl
   ·rw[if_neg z];rfl
 have hΦ:=Ih n A id;have z:=B.i6 _ hΦ fun s hs=>Jj n A id (by lia);have eA:A n=fun x=>(fun x=>(1 / (d:Rat))*at2 R n x) x+(1 / (d:Rat))*(fun x=>rs r fun k=>A n (c k)*at2 R k x) x:=by
  funext x
  have:=B.i4 n x (by lia);rw[if_neg (by lia)] at this;show A n x=(1 / (d:Rat))*at2 R n x+(1 / (d:Rat))*(rs r fun k=>A n (c k)*at2 R k x)
  grind
 have zs:(rs r fun k=>A n (c k)*F n A id (at2 R k))=0:=by
  have:(rs r fun k=>A n (c k)*F n A id (at2 R k))=rs r fun _=>0:=aT fun k hk=>by rw[z k hk];grind
  rw[this,eE]
 have zn:F n A id (at2 R n)=0:=by
  rw[Kx];have:(rs (n+1) fun j=>sgn (n+j)*at2 R n (id j)*det n fun i k=>A i (id (Mq.skip j k)))=rs (n+1) fun _=>0:=aT fun j hj=>by
   rw[show at2 R n (id j)=0 from B.i3 n j (by lia) (by lia) hj];grind
  rw[this,eE]
 have:det (n+1) A=0:=by
  rw[e1,eA,hΦ,hΦ.mul,hΦ.sum,zs,zn];grind
 rw[this] at e;rcases h.one with q | q
 ·rw[q] at e;simp at e;exact e.symm
 ·rw[q,Rat.intCast_neg] at e;simp at e;grind
def Lq:Nat->(Nat->Rat)->Rat
 |0,_=>1
 |n+1,b=>Lq n b*b n
theorem sK:∀(n:Nat) (b:Nat->Rat) (Q:Mat),det n (fun i j=>b i*Q i j)=Lq n b*det n Q
 |0,_,_=>by simp[det,Lq]
 |n+1,b,Q=>by
  rw[gG,gG,<- fV];refine aT fun j _=>?_;have:=sK n b (fun i k=>Q i (Mq.skip j k));show sgn (n+j)*(b n*Q n j)*det n (fun i k=>b i*Q i (Mq.skip j k))=Lq n b*b n*_;rw[this];grind
end Mq
open Mq (BdR Bg Lq Mat SI cG cL ent fY gV mQ pB sK wX)
namespace Shp
open PySem L2
inductive Imx (D:Addr) (H:Hp):List V->List (List Int)->Prop where
 |nil:Imx D H [] []
 |cons {u:Addr} {r:List Int} {us:List V} {R:List (List Int)} (ne:u≠D) (h:H u=some (.lst (r.map V.int))) (q:Imx D H us R):Imx D H (.ref u :: us) (r :: R)
theorem Imx.same (e:aW H H'):∀{xs:List V} {R:List (List Int)},Imx D H xs R->Imx D H' xs R
 |_,_,.nil=>.nil
 |_,_,.cons n h q=>.cons n (e _ _ h) (q.same e)
theorem Imx.upd:∀{xs:List V} {R:List (List Int)},Imx D H xs R->Imx D (L2.upd H D o) xs R
 |_,_,.nil=>.nil
 |_,_,.cons n h q=>.cons n (by rw[aL n];exact h) q.upd
theorem Imx.length:∀{xs:List V} {R:List (List Int)},Imx D H xs R->xs.length=R.length
 |_,_,.nil=>rfl
 |_,_,.cons _ _ q=>by rw[length_cons,length_cons,q.length]
theorem Imx.get:∀{xs:List V} {R:List (List Int)} {i:Nat} {x:V},Imx D H xs R->xs[i]?=some x->∃u r,x=.ref u/\R[i]?=some r/\u≠D/\H u=some (.lst (r.map V.int))
 |_,_,0,_,.cons n h q,e=>by simp at e;exact⟨_,_,e.symm,rfl,n,h⟩
 |_,_,i+1,_,.cons n h q,e=>by simp at e;exact q.get e
theorem Imx.at (h:Imx D H xs R)(hi:i < R.length):∃u,xs[i]?=some (.ref u)/\u≠D/\H u=some (.lst ((R.getD i []).map V.int)):=by
 have hx:i < xs.length:=by rw[h.length];exact hi
 obtain⟨u,r,e1,e2,e3,e4⟩:=h.get (getElem?_eq_getElem hx);refine⟨u,by rw[getElem?_eq_getElem hx,e1],e3,?_⟩;rw[getD_eq_getElem?_getD,e2];exact e4
theorem Imx.app:∀{xs ys:List V} {R S:List (List Int)},Imx D H xs R->Imx D H ys S->Imx D H (xs++ys) (R++S)
 |_,_,_,_,.nil,k=>k
 |_,_,_,_,.cons n h q,k=>.cons n h (q.app k)
theorem Imx.set (hn:u≠D)(hu:H u=some (.lst (r.map V.int))):∀{xs:List V} {R:List (List Int)} (i:Nat),Imx D H xs R->Imx D H (xs.set i (.ref u)) (R.set i r)
 |_,_,_,.nil=>by simp;exact .nil
 |_,_,0,.cons n h q=>.cons hn hu q
 |_,_,i+1,.cons n h q=>.cons n h (q.set hn hu i)
theorem Imx.other (hD:H D'=none):∀{xs:List V} {R:List (List Int)},Imx D H xs R->Imx D' H xs R
 |_,_,.nil=>.nil
 |_,_,.cons n h q=>.cons (fun z=>by rw[z,hD] at h;cases h) h (q.other hD)
theorem lB {l:List Int}(h:i < l.length):(l.map V.int)[i]?=some (.int (l.getD i 0)):=by
 rw[getElem?_map,mQ h];rfl
def Xu (K:Frag):Sp:=fun vs H Q _=>∃(a:Addr) (xs:List V) (ps:List Q2) (n:Nat),vs=[.ref a]/\SqL K H a xs/\Fqs K H xs ps/\Mq.Pos ps/\(∀p∈ps,Bd n p)/\ps.length<=100/\10+n+n*ps.length<=8000/\
 ∀t l H',aW H H'->H l=none->SqT K H' t [.ref l,.int (dX ps)]->H' l=some (.lst ((iw ps).map V.int))->Q (.ref t) H'
def Xo (K:Frag):Sp:=fun vs H Q _=>∃(l D:Addr) (zs:List V) (R:List (List Int)) (r c m w:Nat),vs=[.ref l,.int (r:Int),.int (c:Int)]/\SqL K H l zs/\Imx D H zs R/\R.length=m/\(∀i,i < m->(R.getD i []).length=w)/\c < w/\r<=m/\m<=100/\
 (∀p,r<=p->p < m->ent R p c≠0->Q (.int (p:Int)) H)/\((∀i,r<=i->i < m->ent R i c=0)->Q .non H)
def yN (K:Frag):Sp:=fun vs H Q _=>∃(u v:Addr) (row upper:List Int) (c n:Nat) (dv:Int),vs=[.ref u,.ref v,.int (c:Int),.int dv]/\SqL K H u (row.map V.int)/\SqL K H v (upper.map V.int)/\row.length=upper.length/\row.length<=100/\c < row.length/\dv≠0/\
 (∀i,Mq.B n (row.getD i 0))/\(∀i,Mq.B n (upper.getD i 0))/\Mq.B n dv/\n<=9000/\
 ∀l H',aW H H'->H l=none->H' l=some (.lst ((gV upper row c dv).map V.int))->Q (.ref l) H'
def yO (K:Frag):Sp:=fun vs H Q _=>∃(l D:Addr) (zs:List V) (R:List (List Int)) (r c m w n:Nat) (dv:Int),vs=[.ref l,.int (r:Int),.int (c:Int),.int dv]/\SqL K H l zs/\Imx D H zs R/\R.length=m/\(∀i,i < m->(R.getD i []).length=w)/\c < w/\w<=100/\r < m/\m<=100/\dv≠0/\BdR n R/\Mq.B n dv/\n<=9000/\
 ∀l' zs' H',aW H H'->H l'=none->H' l'=some (.lst zs')->Imx l' H' zs' (cG R r c dv)->Q (.ref l') H'
def Re (l:Addr)(rank:Nat)(pivot sign:Int):HO:=.dK (kE [] [(.inr "rows",.ref l),(.inr "rank",.int (rank:Int)),(.inr "pivot",.int pivot),(.inr "sign",.int sign)])
def wgt (X:List (List Q2)):Rat:=Mq.det X.length fun i j=>Mq.val ((X.getD i []).getD j Mq.z0)
theorem Cf (h:H d=some (Re l rank pivot sign)):iR H d (.str "rows") (some (.ref l))/\iR H d (.str "rank") (some (.int (rank:Int)))/\iR H d (.str "pivot") (some (.int pivot))/\iR H d (.str "sign") (some (.int sign)):=by
 refine⟨?_,?_,?_,?_⟩
 ·exact iR.k (k:=(Sum.inr "rows":Key)) h
 ·exact iR.k (k:=(Sum.inr "rank":Key)) h
 ·exact iR.k (k:=(Sum.inr "pivot":Key)) h
 ·exact iR.k (k:=(Sum.inr "sign":Key)) h
def tH (X:List (List Q2)):Int:=X.foldl (fun b row=>b*dX row) 1
theorem xU {X:List (List Q2)}(h:X[i]?=some row):tH (X.take (i+1))=tH (X.take i)*dX row:=by
 unfold tH;rw[take_add_one,h,foldl_append];rfl
theorem rF (X:List (List Q2)):∀i,i<=X.length->((tH (X.take i):Int):Rat)=Lq i fun k=>((dX (X.getD k []):Int):Rat)
 |0,_=>by simp[tH,Lq]
 |i+1,h=>by
  have e:X[i]?=some (X.getD i []):=by rw[getD_eq_getElem?_getD,getElem?_eq_getElem (by assumption)];rfl
  rw[xU e,Rat.intCast_mul,rF X i (by lia)];rfl
theorem Af (hX:gF X):∀i,i<=X.length->1<=tH (X.take i)
 |0,_=>by show (1:Int)<=1;decide
 |i+1,h=>by
  have e:X[i]?=some (X.getD i []):=by rw[getD_eq_getElem?_getD,getElem?_eq_getElem (by assumption)];rfl
  rw[xU e];have h1:=Af hX i (by lia);have h2:=tQ (hX _ (mem_of_getElem? e));have:=Int.mul_pos (by assumption:0 < tH (X.take i)) (by assumption:0 < dX (X.getD i []));assumption
theorem Pg (hp:Mq.Pos row)(hj:j < row.length):(((iw row).getD j 0:Int):Rat)=((dX row:Int):Rat)*Mq.val (row.getD j Mq.z0):=by
 have ej:row[j]?=some (row.getD j Mq.z0):=by rw[getD_eq_getElem?_getD,getElem?_eq_getElem hj];rfl
 have mem:row.getD j Mq.z0∈row:=mem_of_getElem? ej;obtain⟨k,hk⟩:=Dr hp _ mem;have e2:(iw row).getD j 0=Ez (dX row) (row.getD j Mq.z0):=by
  unfold iw;rw[getD_eq_getElem?_getD,getElem?_map,ej];rfl
 rw[e2,Mq.Na (hp _ mem) hk];grind
theorem uR (row:List Q2):(iw row).length=row.length:=by unfold iw;simp
end Shp
namespace Mq
theorem lU (m a:Nat)(v:Rat)(h:a < m):(rs m fun i=>if i=a then v else 0)=v:=by
 induction m with
 |zero=>lia
 |succ m ih=>
  simp only[rs]
  by_cases e:m=a
  ·subst e;rw[if_pos rfl];have:(rs m fun i=>if i=m then v else 0)=rs m fun _=>0:=aT fun i hi=>by rw[if_neg (by lia)]
   rw[this,eE];grind
  ·rw[if_neg e,ih (by lia)];grind
theorem qe9 (m p r:Nat)(hp:p < m)(hr:r < m)(F:Nat->Rat):(rs m fun i=>F (sw p r i))=rs m F:=by
 by_cases e:p=r
 ·subst e;exact aT fun i _=>by
   congr 1;unfold sw
   by_cases h:i=p
   ·rw[if_pos h,h]
   ·rw[if_neg h,if_neg h]
 have:(rs m fun i=>F (sw p r i))=rs m fun i=>F i+((if i=r then F p - F r else 0)+(if i=p then F r - F p else 0)):=aT fun i _=>by
  unfold sw
  by_cases h1:i=r
  ·rw[if_pos h1,if_pos h1,if_neg (by lia),h1];grind
  ·rw[if_neg h1,if_neg h1]
   by_cases h2:i=p
   ·rw[if_pos h2,if_pos h2,h2];grind
   ·rw[if_neg h2,if_neg h2];grind
 rw[this,fI,fI,lU m r _ hr,lU m p _ hp];grind
structure LI (m:Nat) (Aq:Mat) (R:List (List Int)):Prop where
 lin:∀i x,i < m->x < m->at2 R i x=rs m fun k=>at2 R i (m+k)*Aq k x
 ind:∀lam:Nat->Rat,(∀j,j < m->(rs m fun i=>lam i*at2 R i (m+j))=0)->∀i,i < m->lam i=0
theorem rA (hp:p < R.length)(hr:r < R.length)(i x:Nat):at2 (fY R p r) i x=at2 R (sw p r i) x:=by
 show ((((fY R p r).getD i []).getD x 0:Int):Rat)=_;rw[Bg hp hr];rfl
theorem LI.swap {m:Nat}{Aq:Mat}{R:List (List Int)}(h:LI m Aq R)(hl:R.length=m){p r:Nat}(hp:p < m)(hr:r < m):LI m Aq (fY R p r) where
 lin:=fun i x hi hx=>by
  rw[rA (by lia) (by lia),h.lin _ x (Bo hp hr hi) hx];exact aT fun k _=>by rw[rA (by lia) (by lia)]
 ind:=fun lam hz i hi=>by
  have:=h.ind (fun i=>lam (sw p r i)) (fun j hj=>by
   rw[<- hz j hj,<- qe9 m p r hp hr];exact aT fun i _=>by
    show lam (sw p r (sw p r i))*_=_;rw[Qf,rA (by lia) (by lia)]) (sw p r i) (Bo hp hr hi)
  have e:lam (sw p r (sw p r i))=0:=this
  rwa [Qf] at e
theorem uE (h:SI m w A0 R r col d sg)(hr:r < m)(hc:col < w)(he:ent R r col≠0)(hi:i < m)(x:Nat):
  at2 (cG R r col d) i x=if i=r then at2 R i x else (at2 R r col*at2 R i x - at2 R i col*at2 R r x) / (d:Rat):=by
 obtain⟨A,c,B,e⟩:=h.bar;have hl:=h.len;show ((((cG R r col d).getD i []).getD x 0:Int):Rat)=_;rw[pB (by lia)]
 by_cases hir:i=r
 ·rw[if_pos hir,if_pos hir];rfl
 ·rw[if_neg hir,if_neg hir];obtain⟨z,h1,h2,_⟩:=Kf h B hr hc he hi hir x;rw[h1,h2,mD _ hir]
theorem SI.dne (h:SI m w A0 R r col d sg):(d:Rat)≠0:=by
 obtain⟨A,c,B,e⟩:=h.bar;exact B.dne
theorem LI.clear (h:LI m Aq R)(s:SI m w A0 R r col d sg)(hr:r < m)(hc:col < w)(he:ent R r col≠0):LI m Aq (cG R r col d):=by
 have dn:=s.dne;have hn:at2 R r col≠0:=fun z=>he (Rat.intCast_inj.mp (by unfold at2 at z;simpa using z));have cl:=fun (i:Nat) (hi:i < m) (x:Nat)=>uE s hr hc he hi x;refine⟨fun i x hi hx=>?_,fun lam hz i hi=>?_⟩
 ·rw[cl i hi x]
  by_cases e:i=r
  ·rw[if_pos e,h.lin i x hi hx];exact aT fun k _=>by rw[cl i hi,if_pos e]
  ·rw[if_neg e,h.lin i x hi hx,h.lin r x hr hx];have:(rs m fun k=>at2 (cG R r col d) i (m+k)*Aq k x)=rs m fun k=>(at2 R r col / (d:Rat))*(at2 R i (m+k)*Aq k x)+(-(at2 R i col / (d:Rat)))*(at2 R r (m+k)*Aq k x):=aT fun k _=>by rw[cl i hi,if_neg e];grind
   rw[this,fI,fV,fV];grind
 ·-- the factors of the rows as they were
  have key:=h.ind (fun i=>if i=r then lam r - (rs m fun k=>if k=r then 0 else lam k*(at2 R k col / (d:Rat))) else lam i*(at2 R r col / (d:Rat))) (fun j hj=>by
   have e0:=hz j hj;have e1:(rs m fun i=>lam i*at2 (cG R r col d) i (m+j))=rs m fun i=>(if i=r then lam r*at2 R r (m+j) else 0)+((if i=r then 0 else lam i*(at2 R r col / (d:Rat))*at2 R i (m+j))+(-(at2 R r (m+j)))*(if i=r then 0 else lam i*(at2 R i col / (d:Rat)))):=aT fun i hi=>by
    rw[cl i hi]
    by_cases e:i=r
    ·rw[if_pos e,if_pos e,if_pos e,if_pos e,e];grind
    ·rw[if_neg e,if_neg e,if_neg e,if_neg e];grind
   rw[e1,fI,fI,fV,lU m r _ hr] at e0;have e2:(rs m fun i=>(if i=r then lam r - (rs m fun k=>if k=r then 0 else lam k*(at2 R k col / (d:Rat))) else lam i*(at2 R r col / (d:Rat)))*at2 R i (m+j))=rs m fun i=>(if i=r then (lam r - (rs m fun k=>if k=r then 0 else lam k*(at2 R k col / (d:Rat))))*at2 R r (m+j) else 0)+(if i=r then 0 else lam i*(at2 R r col / (d:Rat))*at2 R i (m+j)):=aT fun i _=>by
    by_cases e:i=r
    ·rw[if_pos e,if_pos e,if_pos e,e];grind
    ·rw[if_neg e,if_neg e,if_neg e];grind
   rw[e2,fI,lU m r _ hr];grind)
  have other:∀k,k < m->k≠r->lam k=0:=fun k hk e=>by
   have:=key k hk;rw[if_neg e] at this;have n2:at2 R r col / (d:Rat)≠0:=fun z=>hn (by grind);grind
  by_cases e:i=r
  ·have:=key r hr;rw[if_pos rfl] at this;have z:(rs m fun k=>if k=r then 0 else lam k*(at2 R k col / (d:Rat)))=rs m fun _=>0:=aT fun k hk=>by
    by_cases e:k=r
    ·rw[if_pos e]
    ·rw[if_neg e,other k hk e];grind
   rw[z,eE] at this;rw[e];grind
  ·exact other i hi e
theorem LI.lame (h:LI m Aq R)(s:SI m w A0 R r m d sg)(hr:r < m):(∃k,k < m/\ent R (m - 1) (m+k)≠0)/\∀x,x < m->(rs m fun k=>at2 R (m - 1) (m+k)*Aq k x)=0:=by
 obtain⟨A,c,B,e⟩:=s.bar;refine⟨Classical.byContradiction fun n=>?_,fun x hx=>?_⟩
 ·have all:∀k,k < m->ent R (m - 1) (m+k)=0:=fun k hk=>Classical.byContradiction fun z=>n ⟨k,hk,z⟩;have:=h.ind (fun i=>if i=m - 1 then 1 else 0) (fun j hj=>by
   have:(rs m fun i=>(if i=m - 1 then (1:Rat) else 0)*at2 R i (m+j))=rs m fun _=>0:=aT fun i _=>by
    by_cases e:i=m - 1
    ·rw[if_pos e,e];have:at2 R (m - 1) (m+j)=0:=by unfold at2;rw[all j hj];simp
     rw[this];grind
    ·rw[if_neg e];grind
   rw[this,eE]) (m - 1) (by lia)
  rw[if_pos rfl] at this;grind
 ·rw[<- h.lin (m - 1) x (by lia) hx];exact B.i3 (m - 1) x (by lia) (by lia) hx
end Mq
namespace PySem
open Sem (wp)
section
variable {prog:Program} {w:World} {A:Around} {E:Value->Shared->Prop} {h:Heap} {g:Array GenState} {d:Drawn} {t:Nat} {os:OsState}
variable {nm q:Str} {C N f:Addr} {bs bm bmB:List Value} {hdct:Bool} {sn:List Str} {sub:List Value} {ab:Bool} {col:Option Bool} {dd:Option Addr} {k0 k1 k2 k3 k5:Option Value} {B Bn newId nid initId inN:String} {bmN:List Value}
abbrev gE (h:Heap)(C:Addr)(rest:List Value):Heap:=(h.push { cls:=.type "tuple",data:=.seq rest.toArray }).push { cls:=.ref C,data:=.fields #[.ref h.objs.size,.none,.none,.none,.bool false,.none] }
theorem uW (Fn:ExcBaseFacts Bn newId inN bmN)(hBn:bmB.contains (.type Bn)=true)(F:ExcBaseFacts B nid initId bmB)(T:OwnTail h bmB bm)(hC:h.get? C=some (excClassObj nm q C N bs bm hdct sn sub ab col dd k0 k1 k2 k3 k5 newId))(hl:W.Looks (model prog w) h (typeLookup (.ref C) "__init__") (some (.ref f)))(hb:∀self,W.Looks (model prog w) h (bindSpecial (.ref f) self) (.ref f,[self]))(hq:wpAny (model prog w) A (call (.ref f) (.ref (h.objs.size+1) :: rest)) (fun r s'=>r=.none/\Q (.done (.ret (.ref (h.objs.size+1)))) s') E ⟨gE h C rest,g,d,t,os⟩)(hrest:rest.length<=sizeLine):
  wpAny (model prog w) A (Builtin.«type.__call__» ⟨.ref C :: rest,[]⟩) Q E ⟨h,g,d,t,os⟩:=by
 repeat (first | with_reducible refine wpAny_loadPart_at hC ?_ | with_reducible refine wpAny_madeBy_exc hC ?_ | wp_step)
 refine codeAny_call_builtin_code (Code.quiet_builtin _ Fn.quiet) (wpAny_check_new_subU Fn hBn T hC ?_);refine codeAny_exc_new_subU Fn hBn F T hC ?_ hrest;show wpAny _ _ _ _ _ _;have k:∀b o,h.get? b=some o->(gE h C rest).get? b=some o:=fun b o e=>Heap.get?_push_of_some _ (Heap.get?_push_of_some _ e);have hC₁:=k _ _ hC;have hget:(gE h C rest).get? (h.objs.size+1)=some { cls:=.ref C,data:=.fields #[.ref h.objs.size,.none,.none,.none,.bool false,.none] }:=by
  have:=Heap.get?_push_size (h.push { cls:=.type "tuple",data:=.seq rest.toArray }) (o:={ cls:=.ref C,data:=.fields #[.ref h.objs.size,.none,.none,.none,.bool false,.none] }) rfl
  rwa [Heap.size_push] at this
 have hcC:(Value.ref C :: bm).contains (.ref C)=true:=by simp
 unfold isInstance
 repeat (first | with_reducible refine wpAny_loadPart_at hget ?_ | (with_reducible refine wpAny_isSubtype_exc hC₁ ?_;rw[hcC]) | wp_step)
 show wpAny _ _ (typeLookup (.ref C) _) _ _ _;refine(hl.keeps k).here ?_;refine wpAny_holding (wpAny_bind (((hb _).keeps k).here ?_));refine wpAny_bind (wpAny_mono hq (fun r s' z=>?_) fun _ _ z=>z);obtain⟨rfl,z⟩:=z;refine wpAny_pure ?_;exact wpAny_pure z
theorem Mf (Fn:ExcBaseFacts Bn newId inN bmN)(hBn:bmB.contains (.type Bn)=true)(F:ExcBaseFacts B nid initId bmB)(T:OwnTail h bmB bm)(hC:h.get? C=some (excClassObj nm q C N bs bm hdct sn sub ab col dd k0 k1 k2 k3 k5 newId))(hl:W.Looks (model prog w) h (typeLookup (.ref C) "__init__") (some (.ref f)))(hb:∀self,W.Looks (model prog w) h (bindSpecial (.ref f) self) (.ref f,[self]))(hq:wpAny (model prog w) (A.under (.builtin "type.__call__" ⟨.ref C :: rest,[]⟩)) (call (.ref f) (.ref (h.objs.size+1) :: rest)) (fun r s'=>r=.none/\Q (.ref (h.objs.size+1)) s') E ⟨gE h C rest,g,d,t,os⟩)(hrest:rest.length<=sizeLine):
  wpAny (model prog w) A (call (.ref C) rest) Q E ⟨h,g,d,t,os⟩:=by
 have f1:=tc_lookup;have f2:=tc_bind (.ref C);have hT:(⟨h,g,d,t,os⟩:Shared).TypeIs (.ref C) "type":=⟨_,hC,rfl⟩
 refine wpAny_call (codeAny_of_tree ?_);show wpAny _ _ (callAny (.ref C) _) _ _ _
 repeat (any_goals (first | assumption | with_reducible refine wpAny_loadPart_at hC ?_ | wp_step))
 refine⟨rfl,?_⟩;refine codeAny_call_builtin_at (Code.quiet_builtin _ (by decide +kernel)) entry_typeCall (wpAny_check_type_call_sub hC (uW Fn hBn F T hC hl hb ?_ hrest));exact hq
end
section
variable {M:Model} {A:Around} {E:Value->Shared->Prop} {env:Env}
variable {nm q:Str} {C N:Addr} {bs bm:List Value} {hdct:Bool} {sn:List Str} {sub:List Value} {ab:Bool} {col:Option Bool} {dd:Option Addr} {k0 k1 k2 k3 k5:Option Value} {newId:String}
theorem iE (hbase:bm.contains (.type "BaseException")=true)(hh:A.handled=none)(h:wpAny M A x (fun v s₁=>∃e t dx,v=.ref e/\s₁.heap.get? C=some (excClassObj nm q C N bs bm hdct sn sub ab col dd k0 k1 k2 k3 k5 newId)/\
   s₁.heap.get? e=some { cls:=.ref C,dict:=dx,data:=.fields #[.ref t,.none,.none,.none,.bool false,.none] }/\E (.ref e) s₁) E s):
  wpAny M A (raiseStmt env (some x) none) Q E s:=by
 have hcB:(Value.ref C :: bm).contains (.type "BaseException")=true:=by rw[contains_cons,hbase,Bool.or_true]
 unfold raiseStmt;refine wpAny_bind (wpAny_mono h (fun v s₁ h₁=>?_) fun _ _ x=>x);obtain⟨e,t,dx,rfl,hC,he,hE⟩:=h₁;obtain⟨hp,g,d,tk,os⟩:=s₁
 repeat (first | with_reducible refine wpAny_loadPart_at he ?_ | with_reducible refine wpAny_loadPart_at hC ?_ | (with_reducible refine wpAny_isSubtype_exc hC ?_;rw[hcB]) | wp_step)
 exact wpAny_raiseNew_none hh hE
end
section
variable {prog:Program} {w:World} {A:Around} {E:Value->Shared->Prop} {s:Shared} {env:Env}
variable {nm q:Str} {C N f:Addr} {bs bm bmB:List Value} {hdct:Bool} {sn:List Str} {sub:List Value} {ab:Bool} {col:Option Bool} {dd:Option Addr} {k0 k1 k2 k3 k5:Option Value} {B Bn newId nid initId inN:String} {bmN:List Value}
theorem Gr (Fn:ExcBaseFacts Bn newId inN bmN)(hBn:bmB.contains (.type Bn)=true)(F:ExcBaseFacts B nid initId bmB)(hbase:bm.contains (.type "BaseException")=true)(hh:A.handled=none)(hplain:(backTo cpos (starEach args env)).any (·.1)=false)(h:wpAny (model prog w) A (eval (.Name x np) env) (fun f' s₁=>f'=.ref C/\wpAny (model prog w) A (evalArgs (.ref C) true (backTo cpos (starEach args env)) [])
   (fun a s₂=>a.kw=[]/\a.pos.length<=sizeLine/\s₂.heap.get? C=some (excClassObj nm q C N bs bm hdct sn sub ab col dd k0 k1 k2 k3 k5 newId)/\OwnTail s₂.heap bmB bm/\
    W.Looks (model prog w) s₂.heap (typeLookup (.ref C) "__init__") (some (.ref f))/\(∀self,W.Looks (model prog w) s₂.heap (bindSpecial (.ref f) self) (.ref f,[self]))/\
    wpAny (model prog w) (A.under (.builtin "type.__call__" ⟨.ref C :: a.pos,[]⟩)) (call (.ref f) (.ref (s₂.heap.objs.size+1) :: a.pos)) (fun r s'=>r=.none/\∃t dx,s'.heap.get? C=some (excClassObj nm q C N bs bm hdct sn sub ab col dd k0 k1 k2 k3 k5 newId)/\
     s'.heap.get? (s₂.heap.objs.size+1)=some { cls:=.ref C,dict:=dx,data:=.fields #[.ref t,.none,.none,.none,.bool false,.none] }/\E (.ref (s₂.heap.objs.size+1)) s') E { s₂ with heap:=gE s₂.heap C a.pos }) E s₁) E s):
  wpAny (model prog w) A (exec (.Raise (some (.Call (.Name x np) args [] cpos)) none pos) env) Q E s:=by
 rw[arm_exec_Raise]
 first
  |refine wpAny_bind (wpAny_standAt (iE (C:=C) (nm:=nm) (q:=q) (N:=N) (bs:=bs) (bm:=bm) (hdct:=hdct) (sn:=sn) (sub:=sub) (ab:=ab) (col:=col) (dd:=dd) (k0:=k0) (k1:=k1) (k2:=k2) (k3:=k3) (k5:=k5) (newId:=newId) hbase hh (wpAny_bind (wpAny_mono (wpAny_Call_ofName (wpAny_mono h (fun f s₁ h₁=>?_) fun _ _ x=>x)) (fun v s₃ h₃=>wpAny_bind (wpAny_standAt (wpAny_pure h₃))) fun _ _ x=>x))))
  | (simp only[evalOpt,Option.map];refine wpAny_bind (wpAny_standAt (iE (C:=C) (nm:=nm) (q:=q) (N:=N) (bs:=bs) (bm:=bm) (hdct:=hdct) (sn:=sn) (sub:=sub) (ab:=ab) (col:=col) (dd:=dd) (k0:=k0) (k1:=k1) (k2:=k2) (k3:=k3) (k5:=k5) (newId:=newId) hbase hh (wpAny_bind (wpAny_mono (wpAny_Call_ofName (wpAny_mono h (fun f s₁ h₁=>?_) fun _ _ x=>x)) (fun v s₃ h₃=>wpAny_bind (wpAny_standAt (wpAny_pure h₃))) fun _ _ x=>x)))))
  | (refine wpAny_bind (wpAny_standAt (iE (C:=C) (nm:=nm) (q:=q) (N:=N) (bs:=bs) (bm:=bm) (hdct:=hdct) (sn:=sn) (sub:=sub) (ab:=ab) (col:=col) (dd:=dd) (k0:=k0) (k1:=k1) (k2:=k2) (k3:=k3) (k5:=k5) (newId:=newId) hbase hh ?_));refine wpAny_bind (wpAny_mono (wpAny_Call_ofName (wpAny_mono h (fun f s₁ h₁=>?_) fun _ _ x=>x)) (fun v s₃ h₃=>wpAny_bind (wpAny_standAt (wpAny_pure h₃))) fun _ _ x=>x))
 obtain⟨rfl,h₁⟩:=h₁;unfold callWith;refine wpAny_bind (wpAny_holding (wpAny_mono h₁ (fun a s₂ h₂=>wpAny_bind (wpAny_standAt ?_)) fun _ _ x=>x));obtain⟨apos,akw⟩:=a;obtain⟨hkw,hlen,hC,T,hl,hb,h₂⟩:=h₂;obtain rfl:akw=[]:=hkw;obtain⟨hp,g,d,tk,os⟩:=s₂;simp only[hplain];refine wpAny_bind (wpAny_keeperOf_exc hC ?_);refine wpAny_bind (Mf Fn hBn F T hC hl hb (wpAny_mono h₂ (fun r s' z=>?_) fun _ _ z=>z) hlen);obtain⟨rfl,t,dx,z1,z2,z3⟩:=z;exact⟨rfl,wpAny_bind (wpAny_holding (wpAny_point (wpAny_pure ⟨_,t,dx,rfl,z1,z2,z3⟩)))⟩
end
end PySem
namespace L2
open PySem PySem.Spec PyProof.Rows
def gZ (a:Addr)(C:Value)(d:Option Addr):HO:=.ext fun h=>∃t,h.get? a=some { cls:=C,dict:=d,data:=.fields #[.ref t,.none,.none,.none,.bool false,.none] }
theorem oZ (e:h.get? a=some { cls:=C,dict:=d,data:=.fields #[.ref t,.none,.none,.none,.bool false,.none] }):cK P w H h a (gZ a C d):=
 ⟨⟨t,e⟩,⟨_,e⟩,fun h1 h2 ⟨t',e'⟩ k=>⟨t',k _ e'⟩⟩
def oJ (H:Hp)(x:Addr):Hp:=fun b=>if b=x then none else H b
theorem jE (h:b≠x):oJ H x b=H b:=by unfold oJ;rw[if_neg h]
theorem Cc (H:Hp)(x:Addr):oJ H x x=none:=by unfold oJ;rw[if_pos rfl]
section
variable {X:Cx} {pins:List (Addr × Obj)} {σ:List (Option V)} {H:Hp} {s:Shared}
theorem Inv.forget (I:Inv X pins σ H s)(hx:H x=some (.ext φ)):Inv X pins σ (oJ H x) s:=by
 have non:∀b,H b=none->oJ H x b=none:=fun b e=>by unfold oJ;split;rfl;exact e
 have keep:∀b u,H b=some u->u≠.ext φ->oJ H x b=some u:=fun b u e n=>by
  have:b≠x:=fun z=>by rw[z,hx] at e;cases e;exact n rfl
  rw[jE this];exact e
 refine⟨I.ok,I.os,I.bare,⟨I.base.keep,I.base.slot,fun b o e1 e2 e3=>non b (I.base.free b o e1 e2 e3),I.base.there,fun b xs e=>keep b _ (I.base.tups b xs e) (fun z=>by cases z),fun b o u e=>keep b _ (I.base.frzs b o u e) (fun z=>by cases z),fun b ps e=>?_⟩,I.loc,I.cell,non _ I.free,fun y c e=>non _ (I.freeC y c e),fun p hp=>?_,fun b u e=>?_,I.len⟩
 ·obtain⟨more,q⟩:=I.base.tbls b ps e;exact⟨more,keep b _ q (fun z=>by cases z)⟩
 ·obtain⟨a1,a2,a3⟩:=I.pin p hp;exact⟨a1,non _ a2,a3⟩
 ·have ne:b≠x:=fun z=>by rw[z,Cc] at e;cases e
  rw[jE ne] at e;exact(I.hok b u e).stay (fun c v _ q=>q) (fun c q=>keep c _ q (fun z=>by cases z)) fun c xs q=>keep c _ q (fun z=>by cases z)
end
structure kK (K:Frag) (C C0 f:Addr):Prop where
 cls:∃(nm q:Str) (N:Addr) (bs:List Value) (sn:List Str) (sub:List Value) (ab:Bool) (col:Option Bool) (dd:Option Addr) (k0 k1 k2 k3 k5:Option Value),K.lookup C=some (excClassObj nm q C N bs (.ref C0 :: tG) true sn sub ab col dd k0 k1 k2 k3 k5 "ValueError.__new__")
 base:∃(nm q:Str) (N:Addr) (bs:List Value) (hdct:Bool) (sn:List Str) (sub:List Value) (ab:Bool) (col:Option Bool) (dd:Option Addr) (k0 k1 k2 k3 k5:Option Value),K.lookup C0=some (excClassObj nm q C0 N bs tG hdct sn sub ab col dd k0 k1 k2 k3 k5 "ValueError.__new__")
 exc:Wo K C0
 ini:W.findIn K (.ref C) "__init__"=some (some (.ref f))
 fn:W.typeIn K (.ref f)=some (.type "function")
theorem kK.tail {K:Frag}(e:kK K C C0 f)(X:K.In h):OwnTail h tG (.ref C0 :: tG):=by
 obtain⟨nm,q,N,bs,hdct,sn,sub,ab,col,dd,k0,k1,k2,k3,k5,l⟩:=e.base;have z:=e.exc;unfold Wo W.excIn at z;rw[l] at z;simp only[Bool.and_eq_true,beq_iff_eq,Bool.not_eq_true'] at z;obtain⟨⟨⟨⟨_,_⟩,ht⟩,hok⟩,hni⟩:=z;exact .own (X _ _ l) (.of_isNs (W.isNs_of_in X hok)) (W.nsMap_none_of_in X hok hni) .base
section
variable {X:Cx} {pins:List (Addr × Obj)} {σ:List (Option V)} {H:Hp} {s:Shared} {k:Nat} {f C C0:Addr} {fd:FuncData} {ps:List Str} {sp:Sp}
def Ug (C:Addr)(sp:Sp)(E:XK)(ta:TA):TS:=fun _ σ H=>ta σ H fun vs H1=>vs.length<=sizeLine/\∀x,H1 x=none->sp (.ref x :: vs) (upd H1 x (gZ x (.ref C) none)) (fun v H2=>v=.non/\∃dx,H2 x=some (gZ x (.ref C) dx)/\E (.ref C) dx (oJ H2 x)) E0
theorem zN (fm:Frm X)(xo:Wk X E)(hc:X.calm=true)(hg:Gl X x)(hm:X.mg x=some (.ref C))(q:kK X.K C C0 f)(F:aK X.prog X.w X.K X.mg X.base CX0 k f fd ps sp)(hr:gM (k+1) X.A)(hb:aM X.K fd ps [])(ha:PA X (e₀ :: es) ta)(hdb:(x == ("__debug__":Str))=false:=by decide)(he:starEach (e₀ :: es) X.env=(false,eval e₀ X.env) :: starEach es X.env:=by rfl)(hpl:(backTo cpos (starEach es X.env)).any (·.1)=false:=by rfl):
  PS X (.Raise (some (.Call (.Name x np) (e₀ :: es) [] cpos)) none pos) (Ug C sp E ta):=by
 intro pins s σ H D I h;obtain⟨nm,qn,N,bs,sn,sub,ab,col,dd,k0,k1,k2,k3,k5,lC⟩:=q.cls;have FB:=PySem.F.excBase_ValueError;have T:=q.tail I.mod.kin;refine Gr (C:=C) (f:=f) (nm:=nm) (q:=qn) (N:=N) (bs:=bs) (bm:=.ref C0 :: tG) (hdct:=true) (sn:=sn) (sub:=sub) (ab:=ab) (col:=col) (dd:=dd) (k0:=k0) (k1:=k1) (k2:=k2) (k3:=k3) (k5:=k5)
  FB (by decide) FB (T.hasType FB.hasBase) (I.ok.hd hc) (by rw[he];show (false || (backTo cpos (starEach es X.env)).any (·.1))=false;rw[hpl];rfl) (jA I hg hm ⟨rfl,?_⟩ hdb)
 have ha':=ha cpos pins s σ H _ I h;rw[he] at ha' ⊢;refine Calls.evalArgs_plain (wpAny_mono ha' (fun us s2 h2=>?_) fun _ _ y=>y);obtain⟨vs,H1,I1,r,hz,q1⟩:=h2;have kIn:=I1.kIn;refine⟨rfl,by rw[<- r.length];exact hz,kIn _ _ lC,q.tail kIn,W.looks_findIn kIn q.ini,fun self=>W.bind_fn kIn self q.fn,?_⟩;dsimp only;have kh:∀b o,s2.heap.get? b=some o->(gE s2.heap C us).get? b=some o:=fun b o e=>Heap.get?_push_of_some _ (Heap.get?_push_of_some _ e);have hget:(gE s2.heap C us).get? (s2.heap.objs.size+1)=some { cls:=.ref C,data:=.fields #[.ref s2.heap.objs.size,.none,.none,.none,.bool false,.none] }:=by
  have:=Heap.get?_push_size (s2.heap.push { cls:=.type "tuple",data:=.seq us.toArray }) (o:={ cls:=.ref C,data:=.fields #[.ref s2.heap.objs.size,.none,.none,.none,.bool false,.none] }) rfl
  rwa [Heap.size_push] at this
 have fr:H1 (s2.heap.objs.size+1)=none:=I1.hok.fresh (Nat.le_succ _);have I2:Inv X pins σ (upd H1 (s2.heap.objs.size+1) (gZ (s2.heap.objs.size+1) (.ref C) none)) { s2 with heap:=gE s2.heap C us }:=
  I1.laid (t':=s2.toks) kh (Nat.le_succ _) (oZ hget)
 have hq:=q1 _ fr;have rv:bQ (V.ref (s2.heap.objs.size+1) :: vs) (Value.ref (s2.heap.objs.size+1) :: us):=.cons rfl r;have hl:(Value.ref (s2.heap.objs.size+1) :: us++[]).length=ps.length:=by
  have e:=rv.length;rw[F.len _ _ _ _ hq] at e;rw[append_nil];exact e.symm
 refine wpAny_call (codeAny_mono (F.run _ X.stack _ _ ⟨Value.ref (s2.heap.objs.size+1) :: us,[]⟩ (Value.ref (s2.heap.objs.size+1) :: us) _ _ E0 (hr.make C us []) (I2.env0.make C us []) (by have:=hb _ (Value.ref (s2.heap.objs.size+1) :: us) I2.kIn hl;rwa [append_nil] at this) rv hq) fun res s' hq'=>?_)
 cases res with
 |error e=>exact(show False from hq').elim
 |ok fl=>
  cases fl with
  |ret u=>
   obtain⟨v,H',os,bare,un,hok,rvu,ev,dx,ex,q3⟩:=hq';subst ev;have J:Inv X pins σ H' s':=I2.call' (ch:=[]) os un hok bare fun b z=>absurd z (by simp);obtain⟨⟨t,ht⟩,_⟩:=(show cK X.prog X.w H' s'.heap _ (gZ _ (.ref C) dx) from J.hok _ _ ex)
   refine⟨rvu,t,dx,J.kIn _ _ lC,ht,?_⟩;refine xo pins σ _ s' _ (.ref C) dx ⟨J.forget ex,s2.heap,fun p hp z=>?_,fun b o e=>I1.base.there b o e (by rw[fm.ex];simp),fun b o e=>un.there b o (kh b o e) (by simp),⟨Iu (Nat.le_succ _),Cc _ _,_,_,.none,ht,rfl,rfl,rfl,rfl,.inl rfl⟩⟩ q3;rw[(I1.pin p hp).1] at z;cases z
  |next=>exact False.elim hq'
  |brk=>exact False.elim hq'
  |cont=>exact False.elim hq'
end
theorem Og (h:H a=some o):upd H a o=H:=by
 funext b
 by_cases e:b=a
 ·rw[e,aB,h]
 ·rw[aL e]
section
variable {X:Cx} {C C0 f:Addr}
theorem Bh:kL X (.builtin "ValueError.__init__") (fun xs H Q=>∃a C C0 f d v,xs=[.ref a,v]/\H a=some (gZ a (.ref C) d)/\kK X.K C C0 f/\Q .non H):=by
 intro pins s σ H xs us Q I r h;obtain⟨a,C,C0,f,d,v,rfl,ea,q,hq⟩:=h;obtain⟨u1,us',rfl,r1,r2⟩:∃u1 us',us=u1 :: us'/\cA (.ref a) u1/\bQ [v] us':=by cases r with | cons p q=>exact⟨_,_,rfl,p,q⟩
 obtain rfl:u1=Value.ref a:=r1;obtain⟨⟨t,he⟩,_⟩:=(show cK X.prog X.w H s.heap a (gZ a (.ref C) d) from I.hok a _ ea)
 obtain⟨nm,qn,N,bs,sn,sub,ab,col,dd,k0,k1,k2,k3,k5,lC⟩:=q.cls;have FB:=PySem.F.excBase_ValueError;have T:=q.tail I.kIn;have hl:us'.length=1:=r2.length.symm;have hC:=I.kIn _ _ lC;have fin:∀s',s'={ s with heap:=(s.heap.push { cls:=.type "tuple",data:=.seq us'.toArray }).update a (Obj.mapFields (·.setIfInBounds 0 (.ref s.heap.objs.size))) }->EP X pins σ Q .none s':=by
  rintro s' rfl;have I1:Inv X pins σ H { s with heap:=s.heap.push { cls:=.type "tuple",data:=.seq us'.toArray } }:=I.kept (t':=s.toks) fun b o e=>Heap.get?_push_of_some _ e;have he1:=Heap.get?_push_of_some (h:=s.heap) { cls:=.type "tuple",data:=.seq us'.toArray } he;have e2:=Heap.get?_update_self (Obj.mapFields (·.setIfInBounds 0 (.ref s.heap.objs.size))) he1 rfl;have I2:=I1.write (x:=a) (e:=a) (t':=s.toks) (o:=gZ a (.ref C) d) (by rw[ea];exact True.intro) (.inl rfl) (fun b u nb e=>(Heap.get?_update_other _ _ (Ne.symm nb)).trans e) ⟨_,e2⟩ (oZ (t:=s.heap.objs.size) e2);rw[Og ea] at I2;exact⟨.non,H,I2,rfl,hq⟩
 obtain⟨hp,g,dr,tk,os⟩:=s;refine wpAny_call (codeAny_call_builtin FB.init.plain FB.initEntry (wpAny_check_init_subU FB T hC he rfl ?_));unfold Builtin.«BaseException.__init__»;dsimp only;rw[if_neg (by simp)];unfold newTuple Builtin.BaseException.bexcPut;have he₁:=Heap.get?_push_of_some (h:=hp) { cls:=.type "tuple",data:=.seq us'.toArray } he;refine wpAny_bind (wpAny_newObj_type (wpAny_bind (wpAny_bind (wpAny_field he₁ rfl rfl (wpAny_bind (wpAny_setField he₁ rfl (by decide:0 < 6) ?_))))) (by show us'.toArray.size<=sizeLine;rw[size_toArray,hl];decide));exact wpAny_letGo (wpAny_pure (fin _ rfl))
structure Rg (K:Frag) (C0:Addr):Prop where
 sp:W.specialIn K (.ref C0) "__getattribute__"=some (some (.builtin "type.__getattribute__"))
 rd:W.readsIn K C0 (.type "type")=true
 fi:W.findCls K (.ref C0) (.type "type") "__init__"=some (.val (.builtin "ValueError.__init__"))
def Pb (K:Frag)(ta:TA):TE:=fun σ H Q=>ta σ H fun vs H1=>∃a C C0 f d v,vs=[.ref a,v]/\H1 a=some (gZ a (.ref C) d)/\kK K C C0 f/\Q .non H1
theorem Gz (hg:Gl X x)(hm:X.mg x=some (.ref C0))(c:Rg X.K C0)(ha:PA X (e :: es) t)(hdb:(x == ("__debug__":Str))=false:=by decide)(hst:starEach (e :: es) X.env=(false,eval e X.env) :: starEach es X.env:=by rfl)(hpl:(backTo pos (starEach es X.env)).any (·.1)=false:=by rfl)(ht:eval (.Call (.Attribute (.Name x np) "__init__" apos) (e :: es) [] pos) X.env=(do
   let ov <- eval (.Name x np) X.env
   standAt apos.atName
   let (f,first) <- holding [ov] (getMethod ov "__init__" pl)
   callWith pos f first (backTo pos (starEach (e :: es) X.env)) (backToKw pos (keywordEach [] X.env))):=by rfl):
  PE X (.Call (.Attribute (.Name x np) "__init__" apos) (e :: es) [] pos) (Pb X.K t):=by
 intro pins s σ H Q I h;refine W.methodCall_KW (pl:=pl) (jA I hg hm ?_ hdb) ht;refine W.method_cls I.kIn c.sp (W.cls_value I.kIn c.rd c.fi rfl ?_);have I':Inv X pins σ H { s with toks:=s.toks+1 }:=I.tok _;exact PyProof.Rows.callWith_builtin1 (thn (ha pos pins _ σ H _ I' h) fun us s1 ⟨vs,H1,I1,r1,q1⟩=>Bh pins s1 σ H1 vs us Q I1 r1 q1) hst hpl
end
section
variable {prog:Program} {w:World} {A:Around} {E:Value->Shared->Prop} {s:Shared} {K:Frag} {x C C0 f:Addr} {name:Str} {v:Value} {vs:Array Value}
theorem kK.cin (q:kK K C C0 f):∃cd,W.clsIn K C=some cd/\cd.mro=.ref C :: .ref C0 :: tG/\cd.hasDict=true:=by
 obtain⟨nm,qn,N,bs,sn,sub,ab,col,dd,k0,k1,k2,k3,k5,lC⟩:=q.cls;unfold W.clsIn;rw[lC];exact⟨_,rfl,rfl,rfl⟩
theorem Ir (X:K.In s.heap)(q:kK K C C0 f)(hx:s.heap.get? x=some { cls:=.ref C,data:=.fields vs })(hs:W.findIn K (.ref C) "__setattr__"=some (some (.builtin "object.__setattr__")))(hn:W.findIn K (.ref C) name=some none)(h:∀h',h'.get? x=some { cls:=.ref C,dict:=some s.heap.objs.size,data:=.fields vs }->h'.Ns1 s.heap.objs.size (fun y=>if y=name then some v else none)->(∀b o,b≠x->s.heap.get? b=some o->h'.get? b=some o)->∀tk,Q () { s with heap:=h',toks:=tk }):
  wpAny (model prog w) A (setAttr (.ref x) name v) Q E s:=by
 have J:W.InstAt s.heap x { cls:=.ref C,data:=.fields vs } C none:=⟨hx,rfl,rfl,trivial⟩
 have SF:=PySem.F.store_object;have SV:=PySem.F.store_ValueError;obtain⟨cd,hc,hm,hd⟩:=q.cin;refine W.set_plain X J hs ?_;have sub:W.Looks (model prog w) s.heap (isInstance (.ref x) (.type "object")) true:=J.type.andThen (W.looks_mroIn X (by unfold W.mroIn;rw[hc,Option.bind_some,hm];rfl));refine codeAny_call_builtin SF.slot.plain SF.entry (@W.check_slot (model prog w) _ _ { s with toks:=s.toks+1 } "object.__setattr__" "object" "__setattr__" (.ref x) [.str name s.toks,v] [] _ SF.kind SF.split sub (SF.args (.ref x) (.str name s.toks) v) ?_);have hmro:W.Looks (model prog w) s.heap (mroOf (.ref C)) cd.mro:=(W.looks_clsIn X hc).andThen .now;rw[W.osa_eq,refuse_eq];refine wpAny_bind (wpAny_bind (W.Looks.here (s:={ s with toks:=s.toks+1 }) J.type (wpAny_bind (W.Looks.here (s:={ s with toks:=s.toks+1 }) hmro ?_))));rw[hm,refuseLoop_ref,refuseLoop_ref,SV.passes];refine wpAny_pure (wpAny_bind (W.Looks.here (s:={ s with toks:=s.toks+1 }) J.type (wpAny_bind (W.Looks.here (s:={ s with toks:=s.toks+1 }) (W.looks_findIn X hn) (wpAny_bind (wpAny_pure ?_))))));dsimp only;refine wpAny_bind (wpAny_pure (wpAny_bind (wpAny_bind (wpAny_loadPart hx (wpAny_bind (W.Looks.here (s:={ s with toks:=s.toks+1 }) (W.looks_clsIn X hc) ?_))))));rw[hd,if_neg (by decide)];dsimp only;rw[if_neg (by simp[typeHasDict])];have hx₁:(s.heap.push { cls:=.type "dict",data:=.dict #[] }).get? x=some { cls:=.ref C,data:=.fields vs }:=Heap.get?_push_of_some _ hx;have hxs:x≠s.heap.objs.size:=Nat.ne_of_lt (Heap.lt_size hx);refine wpAny_bind (wpAny_alloc' ?_);refine wpAny_bind (wpAny_update' hx₁ ?_);refine wpAny_pure ?_;have hgd:((s.heap.push { cls:=.type "dict",data:=.dict #[] }).update x fun o=>{ cls:=o.cls,dict:=some s.heap.objs.size,data:=o.data,slots:=o.slots }).get? s.heap.objs.size
   = some { cls:=.type "dict",data:=.dict #[] }:=
  (Heap.get?_update_ne _ _ _ _ hxs.symm).trans (Heap.get?_push_at rfl rfl)
 have hnd:((s.heap.push { cls:=.type "dict",data:=.dict #[] }).update x fun o=>{ cls:=o.cls,dict:=some s.heap.objs.size,data:=o.data,slots:=o.slots }).Ns s.heap.objs.size (fun _=>none):=
  ⟨_,#[],_,hgd,rfl,fun e he=>absurd he (by simp),fun _=>rfl⟩
 show wpAny _ _ (Builtin.ObjectAttr.storeInDict s.heap.objs.size (.str name s.toks) name v) _ _ _;unfold Builtin.ObjectAttr.storeInDict Builtin.ObjectAttr.newKeyGuard;refine wpAny_bind (wpAny_pure (wpAny_bind (wpAny_nsSet1 (Heap.Ns1.of_empty hnd) fun h' hn' hs'=>?_)));obtain⟨oD,esD,epD,hoD,hdD,hcD⟩:=hn'.count (Within.cons name v Within.nil);refine wpAny_bind (wpAny_lookBehind hoD (by rw[hdD];exact pastItsLine_dict (Nat.le_trans hcD (by rw[length_cons,length_nil,sizeLine_eq];decide))) ?_);refine wpAny_pure ?_;refine h h' ?_ ?_ (fun b o nb e=>(hs'.2 b (Nat.ne_of_lt (Heap.lt_size e))).trans ((Heap.get?_update_ne _ _ _ _ nb).trans (Heap.get?_push_of_some _ e))) _
 ·exact(hs'.2 x hxs).trans (Heap.get?_update_self _ hx₁ rfl)
 ·exact hn'
end
section
variable {X:Cx} {o value:Expr} {nm:Str} {pos pos':Pos} {ta tv:TE}
structure Ar (K:Frag) (C:Addr) (nm:Str):Prop where
 sa:W.findIn K (.ref C) "__setattr__"=some (some (.builtin "object.__setattr__"))
 no:W.findIn K (.ref C) nm=some none
def qk1 (K:Frag)(ta tv:TE)(nm:Str):TS:=fun D σ H=>tv σ H fun y H1=>ta σ H1 fun x H2=>∃a C C0 f,x=.ref a/\H2 a=some (gZ a (.ref C) none)/\kK K C C0 f/\Ar K C nm/\
 ∀dx,H2 dx=none->D.nx σ (upd (upd H2 dx (.xd [(nm,y)])) a (gZ a (.ref C) (some dx)))
theorem Xh (ha:PE X o ta)(hv:PE X value tv)(hs:swapsWith value (some (.Attribute o nm pos')) pos.line X.env=pure false):PS X (.Assign [.Attribute o nm pos'] value pos) (qk1 X.K ta tv nm):=by
 intro pins s σ H D I h;refine plainObj_wpAny_Assign_Attribute (thn (hv pins s σ H _ I h) fun u s1 ⟨y,H1,I1,ry,q⟩=>thn (ha pins s1 σ H1 _ I1 q) fun ov s2 ⟨x,H2,I2,rx,a,C,C0,f,ex,ea,qi,qf,q2⟩=>?_) hs;subst ex;obtain rfl:ov=Value.ref a:=rx;obtain⟨⟨t,he⟩,_⟩:=(show cK X.prog X.w H2 s2.heap a (gZ a (.ref C) none) from I2.hok a _ ea)
 refine Ir I2.kIn qi he qf.sa qf.no fun h' e1 e2 e3 tk=>?_;have fr:H2 s2.heap.objs.size=none:=I2.hok.fresh (Nat.le_refl _);refine⟨σ,_,?_,q2 _ fr⟩;have na:a≠s2.heap.objs.size:=Nat.ne_of_lt (Heap.lt_size he);have u1:=Heap.get?_update_self (fun _:Obj=>({ cls:=.ref C,data:=.fields #[.ref t,.none,.none,.none,.bool false,.none] }:Obj)) e1 rfl;have u2:∀b,b≠a->(h'.update a fun _:Obj=>({ cls:=.ref C,data:=.fields #[.ref t,.none,.none,.none,.bool false,.none] }:Obj)).get? b=h'.get? b:=fun b nb=>Heap.get?_update_other _ _ (Ne.symm nb);generalize h'.update a (fun _:Obj=>({ cls:=.ref C,data:=.fields #[.ref t,.none,.none,.none,.bool false,.none] }:Obj))=h1 at u1 u2;have I3:Inv X pins σ (upd H2 s2.heap.objs.size (.xd [(nm,y)])) { s2 with heap:=h1,toks:=s2.toks }:=by
  refine I2.laid (a:=s2.heap.objs.size) (o:=.xd [(nm,y)]) (h':=h1) (t':=s2.toks) (fun b u e=>?_) (Nat.le_refl _) ?_
  ·by_cases nb:b=a
   ·subst nb;rw[he] at e;cases e;exact u1
   ·rw[u2 b nb];exact e3 b u nb e
  ·obtain⟨od,es,ep,z1,z2⟩:=e2;refine⟨_,⟨od,es,ep,(u2 _ (Ne.symm na)).trans z1,z2⟩,fun g=>?_⟩
   by_cases gg:g=nm
   ·subst gg;rw[if_pos rfl,lookup_cons,beq_self_eq_true];exact ry
   ·have:(g == nm)=false:=beq_eq_false_iff_ne.mpr gg;rw[if_neg gg,lookup_cons,this];exact True.intro
 have ea3:upd H2 s2.heap.objs.size (.xd [(nm,y)]) a=some (gZ a (.ref C) none):=by rw[aL na];exact ea
 exact I3.write (x:=a) (e:=a) (h':=h') (t':=tk) (by rw[ea3];exact True.intro) (.inl rfl) (fun b u nb z=>by rw[<- u2 b nb];exact z) ⟨_,e1⟩ (oZ e1)
end
section
variable {X:Cx} {o:Expr} {nm:Str} {pos:Pos} {ta:TE}
def qk6 (K:Frag)(ta:TE)(nm:Str):TE:=fun σ H Q=>ta σ H fun x H1=>∃a C dx fs v,x=.ref a/\H1 a=some (lM a (.ref C) (some dx))/\H1 dx=some (.xd fs)/\Cl K C/\W.hasDictIn K C=true/\W.findIn K (.ref C) nm=some none/\fs.lookup nm=some v/\Q v H1
theorem pD (he:PE X o ta)(hb:attributeBase o nm X.env (eval o X.env)=eval o X.env):PE X (.Attribute o nm pos) (qk6 X.K ta nm):=by
 intro pins s σ H Q I h;refine Jk hb (thn (he pins s σ H _ I h) fun u s1 ⟨x,H1,I1,rx,a,C,dx,fs,v,ex,ea,ed,k,hh,hn,l,q⟩=>?_);subst ex;obtain rfl:u=Value.ref a:=rx;obtain⟨⟨ob,vs,h1,h2,h3,h4⟩,_⟩:=(show cK X.prog X.w H1 s1.heap a (lM a (.ref C) (some dx)) from I1.hok a _ ea)
 obtain⟨mA,N1,r⟩:=(show cK X.prog X.w H1 s1.heap dx (.xd fs) from I1.hok dx _ ed)
 obtain⟨w',hw,rw'⟩:=kF.some_of (v:=v) (o:=mA nm) (by rw[<- l];exact r nm);obtain⟨od,ho,hl⟩:=rO N1;have J:W.InstAt s1.heap a ob C (some od):=⟨h1,h2,by unfold W.notCls;rw[h4],by rw[h3];exact ho⟩
 unfold getAttr;refine wpAny_bind (wpAny_mkText (Nz (s:={ s1 with toks:=s1.toks+1 }) k I1.kIn J (xS rw') (.inl (W.findObj_own hh hn rfl (by rw[hl,hw]))) ?_));exact⟨v,H1,I1.tok _,rw',q⟩
end
end L2
namespace Shp
open PySem L2
inductive Fmd (K:Frag) (H0:Hp) (D:Addr) (H:Hp):List V->List (List Q2)->Prop where
 |nil:Fmd K H0 D H [] []
 |cons {u:Addr} {xs:List V} {ps:List Q2} {us:List V} {X:List (List Q2)} (n0:H0 u=none) (ne:u≠D) (h:H u=some (.lst xs)) (f:Fqs K H xs ps) (q:Fmd K H0 D H us X):Fmd K H0 D H (.ref u :: us) (ps :: X)
theorem Fmd.length:∀{xs:List V} {X:List (List Q2)},Fmd K H0 D H xs X->xs.length=X.length
 |_,_,.nil=>rfl
 |_,_,.cons _ _ _ _ q=>by rw[length_cons,length_cons,q.length]
def rG (X:List (List Q2)):Mat:=fun i j=>Mq.val ((X.getD i []).getD j Mq.z0)
def nX (m i:Nat)(row:List Q2):List Int:=iw row++(List.range m).map fun c=>if c=i then dX row else 0
def kG (X:List (List Q2)):List (List Int):=X.mapIdx fun i row=>nX X.length i row
theorem Sy (X:List (List Q2)):(kG X).length=X.length:=by unfold kG;simp
theorem wD (h:i < X.length):(kG X).getD i []=nX X.length i (X.getD i []):=by
 unfold kG;rw[getD_eq_getElem?_getD,getElem?_mapIdx,getD_eq_getElem?_getD,getElem?_eq_getElem h];rfl
theorem xC {X:List (List Q2)}(h:i < X.length):X[i]?=some (X.getD i []):=by rw[getD_eq_getElem?_getD,getElem?_eq_getElem h];rfl
theorem Cz (m i:Nat)(row:List Q2):(nX m i row).length=row.length+m:=by unfold nX;simp[uR]
theorem yU (hX:gF X)(hw:∀row∈X,row.length=X.length)(hi:i < X.length)(hx:x < X.length):Mq.at2 (kG X) i x=((dX (X.getD i []):Int):Rat)*rG X i x:=by
 have mem:=mem_of_getElem? (xC hi);show ((((kG X).getD i []).getD x 0:Int):Rat)=_;rw[wD hi];unfold nX;have l:=hw _ mem;rw[getD_eq_getElem?_getD,getElem?_append_left (by rw[uR];lia),<- getD_eq_getElem?_getD];exact Pg (hX _ mem) (by lia)
theorem wS (hw:∀row∈X,row.length=X.length)(hi:i < X.length)(hk:k < X.length):ent (kG X) i (X.length+k)=if k=i then dX (X.getD i []) else 0:=by
 have mem:=mem_of_getElem? (xC hi);unfold ent;rw[wD hi];unfold nX;have l:=hw _ mem;rw[getD_eq_getElem?_getD,getElem?_append_right (by rw[uR];lia),uR,l,Nat.add_sub_cancel_left,getElem?_map,getElem?_range hk];rfl
theorem Vx {X:List (List Q2)}(hX:gF X)(hw:∀row∈X,row.length=X.length):Mq.LI X.length (rG X) (kG X) where
 lin:=fun i x hi hx=>by
  rw[yU hX hw hi hx];have:(Mq.rs X.length fun k=>Mq.at2 (kG X) i (X.length+k)*rG X k x)=Mq.rs X.length fun k=>if k=i then ((dX (X.getD i []):Int):Rat)*rG X i x else 0:=aT fun k hk=>by
   show ((ent (kG X) i (X.length+k):Int):Rat)*_=_;rw[wS hw hi hk]
   by_cases e:k=i
   ·rw[if_pos e,if_pos e,e]
   ·rw[if_neg e,if_neg e];simp
  rw[this,Mq.lU _ _ _ hi]
 ind:=fun lam hz i hi=>by
  have e:=hz i hi;have:(Mq.rs X.length fun j=>lam j*Mq.at2 (kG X) j (X.length+i))=Mq.rs X.length fun j=>if j=i then lam i*((dX (X.getD i []):Int):Rat) else 0:=aT fun k hk=>by
   show _*((ent (kG X) k (X.length+i):Int):Rat)=_;rw[wS hw hk hi]
   by_cases e:k=i
   ·rw[if_pos e,if_pos e.symm,e]
   ·rw[if_neg e,if_neg (Ne.symm e)];simp
  rw[this,Mq.lU _ _ _ hi] at e;have g:=tQ (hX _ (mem_of_getElem? (xC hi)));have n:=dP (by lia:dX (X.getD i [])≠0);grind
theorem Xb (h:∀i j,i < X.length->j < X.length->Mq.at2 R i j=((dX (X.getD i []):Int):Rat)*rG X i j):Mq.det X.length (Mq.at2 R)=((tH X:Int):Rat)*wgt X:=by
 unfold wgt;have hb:=rF X X.length (Nat.le_refl _);rw[take_length] at hb;rw[hb,<- sK];exact cL fun i j hi hj=>h i j hi hj
theorem Pd (hX:gF X)(hR:Mq.det X.length (Mq.at2 R)=((tH X:Int):Rat)*wgt X)(h:SI X.length w (Mq.at2 R) R' r X.length d sg):(r < X.length/\wgt X=0)\/(r=X.length/\wgt X≠0):=by
 have b1:=Af hX X.length (Nat.le_refl _);rw[take_length] at b1;have bn:=dP (by lia:tH X≠0);obtain⟨A,c,B,e⟩:=h.bar;have rm:=B.rm;have dn:=B.dne;clear B
 by_cases hr:r < X.length
 ·left
  have e:=h.lame hr;rw[hR] at e;exact⟨hr,by grind⟩
 ·right
  have er:r=X.length:=by lia
  subst er;refine⟨rfl,fun z=>?_⟩;have e:=h.whole;rw[hR,z] at e;rcases h.one with q | q
  ·rw[q] at e;simp at e;grind
  ·rw[q,Rat.intCast_neg] at e;simp at e;grind
structure Stp (m w:Nat) (A0:Mat) (Pr:List (List Int)->Prop):Prop where
 sw:∀R r col d sg p,SI m w A0 R r col d sg->r < p->p < m->Pr R->Pr (fY R p r)
 cl:∀R r col d sg,SI m w A0 R r col d sg->r < m->col < w->ent R r col≠0->Pr R->Pr (cG R r col d)
theorem Yy:Stp m w A0 (Mq.LI m Aq):=
 ⟨fun R r col d sg p s h1 h2 h=>h.swap s.len h2 (by lia),fun R r col d sg s h1 h2 h3 h=>h.clear s h1 h2 h3⟩
end Shp
namespace Mq
theorem On {row:List Q2}(h:j < row.length):row[j]?=some (row.getD j z0):=by rw[getD_eq_getElem?_getD,getElem?_eq_getElem h];rfl
end Mq
namespace Shp
open PySem L2
theorem Fmd.get:∀{xs:List V} {X:List (List Q2)} {i:Nat} {x:V},Fmd K H0 D H xs X->xs[i]?=some x->∃u ys ps,x=.ref u/\X[i]?=some ps/\H0 u=none/\u≠D/\H u=some (.lst ys)/\Fqs K H ys ps
 |_,_,0,_,.cons n0 n h f q,e=>by simp at e;exact⟨_,_,_,e.symm,rfl,n0,n,h,f⟩
 |_,_,i+1,_,.cons n0 n h f q,e=>by simp at e;exact q.get e
end Shp
namespace Mq
def KI (m:Nat)(A0:Mat)(R:List (List Int)):Prop:=∀Φ,Lin Φ->(∀k,k < m->Φ (at2 R k)=0)->∀i,i < m->Φ (A0 i)=0
theorem KI.swap (h:KI m A0 R)(hl:R.length=m)(hp:p < m)(hr:r < m):KI m A0 (fY R p r):=fun Φ lin hz=>by
 refine h Φ lin fun k hk=>?_;have e:at2 R k=at2 (fY R p r) (sw p r k):=by
  funext x
  rw[rA (by lia) (by lia),Qf]
 rw[e];exact hz _ (Bo hp hr hk)
theorem KI.clear (h:KI m A1 R)(s:SI m w A0 R r col d sg)(hr:r < m)(hc:col < w)(he:ent R r col≠0):KI m A1 (cG R r col d):=fun Φ lin hz=>by
 have dn:=s.dne;have hn:at2 R r col≠0:=fun z=>he (Rat.intCast_inj.mp (by unfold at2 at z;simpa using z));have cl:=fun (i:Nat) (hi:i < m) (x:Nat)=>uE s hr hc he hi x;have zr:Φ (at2 R r)=0:=by
  have e:at2 R r=at2 (cG R r col d) r:=by funext x;rw[cl r hr x,if_pos rfl]
  rw[e];exact hz r hr
 refine h Φ lin fun k hk=>?_
 by_cases e:k=r
 ·rw[e];exact zr
 ·have e2:at2 R k=fun x=>(fun x=>((d:Rat) / at2 R r col)*at2 (cG R r col d) k x) x+(at2 R k col / at2 R r col)*at2 R r x:=by
   funext x
   show _=((d:Rat) / at2 R r col)*at2 (cG R r col d) k x+_;rw[cl k hk x,if_neg e];grind
  rw[e2,lin,lin.mul,hz k hk,zr];grind
theorem KI.whole (h:KI m A1 R)(s:SI m w A0 R m m d sg)(hi:i < m):(rs m fun k=>A1 i k*(at2 R k m / (d:Rat)))=A1 i m:=by
 obtain⟨A,c,B,e⟩:=s.bar;have dn:=B.dne;have:=h (fun f=>(rs m fun k=>f k*(at2 R k m / (d:Rat))) - f m) (fun x y l=>by
  have:(rs m fun k=>(x k+l*y k)*(at2 R k m / (d:Rat)))=(rs m fun k=>x k*(at2 R k m / (d:Rat))+l*(y k*(at2 R k m / (d:Rat)))):=aT fun k _=>by grind
  show (rs m fun k=>(x k+l*y k)*(at2 R k m / (d:Rat))) - (x m+l*y m)=((rs m fun k=>x k*(at2 R k m / (d:Rat))) - x m)+l*((rs m fun k=>y k*(at2 R k m / (d:Rat))) - y m)
  rw[this,fI,fV];grind) (fun k hk=>by
  have:(rs m fun j=>at2 R k j*(at2 R j m / (d:Rat)))=rs m fun j=>if j=k then (d:Rat)*(at2 R k m / (d:Rat)) else 0:=aT fun j hj=>by
   have i2:=B.i2 k j hk hj;rw[B.full rfl j hj] at i2;rw[i2]
   by_cases z:j=k
   ·rw[if_pos z,if_pos z,z]
   ·rw[if_neg z,if_neg z];grind
  show (rs m fun j=>at2 R k j*(at2 R j m / (d:Rat))) - at2 R k m=0;rw[this,lU m k _ hk];grind) i hi
 have e2:(rs m fun k=>A1 i k*(at2 R k m / (d:Rat))) - A1 i m=0:=this;grind
end Mq
namespace Shp
open PySem L2
def mH (X:List (List Q2))(qs:List Q2):List (List Q2):=zipWith (fun row q=>row++[q]) X qs
def iP (X:List (List Q2))(qs:List Q2):List (List Int):=(mH X qs).map iw
section
variable {X:List (List Q2)} {qs:List Q2}
theorem pW (hl:qs.length=X.length):(mH X qs).length=X.length:=by unfold mH;simp[hl]
theorem Eg (hl:qs.length=X.length):(iP X qs).length=X.length:=by unfold iP;rw[length_map,pW hl]
theorem pE (hl:qs.length=X.length)(hi:i < X.length):(mH X qs).getD i []=X.getD i []++[qs.getD i Mq.z0]:=by
 unfold mH;rw[getD_eq_getElem?_getD,getElem?_zipWith,xC hi,Mq.On (by lia:i < qs.length)];rfl
theorem wQ (hl:qs.length=X.length)(hi:i < X.length):(iP X qs).getD i []=iw (X.getD i []++[qs.getD i Mq.z0]):=by
 unfold iP;rw[getD_eq_getElem?_getD,getElem?_map,xC (X:=mH X qs) (by rw[pW hl];exact hi),pE hl hi];rfl
theorem tS (hX:gF X)(hq:Mq.Pos qs)(hl:qs.length=X.length)(hi:i < X.length):Mq.Pos (X.getD i []++[qs.getD i Mq.z0]):=fun p hp=>by
 rcases mem_append.mp hp with z | z
 ·exact hX _ (mem_of_getElem? (xC hi)) p z
 ·have e:p=qs.getD i Mq.z0:=by simpa using z
  rw[e];exact Mq.No hq i
theorem Hu (hX:gF X)(hq:Mq.Pos qs)(hl:qs.length=X.length):gF (mH X qs):=fun row hr=>by
 obtain⟨i,hi,rfl⟩:=getElem_of_mem hr;have hi':i < X.length:=by rw[pW hl] at hi;exact hi
 have e:=pE hl hi';rw[getD_eq_getElem?_getD,getElem?_eq_getElem hi] at e;have e':(mH X qs)[i]=X.getD i []++[qs.getD i Mq.z0]:=e;rw[e'];exact tS hX hq hl hi'
theorem uY (hX:gF X)(hq:Mq.Pos qs)(hl:qs.length=X.length)(hw:∀row∈X,row.length=X.length)(hi:i < X.length)(hx:x < X.length+1):
  Mq.at2 (iP X qs) i x=((dX ((mH X qs).getD i []):Int):Rat)*if x < X.length then rG X i x else Mq.val (qs.getD i Mq.z0):=by
 have l:=hw _ (mem_of_getElem? (xC hi));show ((((iP X qs).getD i []).getD x 0:Int):Rat)=_;rw[wQ hl hi,pE hl hi,Pg (tS hX hq hl hi) (by rw[List.length_append,l];simpa using hx)];congr 1
 by_cases h:x < X.length
 ·rw[if_pos h,getD_eq_getElem?_getD,getElem?_append_left (by rw[l];exact h),<- getD_eq_getElem?_getD];rfl
 ·have ex:x=X.length:=by lia
  rw[if_neg h,getD_eq_getElem?_getD,getElem?_append_right (by rw[l];lia),l,ex,Nat.sub_self];rfl
theorem Wa (hX:gF X)(hq:Mq.Pos qs)(hl:qs.length=X.length)(hw:∀row∈X,row.length=X.length):Mq.det X.length (Mq.at2 (iP X qs))=((tH (mH X qs):Int):Rat)*wgt X:=by
 unfold wgt;have hb:=rF (mH X qs) (mH X qs).length (Nat.le_refl _);rw[take_length,pW hl] at hb;rw[hb,<- sK];refine cL fun i j hi hj=>?_;rw[uY hX hq hl hw hi (by lia),if_pos hj];rfl
theorem Mn (fn:f≠0)(hR:Mq.det X.length (Mq.at2 R)=f*wgt X)(h:SI X.length w (Mq.at2 R) R' r X.length d sg):(r < X.length/\wgt X=0)\/(r=X.length/\wgt X≠0):=by
 obtain⟨A,c,B,e⟩:=h.bar;have rm:=B.rm;have dn:=B.dne;clear B
 by_cases hr:r < X.length
 ·left
  have e:=h.lame hr;rw[hR] at e;exact⟨hr,by grind⟩
 ·right
  have er:r=X.length:=by lia
  subst er;refine⟨rfl,fun z=>?_⟩;have e:=h.whole;rw[hR,z] at e;rcases h.one with q | q
  ·rw[q] at e;simp at e;grind
  ·rw[q,Rat.intCast_neg] at e;simp at e;grind
theorem Qj (hX:gF X)(hq:Mq.Pos qs)(hl:qs.length=X.length)(hw:∀row∈X,row.length=X.length)(h:SI X.length w (Mq.at2 (iP X qs)) R' r X.length d sg):(r < X.length/\wgt X=0)\/(r=X.length/\wgt X≠0):=by
 have b1:=Af (Hu hX hq hl) (mH X qs).length (Nat.le_refl _);rw[take_length] at b1;exact Mn (dP (by lia:tH (mH X qs)≠0)) (Wa hX hq hl hw) h
end
structure Slv (X:List (List Q2)) (qs ps:List Q2):Prop where
 len:ps.length=X.length
 low:oW ps
 bd:∀p∈ps,Bd 9000 p
 sum:∀i,i < X.length->(Mq.rs X.length fun j=>rG X i j*Mq.val (ps.getD j Mq.z0))=Mq.val (qs.getD i Mq.z0)
theorem Ym (hX:gF X)(hq:Mq.Pos qs)(hl:qs.length=X.length)(hw:∀row∈X,row.length=X.length)(h:Mq.KI X.length (Mq.at2 (iP X qs)) R)(s:SI X.length w (Mq.at2 (iP X qs)) R X.length X.length d sg)(hi:i < X.length):(Mq.rs X.length fun j=>rG X i j*(Mq.at2 R j X.length / (d:Rat)))=Mq.val (qs.getD i Mq.z0):=by
 have e:=h.whole s hi;rw[uY hX hq hl hw hi (by lia),if_neg (by lia)] at e;have e2:(Mq.rs X.length fun k=>Mq.at2 (iP X qs) i k*(Mq.at2 R k X.length / (d:Rat)))=((dX ((mH X qs).getD i []):Int):Rat)*Mq.rs X.length fun k=>rG X i k*(Mq.at2 R k X.length / (d:Rat)):=by
  rw[<- fV];refine aT fun k hk=>?_;rw[uY hX hq hl hw hi (by lia),if_pos hk];grind
 rw[e2] at e;have g:=tQ (tS hX hq hl hi);have n:=dP (show dX ((mH X qs).getD i [])≠0 by rw[pE hl hi];lia);grind
end Shp
namespace Mq
def Wb (n:Nat)(x:Rat):Prop:=∃z:Int,x=(z:Rat)/\B n z
theorem Wb.mono (h:Wb n x)(l:n<=m):Wb m x:=by obtain⟨z,e,b⟩:=h;exact⟨z,e,b.mono l⟩
theorem Wb.mul (h:Wb n x)(k:Wb m y):Wb (n+m) (x*y):=by
 obtain⟨a,rfl,b⟩:=h;obtain⟨c,rfl,d⟩:=k;exact⟨a*c,by rw[Rat.intCast_mul],b.mul d⟩
theorem Wb.sub (h:Wb n x)(k:Wb n y):Wb (n+1) (x - y):=by
 obtain⟨a,rfl,b⟩:=h;obtain⟨c,rfl,d⟩:=k;exact⟨a - c,by rw[Rat.intCast_sub],b.sub d⟩
theorem Wb.neg (h:Wb n x):Wb n (-x):=by
 obtain⟨a,rfl,b⟩:=h;exact⟨-a,by rw[Rat.intCast_neg],b.neg⟩
theorem Wb.zero (n:Nat):Wb n 0:=⟨0,by simp,Nat.two_pow_pos _⟩
theorem Wb.one:Wb 1 1:=⟨1,by simp,show (1:Nat) < 2 ^ 1 by decide⟩
theorem Wb.sgn (h:Wb n x)(k:Nat):Wb n (Mq.sgn k*x):=by
 unfold Mq.sgn;split
 ·rw[show (1:Rat)*x=x by grind];exact h
 ·rw[show (-1:Rat)*x=-x by grind];exact h.neg
theorem Xw:∀K,(∀k,k < K->Wb n (f k))->∃z:Int,rs K f=(z:Rat)/\z.natAbs+K<=K*2 ^ n
 |0,_=>⟨0,by simp only[rs];simp,by simp⟩
 |K+1,h=>by
  obtain⟨z,e,b⟩:=Xw K fun k hk=>h k (by lia);obtain⟨y,e2,b2⟩:=h K (by lia);refine⟨z+y,by simp only[rs];rw[e,e2,Rat.intCast_add],?_⟩;have:y.natAbs < 2 ^ n:=b2;rw[Nat.succ_mul];lia
def SB (n m:Nat)(R:List (List Int))(r col:Nat)(d:Int):Prop:=∃A c,Bar m A (at2 R) r col (d:Rat) c/\∀i x,i < m->Wb n (A i x)
theorem SB.start (hb:BdR n R):SB n m R 0 0 1:=
 ⟨at2 R,id,by
  have:=Bar.start (m:=m) (A:=at2 R) fun i j=>⟨_,rfl⟩
  simpa using this,fun i x _=>⟨ent R i x,rfl,hb i x⟩⟩
theorem SB.skip (h:SB n m R r col d)(hz:∀i,r<=i->i < m->ent R i col=0):SB n m R r (col+1) d:=by
 obtain⟨A,c,B,q⟩:=h;exact⟨A,c,B.skip fun i h1 h2=>by unfold at2;rw[hz i h1 h2];simp,q⟩
theorem SB.swap (h:SB n m R r col d)(s:SI m w A0 R r col d sg)(hp:r < p)(hm:p < m):SB n m (fY R p r) r col d:=by
 obtain⟨A,c,B,q⟩:=h;have hl:=s.len;refine⟨_,c,(B.swap (by lia) hm).congr fun i hi=>?_,fun i x hi=>q _ x (Bo hm (by lia) hi)⟩
 funext x
 rw[rA (by lia) (by lia)]
theorem SB.clear (h:SB n m R r col d)(s:SI m w A0 R r col d sg)(hr:r < m)(hc:col < w)(he:ent R r col≠0):SB n m (cG R r col d) (r+1) (col+1) (ent R r col):=by
 obtain⟨A,c,B,q⟩:=h;have heq:at2 R r col≠0:=fun z=>he (Rat.intCast_inj.mp (by unfold at2 at z;simpa using z));refine⟨A,_,(B.clear hr heq).congr fun i hi=>?_,q⟩
 funext x
 rw[uE s hr hc he hi x];unfold clr
 by_cases e:i=r
 ·rw[if_pos e,if_pos e,e]
 ·rw[if_neg e,if_neg e]
end Mq
namespace Shp
open PySem L2
abbrev bq (n m:Nat):Nat:=(n+4)*(m+1)+7
end Shp
namespace L2
open PySem PyProof.Rows
theorem aK.calm {K:Frag}(F:aK P w K mg base (CX1 P w) k f fd ps sp):
  aK P w K mg base CX0 k f fd ps (fun vs H Q _=>sp vs H Q (fun _ _ _=>False)):=
 ⟨fun vs H Q E q=>F.len vs H Q _ q,fun A outer s H args us vs Q E hr he hb hv hs=>codeAny_mono (F.run A outer s H args us vs Q _ hr he hb hv hs) fun r s' h=>by
  cases r with
  |ok fl=>cases fl<;>exact h
  |error e=>
   obtain⟨a,C,d,H',_,_,_,_,_,_,z⟩:=h;exact z.elim⟩
open PySem.Spec
section
variable {X:Cx} {k:Nat} {f C:Addr} {fd:FuncData} {ps:List Str} {sp:Sp} {dvs:List V} {ds:List Value} {x:Str} {p pos:Pos} {e:Expr} {es:List Expr} {t:TA}
def qe6 (C:Addr)(sp:Sp)(dvs:List V)(t:TA):TEX:=fun σ H Q E=>t σ H fun vs H1=>∀x dx,H1 x=none->H1 dx=none->dx≠x->
 sp (.ref x :: (vs++dvs)) (upd (upd H1 dx (.own x)) x (.ins C dx [])) (fun v H2=>v=.non/\Q (.ref x) H2) E
theorem Mp (M:Mk X.K C f)(F:aK X.prog X.w X.K X.mg X.base (CX1 X.prog X.w) k f fd ps sp)(fm:Frm X)(hr:gM (k+1) X.A)(hb:aM X.K fd ps ds)(hd:bQ dvs ds)(I:Inv X pins σ H s)(r:bQ vs us)(h:∀x dx,H x=none->H dx=none->dx≠x->sp (.ref x :: (vs++dvs)) (upd (upd H dx (.own x)) x (.ins C dx [])) (fun v H2=>v=.non/\Q (.ref x) H2) E):
  wpAny (model X.prog X.w) X.A (call (.ref C) us) (EP X pins σ Q) (XP X pins fun σ' C d H'=>σ'=σ/\E C d H') s:=by
 have hq:=h (s.heap.objs.size+1) s.heap.objs.size (I.hok.fresh (Nat.le_succ _)) (I.hok.fresh (Nat.le_refl _)) (Nat.ne_of_lt (Nat.lt_succ_self _));have I2:=Inv.made (C:=C) I;have r2:bQ (V.ref (s.heap.objs.size+1) :: (vs++dvs)) (Value.ref (s.heap.objs.size+1) :: (us++ds)):=.cons rfl (r.append hd);have hl:(Value.ref (s.heap.objs.size+1) :: us++ds).length=ps.length:=by
  have e:=r2.length;rw[F.len _ _ _ _ hq] at e;exact e.symm
 refine wpAny_call (Cj (f:=f) I.kIn M.makes M.init (beq_iff_eq.mp M.fn) (codeAny_mono (F.run _ X.stack _ _ ⟨Value.ref (s.heap.objs.size+1) :: us,[]⟩ (Value.ref (s.heap.objs.size+1) :: (us++ds)) _ _ E (hr.make C us [])
  (I2.env0.make C us []) (hb _ (Value.ref (s.heap.objs.size+1) :: us) I2.kIn hl) r2 hq) fun r s' hq'=>?_))
 cases r with
 |error e=>
  obtain⟨a,C',d,H',rfl,L,q⟩:=lD fm I2 hq';exact⟨a,C',d,σ,H',rfl,L,rfl,q⟩
 |ok fl=>
  cases fl with
  |ret u=>
   obtain⟨v,H',I3,rv,ev,q3⟩:=I2.after hq';subst ev;exact⟨rv,⟨V.ref (s.heap.objs.size+1),H',I3,rfl,q3⟩⟩
  |next=>exact False.elim hq'
  |brk=>exact False.elim hq'
  |cont=>exact False.elim hq'
theorem Jv (M:Mk X.K C f)(F:aK X.prog X.w X.K X.mg X.base (CX1 X.prog X.w) k f fd ps sp)(fm:Frm X)(hr:gM (k+1) X.A)(hg:Gl X x)(hm:X.mg x=some (.ref C))(hb:aM X.K fd ps ds)(hd:bQ dvs ds)(ha:PA X.nox (e :: es) t)(hdb:(x == ("__debug__":Str))=false:=by decide)(he:starEach (e :: es) X.env=(false,eval e X.env) :: starEach es X.env:=by rfl)(hpl:(backTo pos (starEach es X.env)).any (·.1)=false:=by rfl) :
  PX X (.Call (.Name x p) (e :: es) [] pos) (qe6 C sp dvs t):=by
 intro pins s σ H Q E I h;refine wpAny_Call_Name_kw (jA I hg hm ?_ hdb);refine W.callWith_K (h₀:=X.base) I.ok.mod.kin M.kp (wpAny_mono (ha pos pins s σ H _ (I.wish _) h) (fun us s1 h1=>?_) fun _ _ z=>False.elim z) he hpl;obtain⟨vs,H1,I1,r,q⟩:=h1;exact⟨I1.kIn,Mp M F fm hr hb hd I1.unwish r q⟩
end
theorem aK.weak {K:Frag}(F:aK P w K mg base CX k f fd ps sp)(h:∀vs H Q E,sp' vs H Q E->sp vs H Q E):aK P w K mg base CX k f fd ps sp':=
 ⟨fun vs H Q E q=>F.len vs H Q E (h _ _ _ _ q),fun A outer s H args us vs Q E hr he hb hv hs=>F.run A outer s H args us vs Q E hr he hb hv (h _ _ _ _ hs)⟩
abbrev cX (m i j:Int):Prop:=0<=i/\i < m/\0<=j/\j < m
inductive Zv (K:Frag) (H:Hp):V->Option Q2->Prop where
 |fr {u:Addr} {p:Q2} (h:Fq K H u p) (l:Low p):Zv K H (.ref u) (some p)
 |ty {v:V} {t:Value} (h:TyQ K H v t) (n:W.kitOne K t (.type "tuple")=some false):Zv K H v none
 |len {u:Addr} {x y z:V} (h:SqT K H u [x,y,z]):Zv K H (.ref u) none
 |n0 {u:Addr} {x y:V} {t:Value} (h:SqT K H u [x,y]) (ty:kQ K H x t) (n:jI t):Zv K H (.ref u) none
 |n1 {u:Addr} {i:Int} {y:V} {t:Value} (h:SqT K H u [.int i,y]) (ty:kQ K H y t) (n:jI t):Zv K H (.ref u) none
 |fb {u:Addr} {p:Q2} (h:Fq K H u p) (c:p.2 < 1\/(1<=p.2/\gc p.1 p.2≠1)):Zv K H (.ref u) none
def Sh (K:Frag):Sp:=fun vs H Q _=>∃(v:V) (o:Option Q2),vs=[v]/\Zv K H v o/\Q (.bl o.isSome) H
inductive iA (CK:Kd->Addr) (K:Frag) (H:Hp):List V->List RD->Prop where
 |nil:iA CK K H [] []
 |cons {x z:Addr} {k:Kd} {i j:Int} {p:Q2} {xs:List V} {ds:List RD} (h:Rw CK H x k (.int i) (.int j) (.ref z)) (f:Fq K H z p) (q:iA CK K H xs ds):iA CK K H (.ref x :: xs) ((k,i,j,p) :: ds)
section
variable {CK:Kd->Addr} {K:Frag} {H H':Hp}
theorem iA.same (e:aW H H'):∀{xs:List V} {ds:List RD},iA CK K H xs ds->iA CK K H' xs ds
 |_,_,.nil=>.nil
 |_,_,.cons h f q=>.cons (h.same e) (e.fq f) (iA.same e q)
theorem iA.length:∀{xs:List V} {ds:List RD},iA CK K H xs ds->xs.length=ds.length
 |_,_,.nil=>rfl
 |_,_,.cons _ _ q=>by simp[iA.length q]
theorem iA.app:∀{xs ys:List V} {ds es:List RD},iA CK K H xs ds->iA CK K H ys es->iA CK K H (xs++ys) (ds++es)
 |_,_,_,_,.nil,r=>r
 |_,_,_,_,.cons h f q,r=>.cons h f (iA.app q r)
theorem iA.at:∀{xs:List V} {ds:List RD} {q:Nat} {d:RD},iA CK K H xs ds->ds[q]?=some d->∃x z,xs[q]?=some (.ref x)/\Rw CK H x d.1 (.int d.2.1) (.int d.2.2.1) (.ref z)/\Fq K H z d.2.2.2
 |_,_,_,_,.nil,h=>by simp at h
 |_,_,0,_,.cons h f _,e=>by simp at e;subst e;exact⟨_,_,rfl,h,f⟩
 |_,_,i+1,_,.cons _ _ q,e=>by simpa using iA.at q (by simpa using e)
theorem iA.upd (hl:H l=some (.lst ys)):∀{xs:List V} {ds:List RD},iA CK K H xs ds->iA CK K (L2.upd H l o) xs ds
 |_,_,.nil=>.nil
 |_,_,.cons (h:=h) f q=>by
  obtain⟨dx,e⟩:=h;exact .cons ⟨dx,by rw[aL (gL e hl (fun z=>by cases z))];exact e⟩ (f.upd hl) (iA.upd hl q)
end
def rV (CN:Addr)(K:Frag)(CK:Kd->Addr):Sp:=fun vs H Q _=>∃(n l:Addr) (m:Int) (ds:List RD),vs=[.ref n]/\dE CN K H n l m ds/\ds.length<=100/\∀a xs H',aW H H'->H a=none->H' a=some (.lst xs)->iA CK K H' xs ds->Q (.ref a) H'
end L2
namespace Mq
inductive Wt:List Q2->Nat->Prop where
 |nil:Wt [] 0
 |cons {p:Q2} {ps:List Q2} {n w:Nat} (h:Bd n p) (q:Wt ps w):Wt (p :: ps) (n+1+w)
theorem Wt.at:∀{ps:List Q2} {w i:Nat} {p:Q2},Wt ps w->ps[i]?=some p->∃w' n,Wt (ps.take i) w'/\Bd n p/\w' + n+1<=w
 |_,_,_,_,.nil,h=>by simp at h
 |_,_,0,_,.cons (n:=n) h q,e=>by
  simp at e;subst e;exact⟨0,n,.nil,h,by lia⟩
 |_,_,i+1,_,.cons (n:=n) h q,e=>by
  obtain⟨w',n',a,b,c⟩:=Wt.at q (by simpa using e);exact⟨n+1+w',n',.cons h a,b,by lia⟩
theorem Wt.fold:∀{ps:List Q2} {w k:Nat} {p:Q2},Wt ps w->Pos ps->1<=p.2->Bd k p->Bd (k+w) (ps.foldl lW p)
 |_,_,_,_,.nil,_,_,h=>h
 |_,_,k,p,.cons (p:=q) (n:=n) (w:=w) h r,hp,p1,b=>by
  have q1:=hp q (by simp);have:=Wt.fold r (fun x hx=>hp x (mem_cons_of_mem _ hx)) (mX p1 q1).pos (By b h p1 q1);exact this.mono (by lia)
theorem Wt.tot (h:Wt ps w)(hp:Pos ps):Bd (1+w) (tot ps):=h.fold hp (by decide) ⟨show (0:Nat) < 2 ^ 1 by decide,show (1:Nat) < 2 ^ 1 by decide⟩
end Mq
namespace L2
open PySem PySem.Spec PyProof.Rows
abbrev RE:=RD × Q2
def flF (hp:List Q2)(d:RD):Q2:=Mq.minus (hp.getD d.2.1.toNat (0,1)) (hp.getD d.2.2.1.toNat (0,1))
def iK (k:Kd)(l:List RD):List RD:=l.filter fun d=>decide (d.1=k)
theorem La (k:Kd)(l:List RD)(e:RD):iK k (l++[e])=if e.1=k then iK k l++[e] else iK k l:=by
 unfold iK;rw[filter_append]
 by_cases h:e.1=k
 ·rw[if_pos h];simp[h]
 ·rw[if_neg h];simp[h]
def Ni (K:Frag):Sp:=fun vs H Q _=>∃(a:Addr) (xs:List V) (ps:List Q2) (w:Nat),vs=[.ref a]/\SqL K H a xs/\Fqs K H xs ps/\Mq.Pos ps/\Mq.Wt ps w/\w+1<=9000/\∀r H',aW H H'->Fq K H' r (tot ps)->Q (.ref r) H'
def Hl (K:Frag):Sp:=fun vs H Q _=>∃(a b:Addr) (p q:Q2) (n m:Nat),vs=[.ref a,.ref b]/\Fq K H a p/\Fq K H b q/\1<=p.2/\1<=q.2/\0 < q.1/\Bd n p/\Bd m q/\n+m+1<=9000/\tI H Q (rZ p q)
section
variable {m n:Nat} {hp:List Q2} {d:RD} {e:RE}
theorem Do {ps:List Q2}(h:j < ps.length):ps[j]?=some (ps.getD j (0,1)):=by rw[getD_eq_getElem?_getD,getElem?_eq_getElem h];rfl
end
def rzl (ps:List Q2)(j:Nat)(a:Q2):List Q2:=ps.set j (lW (ps.getD j (0,1)) a)
def kB (M:List (List Q2))(i j:Nat):Q2:=(M.getD i []).getD j (0,1)
def rz (M:List (List Q2))(i j:Nat)(a:Q2):List (List Q2):=M.set i (rzl (M.getD i []) j a)
structure MxB (M:List (List Q2)) (h w n:Nat):Prop where
 h:M.length=h
 w:∀ps∈M,ps.length=w
 l:∀ps∈M,∀p∈ps,Low p/\Bd n p
theorem MxB.mono {h w n n':Nat}(b:MxB M h w n)(le:n<=n'):MxB M h w n':=⟨b.h,b.w,fun ps hp p hp'=>⟨(b.l ps hp p hp').1,(b.l ps hp p hp').2.mono le⟩⟩
theorem MxB.row {h w n i:Nat}(b:MxB M h w n)(hi:i < h):M[i]?=some (M.getD i [])/\M.getD i []∈M/\(M.getD i []).length=w:=by
 have hi':i < M.length:=by rw[b.h];exact hi
 have e:M.getD i []=M[i]:=by rw[getD_eq_getElem?_getD,getElem?_eq_getElem hi'];rfl
 rw[e];exact⟨getElem?_eq_getElem hi',getElem_mem hi',b.w _ (getElem_mem hi')⟩
theorem MxB.at {h w n i j:Nat}(b:MxB M h w n)(hi:i < h)(hj:j < w):(M.getD i [])[j]?=some (kB M i j)/\Low (kB M i j)/\Bd n (kB M i j):=by
 obtain⟨e,m,l⟩:=b.row hi;have hj':j < (M.getD i []).length:=by rw[l];exact hj
 have:=Do hj';exact⟨this,b.l _ m _ (mem_of_getElem? this)⟩
theorem MxB.rz {h w n k i j:Nat}(b:MxB M h w n)(hi:i < h)(hj:j < w)(la:Low a)(ba:Bd k a):MxB (L2.rz M i j a) h w (n+k+1):=by
 obtain⟨e,m,l⟩:=b.row hi;obtain⟨e2,l2,b2⟩:=b.at hi hj;refine⟨by unfold L2.rz;rw[length_set];exact b.h,fun ps hp=>?_,fun ps hp p hp'=>?_⟩
 ·rcases mem_or_eq_of_mem_set hp with z | z
  ·exact b.w ps z
  ·rw[z];unfold rzl;rw[length_set];exact l
 ·rcases mem_or_eq_of_mem_set hp with z | z
  ·have:=b.l ps z p hp';exact⟨this.1,this.2.mono (by lia)⟩
  ·rw[z] at hp';unfold rzl at hp';rcases mem_or_eq_of_mem_set hp' with y | y
   ·have:=b.l _ m p y;exact⟨this.1,this.2.mono (by lia)⟩
   ·rw[y];exact⟨mX l2.pos la.pos,By b2 ba l2.pos la.pos⟩
theorem Ao (b:MxB M h w n)(hi:i < h)(hj:j < w)(la:Low a)(x y:Nat):Mq.val (kB (L2.rz M i j a) x y)=Mq.val (kB M x y)+if i=x/\j=y then Mq.val a else 0:=by
 obtain⟨e,m,l⟩:=b.row hi;obtain⟨e2,l2,b2⟩:=b.at hi hj;have hl:i < M.length:=by rw[b.h];exact hi
 unfold kB L2.rz
 by_cases c:i=x
 ·subst c;have e3:(M.set i (rzl (M.getD i []) j a)).getD i []=rzl (M.getD i []) j a:=by rw[getD_eq_getElem?_getD,getElem?_set,if_pos rfl,if_pos hl];rfl
  rw[e3];unfold rzl
  by_cases d:j=y
  ·subst d;have e4:((M.getD i []).set j (lW ((M.getD i []).getD j (0,1)) a)).getD j (0,1)=lW ((M.getD i []).getD j (0,1)) a:=by rw[getD_eq_getElem?_getD,getElem?_set,if_pos rfl,if_pos (by rw[l];exact hj)];rfl
   rw[e4,if_pos ⟨rfl,rfl⟩];exact wF l2.pos la.pos
  ·have e4:((M.getD i []).set j (lW ((M.getD i []).getD j (0,1)) a)).getD y (0,1)=(M.getD i []).getD y (0,1):=by rw[getD_eq_getElem?_getD,getElem?_set,if_neg d,<- getD_eq_getElem?_getD]
   rw[e4,if_neg (fun z=>d z.2),Rat.add_zero]
 ·have e3:(M.set i (rzl (M.getD i []) j a)).getD x []=M.getD x []:=by rw[getD_eq_getElem?_getD,getElem?_set,if_neg c,<- getD_eq_getElem?_getD]
  rw[e3,if_neg (fun z=>c z.1),Rat.add_zero]
structure LnB (R:List Q2) (w n:Nat):Prop where
 w:R.length=w
 l:∀p∈R,Low p/\Bd n p
theorem LnB.mono {w n n':Nat}(b:LnB R w n)(le:n<=n'):LnB R w n':=⟨b.w,fun p hp=>⟨(b.l p hp).1,(b.l p hp).2.mono le⟩⟩
theorem LnB.at {w n j:Nat}(b:LnB R w n)(hj:j < w):R[j]?=some (R.getD j (0,1))/\Low (R.getD j (0,1))/\Bd n (R.getD j (0,1)):=by
 have hj':j < R.length:=by rw[b.w];exact hj
 have:=Do hj';exact⟨this,b.l _ (mem_of_getElem? this)⟩
theorem LnB.set {w n j:Nat}(b:LnB R w n)(lq:Low q)(bq:Bd n q):LnB (R.set j q) w n:=⟨by rw[length_set];exact b.w,fun p hp=>by
 rcases mem_or_eq_of_mem_set hp with z | z
 ·exact b.l p z
 ·rw[z];exact⟨lq,bq⟩⟩
theorem LnB.rz {w n k j:Nat}(b:LnB R w n)(hj:j < w)(la:Low a)(ba:Bd k a):LnB (rzl R j a) w (n+k+1):=by
 obtain⟨_,l2,b2⟩:=b.at hj;exact(b.mono (by lia)).set (mX l2.pos la.pos) (By b2 ba l2.pos la.pos)
theorem zO {R:List Q2}(hj:j < R.length):(R.set j q).getD y (0,1)=if j=y then q else R.getD y (0,1):=by
 rw[getD_eq_getElem?_getD,getElem?_set]
 by_cases e:j=y
 ·rw[if_pos e,if_pos e,if_pos (by assumption)];rfl
 ·rw[if_neg e,if_neg e,<- getD_eq_getElem?_getD]
theorem Iq (b:LnB R w n)(hj:j < w)(la:Low a)(y:Nat):Mq.val ((rzl R j a).getD y (0,1))=Mq.val (R.getD y (0,1))+if j=y then Mq.val a else 0:=by
 obtain⟨_,l2,b2⟩:=b.at hj;unfold rzl;rw[zO (by rw[b.w];exact hj)]
 by_cases d:j=y
 ·subst d;rw[if_pos rfl,if_pos rfl];exact wF l2.pos la.pos
 ·rw[if_neg d,if_neg d,Rat.add_zero]
def SX (as:List Addr)(H H':Hp):Prop:=∀b o,H b=some o->b∉as->H' b=some o
theorem aW.sx (s:aW H H'):SX as H H':=fun b o e _=>s b o e
theorem SX.trans (a:SX as H H1)(b:SX as H1 H2):SX as H H2:=fun c o h n=>b c o (a c o h n) n
theorem SX.write (a:SX as H H1)(hl:l∈as):SX as H (upd H1 l o):=fun c u h n=>by rw[aL (fun z=>n (by rw[z];exact hl))];exact a c u h n
theorem SX.mono (a:SX as H H')(h:∀x∈as,x∈bs):SX bs H H':=fun c o e n=>a c o e fun z=>n (h c z)
theorem SX.same (s:aW H0 H)(a:SX as H H')(h:∀x∈as,H0 x=none):aW H0 H':=fun c o e=>a c o (s c o e) fun z=>by rw[h c z] at e;cases e
def Uq (as:List Addr)(H:Hp):Prop:=∀a∈as,∃xs,H a=some (.lst xs)
theorem SX.seqT {K:Frag}(hl:Uq as H)(e:SX as H H')(h:SqT K H a xs):SqT K H' a xs:=by
 have nx:∀{o:HO},H a=some o->(∀ys,o≠.lst ys)->a∉as:=fun ho n z=>by
  obtain⟨ys,hy⟩:=hl a z;rw[hy] at ho;exact n ys (Option.some.inj ho).symm
 rcases h with (h | ⟨u,h⟩) | h
 ·exact .inl (.inl (e _ _ h (nx h fun ys z=>by cases z)))
 ·exact .inl (.inr ⟨u,e _ _ h (nx h fun ys z=>by cases z)⟩)
 ·exact .inr h
theorem SX.rw (hl:Uq as H)(e:SX as H H')(h:Rw CK H x k s g z):Rw CK H' x k s g z:=by
 obtain⟨dx,q⟩:=h;refine⟨dx,e _ _ q fun y=>?_⟩;obtain⟨ys,hy⟩:=hl x y;rw[hy] at q;cases q
theorem SX.fqs {K:Frag}(hl:Uq as H)(e:SX as H H'):∀{xs:List V} {ps:List Q2},Fqs K H xs ps->Fqs K H' xs ps
 |_,_,.nil=>.nil
 |_,_,.cons f q=>.cons (e.seqT hl f) (SX.fqs hl e q)
structure Mx (K:Frag) (H:Hp) (D:Addr) (as:List Addr) (M:List (List Q2)):Prop where
 d:H D=some (.lst (as.map V.ref))
 n:as.Nodup
 nd:D∉as
 la:as.length=M.length
 r:∀(i:Nat) (a:Addr) (ps:List Q2),as[i]?=some a->M[i]?=some ps->∃xs,H a=some (.lst xs)/\Fqs K H xs ps
theorem Mx.lsts {K:Frag}(m:Mx K H D as M):Uq as H:=fun a ha=>by
 obtain⟨i,hi⟩:=getElem?_of_mem ha;have il:=(List.getElem?_eq_some_iff.mp hi).1;have il':i < M.length:=by rw[<- m.la];exact il
 obtain⟨xs,h,_⟩:=m.r i a M[i] hi (getElem?_eq_getElem il');exact⟨xs,h⟩
theorem Mx.same {K:Frag}(s:aW H H')(m:Mx K H D as M):Mx K H' D as M:=⟨s _ _ m.d,m.n,m.nd,m.la,fun i a ps h1 h2=>by
 obtain⟨xs,h,f⟩:=m.r i a ps h1 h2;exact⟨xs,s _ _ h,f.same s⟩⟩
theorem Mx.other {K:Frag}(m:Mx K H D as M)(hl:H l=some (.lst ys))(n1:l≠D)(n2:l∉as):Mx K (upd H l o) D as M:=⟨by rw[aL (Ne.symm n1)];exact m.d,m.n,m.nd,m.la,fun i a ps h1 h2=>by
 obtain⟨xs,h,f⟩:=m.r i a ps h1 h2;exact⟨xs,by rw[aL (fun z=>n2 (by rw[<- z];exact mem_of_getElem? h1))];exact h,f.upd hl⟩⟩
theorem Mx.set {K:Frag}(m:Mx K H D as M)(ha:as[i]?=some a)(hp:M[i]?=some ps)(hx:H a=some (.lst xs))(hF:Fqs K H xs ps)(s:aW H H1)(fv:Fq K H1 v q):Mx K (upd H1 a (.lst (xs.set j (.ref v)))) D as (M.set i (ps.set j q))/\SX as H (upd H1 a (.lst (xs.set j (.ref v)))):=by
 have ma:=mem_of_getElem? ha;have hx1:=s _ _ hx;have il:=(List.getElem?_eq_some_iff.mp ha).1;refine⟨⟨?_,m.n,m.nd,by rw[length_set];exact m.la,fun k b qs h1 h2=>?_⟩,s.sx.write ma⟩
 ·rw[aL (fun z=>m.nd (by rw[z];exact ma))];exact s _ _ m.d
 ·rw[getElem?_set] at h2
  by_cases c:i=k
  ·subst c;rw[ha] at h1;have h1:a=b:=Option.some.inj h1;subst h1;rw[if_pos rfl] at h2;split at h2
   ·have h2:ps.set j q=qs:=Option.some.inj h2;rw[<- h2];exact⟨_,aB,(Fqs.set fv j (hF.same s)).upd hx1⟩
   ·cases h2
  ·rw[if_neg c] at h2;obtain⟨ys,hy,fy⟩:=m.r k b qs h1 h2;have nb:b≠a:=fun z=>by
    subst z;have kl:=(List.getElem?_eq_some_iff.mp h1).1;have e1:as[i]'il=b:=(List.getElem?_eq_some_iff.mp ha).2;have e2:as[k]'kl=b:=(List.getElem?_eq_some_iff.mp h1).2;exact c ((getElem_inj m.n).mp (e1.trans e2.symm))
   exact⟨ys,by rw[aL nb];exact s _ _ hy,(fy.same s).upd hx1⟩
def cN (k:Kd):Nat:=if k=.ho then 1 else 0
def en (M:List (List Q2))(d:RD)(c:Nat)(a:Q2):List (List Q2):=rz (rz M d.2.1.toNat c a) d.2.2.1.toNat c (Mq.minus (0,1) a)
def dl (s g x:Nat):Rat:=(if s=x then 1 else 0) - (if g=x then 1 else 0)
def cM (d:RD)(h x y:Nat):Rat:=match d.1 with
 | .pc=>dl d.2.1.toNat d.2.2.1.toNat x*dl d.2.1.toNat d.2.2.1.toNat y*(1 / Mq.val d.2.2.2)
 | .pu=>0
 | .ho=>dl d.2.1.toNat d.2.2.1.toNat x*(if h=y then 1 else 0)+(if h=x then 1 else 0)*dl d.2.1.toNat d.2.2.1.toNat y
def cR (d:RD)(h x:Nat):Rat:=match d.1 with
 | .pc=>0
 | .pu=>- dl d.2.1.toNat d.2.2.1.toNat x*Mq.val d.2.2.2
 | .ho=>if h=x then Mq.val d.2.2.2 else 0
def eqM:Nat->List RD->Nat->Nat->Rat
 |_,[],_,_=>0
 |h,d :: ds,x,y=>cM d h x y+eqM (h+cN d.1) ds x y
def eqR:Nat->List RD->Nat->Rat
 |_,[],_=>0
 |h,d :: ds,x=>cR d h x+eqR (h+cN d.1) ds x
def cC (ds:List RD):Nat:=(iK .ho ds).length
theorem iO (ds:List RD)(d:RD):cC (ds++[d])=cC ds+cN d.1:=by
 unfold cC cN;rw[La];split
 ·rw[List.length_append];rfl
 ·rfl
theorem gY (d:RD)(ds:List RD):cC (d :: ds)=cN d.1+cC ds:=by
 unfold cC cN iK
 by_cases h:d.1=.ho
 ·rw[filter_cons_of_pos (by exact decide_eq_true h),if_pos h,length_cons];lia
 ·rw[filter_cons_of_neg (by simp[h]),if_neg h];lia
theorem Dc (d:RD)(x y:Nat):∀(ds:List RD) (h:Nat),eqM h (ds++[d]) x y=eqM h ds x y+cM d (h+cC ds) x y
 | [],h=>by show cM d h x y+0=0+cM d (h+0) x y;rw[Nat.add_zero];grind
 |e :: ds,h=>by
  show cM e h x y+eqM (h+cN e.1) (ds++[d]) x y=cM e h x y+eqM (h+cN e.1) ds x y+_;rw[Dc d x y ds,gY,Nat.add_assoc];grind
theorem Ee (d:RD)(x:Nat):∀(ds:List RD) (h:Nat),eqR h (ds++[d]) x=eqR h ds x+cR d (h+cC ds) x
 | [],h=>by show cR d h x+0=0+cR d (h+0) x;rw[Nat.add_zero];grind
 |e :: ds,h=>by
  show cR e h x+eqR (h+cN e.1) (ds++[d]) x=cR e h x+eqR (h+cN e.1) ds x+_;rw[Ee d x ds,gY,Nat.add_assoc];grind
theorem jS:Low (1,1):=⟨by decide,by decide⟩
theorem mI (la:Low a)(ba:Bd k a):Low (Mq.minus (0,1) a)/\Bd (k+2) (Mq.minus (0,1) a)/\Mq.val (Mq.minus (0,1) a)=- Mq.val a:=by
 have h01:1<=((0,1):Q2).2:=by decide
 have b01:Bd 1 (0,1):=⟨show (0:Nat) < 2 ^ 1 by decide,show (1:Nat) < 2 ^ 1 by decide⟩
 refine⟨Mq.rL h01 la.pos,(Mq.Ey b01 ba h01 la.pos).mono (by lia),?_⟩;rw[zM h01 la.pos,Jr];grind
theorem Dy (b:MxB M h w n)(pt:cX (h:Int) d.2.1 d.2.2.1)(hc:c < w)(la:Low a)(ba:Bd k a):MxB (en M d c a) h w (n+2*k+4)/\∀x y,Mq.val (kB (en M d c a) x y)=Mq.val (kB M x y)+dl d.2.1.toNat d.2.2.1.toNat x*(if c=y then 1 else 0)*Mq.val a:=by
 obtain⟨i0,i1,j0,j1⟩:=pt;obtain⟨ln,bn,vn⟩:=mI la ba;have b1:=b.rz (i:=d.2.1.toNat) (by lia) hc la ba;have b2:=b1.rz (i:=d.2.2.1.toNat) (by lia) hc ln bn;refine⟨b2.mono (by lia),fun x y=>?_⟩;unfold en;rw[Ao b1 (by lia) hc ln,Ao b (by lia) hc la,vn];unfold dl
 by_cases c1:d.2.1.toNat=x<;>by_cases c2:d.2.2.1.toNat=x<;>by_cases c3:c=y<;>simp only[c1,c2,c3,true_and,and_true,false_and,and_false,and_self,if_true,if_false]<;>grind
def hM (M:List (List Q2))(d:RD)(c:Nat):List (List Q2):=rz (rz (en M d c (1,1)) c d.2.1.toNat (1,1)) c d.2.2.1.toNat (Mq.minus (0,1) (1,1))
def pM (M:List (List Q2))(d:RD):List (List Q2):=en (en M d d.2.1.toNat (rZ (1,1) d.2.2.2)) d d.2.2.1.toNat (Mq.minus (0,1) (rZ (1,1) d.2.2.2))
def pR (rs:List Q2)(d:RD):List Q2:=rzl (rzl rs d.2.1.toNat (Mq.minus (0,1) d.2.2.2)) d.2.2.1.toNat d.2.2.2
theorem jG:Bd 1 (1,1):=⟨show (1:Nat) < 2 ^ 1 by decide,show (1:Nat) < 2 ^ 1 by decide⟩
theorem h11:1<=((1,1):Q2).2:=by decide
theorem Em (l:Low p)(h0:0 < p.1)(b:Bd k p):Low (rZ (1,1) p)/\Bd (k+1) (rZ (1,1) p)/\Mq.val (rZ (1,1) p)=1 / Mq.val p:=by
 refine⟨Mq.Rl h11 (by lia),(Mq.Xc jG b h11 (by lia)).mono (by lia),?_⟩;rw[Mq.Oq h11 l.pos (by lia),Xv]
theorem qj7 {w n k m h:Nat}(b:MxB M w w n)(pt:cX (m:Int) d.2.1 d.2.2.1)(hm:m<=w)(hk:d.1=.pc)(l:Low d.2.2.2)(h0:0 < d.2.2.2.1)(bk:Bd k d.2.2.2):MxB (pM M d) w w (n+4*k+20)/\∀x y,Mq.val (kB (pM M d) x y)=Mq.val (kB M x y)+cM d h x y:=by
 obtain⟨i0,i1,j0,j1⟩:=pt;obtain⟨ls,bs,vs⟩:=Em l h0 bk;obtain⟨ln,bn,vn⟩:=mI ls bs;have pt':cX (w:Int) d.2.1 d.2.2.1:=⟨i0,by lia,j0,by lia⟩
 obtain⟨b1,v1⟩:=Dy b pt' (c:=d.2.1.toNat) (by lia) ls bs;obtain⟨b2,v2⟩:=Dy b1 pt' (c:=d.2.2.1.toNat) (by lia) ln bn;refine⟨b2.mono (by lia),fun x y=>?_⟩;unfold pM;rw[v2,v1,vn,vs];unfold cM;rw[hk];show _=_+dl d.2.1.toNat d.2.2.1.toNat x*dl d.2.1.toNat d.2.2.1.toNat y*(1 / Mq.val d.2.2.2)
 generalize 1 / Mq.val d.2.2.2=v;generalize dl d.2.1.toNat d.2.2.1.toNat x=u;unfold dl
 by_cases c1:d.2.1.toNat=y<;>by_cases c2:d.2.2.1.toNat=y<;>simp only[c1,c2,if_true,if_false]<;>grind
theorem qh0 {w n m c:Nat}(b:MxB M w w n)(pt:cX (m:Int) d.2.1 d.2.2.1)(hm:m<=w)(hc:c < w)(hk:d.1=.ho):MxB (hM M d c) w w (n+20)/\∀x y,Mq.val (kB (hM M d c) x y)=Mq.val (kB M x y)+cM d c x y:=by
 obtain⟨i0,i1,j0,j1⟩:=pt;have pt':cX (w:Int) d.2.1 d.2.2.1:=⟨i0,by lia,j0,by lia⟩
 obtain⟨ln,bn,vn⟩:=mI jS jG;obtain⟨b1,v1⟩:=Dy b pt' hc jS jG;have b2:=b1.rz (i:=c) (j:=d.2.1.toNat) hc (by lia) jS jG;have b3:=b2.rz (i:=c) (j:=d.2.2.1.toNat) hc (by lia) ln bn;refine⟨b3.mono (by lia),fun x y=>?_⟩;unfold hM;rw[Ao b2 hc (by lia) ln,Ao b1 hc (by lia) jS,v1,vn,Xv];unfold cM;rw[hk];show _=_+(dl d.2.1.toNat d.2.2.1.toNat x*(if c=y then 1 else 0)+(if c=x then 1 else 0)*dl d.2.1.toNat d.2.2.1.toNat y)
 generalize dl d.2.1.toNat d.2.2.1.toNat x=u;unfold dl
 by_cases c1:d.2.1.toNat=y<;>by_cases c2:d.2.2.1.toNat=y<;>by_cases c3:c=x<;>by_cases c4:c=y<;>simp only[c1,c2,c3,c4,true_and,and_true,false_and,and_false,and_self,if_true,if_false]<;>grind
theorem qh1 {w n k m h:Nat}(b:LnB rs w n)(pt:cX (m:Int) d.2.1 d.2.2.1)(hm:m<=w)(hk:d.1=.pu)(l:Low d.2.2.2)(bk:Bd k d.2.2.2):LnB (pR rs d) w (n+4*k+20)/\∀x,Mq.val ((pR rs d).getD x (0,1))=Mq.val (rs.getD x (0,1))+cR d h x:=by
 obtain⟨i0,i1,j0,j1⟩:=pt;obtain⟨ln,bn,vn⟩:=mI l bk;have b1:=b.rz (j:=d.2.1.toNat) (by lia) ln bn;have b2:=b1.rz (j:=d.2.2.1.toNat) (by lia) l bk;refine⟨b2.mono (by lia),fun x=>?_⟩;unfold pR;rw[Iq b1 (by lia) l,Iq b (by lia) ln,vn];unfold cR;rw[hk];show _=_ + - dl d.2.1.toNat d.2.2.1.toNat x*Mq.val d.2.2.2;unfold dl
 by_cases c1:d.2.1.toNat=x<;>by_cases c2:d.2.2.1.toNat=x<;>simp only[c1,c2,if_true,if_false]<;>grind
theorem yJ {m:Nat}:∀(ds:List RD) (h x:Nat),(∀d∈ds,cX (m:Int) d.2.1 d.2.2.1)->m<=h->h+cC ds<=x->eqR h ds x=0
 | [],_,_,_,_,_=>rfl
 |d :: ds,h,x,pt,hm,hx=>by
  rw[gY] at hx;have ih:=yJ ds (h+cN d.1) x (fun e he=>pt e (mem_cons_of_mem _ he)) (by lia) (by lia);obtain⟨i0,i1,j0,j1⟩:=pt d (by simp);show cR d h x+eqR (h+cN d.1) ds x=0;rw[ih];have z:dl d.2.1.toNat d.2.2.1.toNat x=0:=by unfold dl;rw[if_neg (by lia),if_neg (by lia)];grind
  unfold cR
  cases hk:d.1 with
  |pc=>show (0:Rat)+0=0;grind
  |pu=>show - dl d.2.1.toNat d.2.2.1.toNat x*Mq.val d.2.2.2+0=0;rw[z];grind
  |ho=>
   have:cN d.1=1:=by unfold cN;rw[if_pos hk]
   show (if h=x then Mq.val d.2.2.2 else 0)+0=0;rw[if_neg (by lia)];grind
theorem qj3 {rs:List Q2}{w n k m c:Nat}{d:RD}(b:LnB rs w n)(hc:c < w)(hk:d.1=.ho)(l:Low d.2.2.2)(bk:Bd k d.2.2.2)(h0:Mq.val (rs.getD c (0,1))=0):LnB (rs.set c d.2.2.2) w (n+k)/\∀x,Mq.val ((rs.set c d.2.2.2).getD x (0,1))=Mq.val (rs.getD x (0,1))+cR d c x:=by
 refine⟨(b.mono (by lia)).set l (bk.mono (by lia)),fun x=>?_⟩;rw[zO (by rw[b.w];exact hc)];unfold cR;rw[hk];show _=_+if c=x then Mq.val d.2.2.2 else 0
 by_cases e:c=x
 ·subst e;rw[if_pos rfl,if_pos rfl,h0];grind
 ·rw[if_neg e,if_neg e];grind
def tO (K:Frag):Sp:=fun vs H Q _=>∃(l z:Addr) (j:Nat) (xs:List V) (ps:List Q2) (a:Q2) (n m:Nat),vs=[.ref l,.int (j:Int),.ref z]/\H l=some (.lst xs)/\Fqs K H xs ps/\j < ps.length/\1<=(ps.getD j (0,1)).2/\Bd n (ps.getD j (0,1))/\Fq K H z a/\1<=a.2/\Bd m a/\n+m+1<=9000/\∀v H1,aW H H1->Fq K H1 v (lW (ps.getD j (0,1)) a)->Q .non (upd H1 l (.lst (xs.set j (.ref v))))
def Ap (K:Frag)(CK:Kd->Addr):Sp:=fun vs H Q _=>∃(D x z:Addr) (zz:V) (as:List Addr) (M:List (List Q2)) (d:RD) (w n k c:Nat) (a:Q2),vs=[.ref D,.ref x,.int (c:Int),.ref z]/\Mx K H D as M/\MxB M w w n/\Rw CK H x d.1 (.int d.2.1) (.int d.2.2.1) zz/\cX (w:Int) d.2.1 d.2.2.1/\c < w/\Fq K H z a/\Low a/\Bd k a/\n+2*k+4<=9000/\∀H',SX as H H'->Mx K H' D as (en M d c a)->Q .non H'
def Dg (K:Frag)(CK:Kd->Addr):Sp:=fun vs H Q _=>∃(D x zz:Addr) (as:List Addr) (M:List (List Q2)) (d:RD) (w n k:Nat),vs=[.ref D,.ref x]/\Mx K H D as M/\MxB M w w n/\Rw CK H x d.1 (.int d.2.1) (.int d.2.2.1) (.ref zz)/\Fq K H zz d.2.2.2/\cX (w:Int) d.2.1 d.2.2.1/\Low d.2.2.2/\0 < d.2.2.2.1/\Bd k d.2.2.2/\n+4*k+20<=9000/\∀H',SX as H H'->Mx K H' D as (pM M d)->Q .non H'
def Ec (K:Frag)(CK:Kd->Addr):Sp:=fun vs H Q _=>∃(R x zz:Addr) (ys:List V) (rs:List Q2) (d:RD) (w n k:Nat),vs=[.ref R,.ref x]/\H R=some (.lst ys)/\Fqs K H ys rs/\LnB rs w n/\Rw CK H x d.1 (.int d.2.1) (.int d.2.2.1) (.ref zz)/\Fq K H zz d.2.2.2/\cX (w:Int) d.2.1 d.2.2.1/\Low d.2.2.2/\Bd k d.2.2.2/\n+4*k+20<=9000/\∀ys' H',SX [R] H H'->H' R=some (.lst ys')->Fqs K H' ys' (pR rs d)->Q .non H'
def Cm (K:Frag)(CK:Kd->Addr):Sp:=fun vs H Q _=>∃(D R x zz:Addr) (as:List Addr) (M:List (List Q2)) (ys:List V) (rs:List Q2) (d:RD) (w n c:Nat),vs=[.ref D,.ref R,.ref x,.int (c:Int)]/\Mx K H D as M/\MxB M w w n/\H R=some (.lst ys)/\Fqs K H ys rs/\rs.length=w/\R≠D/\R∉as/\Rw CK H x d.1 (.int d.2.1) (.int d.2.2.1) (.ref zz)/\Fq K H zz d.2.2.2/\cX (w:Int) d.2.1 d.2.2.1/\c < w/\n+20<=9000/\∀ys' H',SX (R :: as) H H'->Mx K H' D as (hM M d c)->H' R=some (.lst ys')->Fqs K H' ys' (rs.set c d.2.2.2)->Q .non H'
structure Fms (K:Frag) (H0 H:Hp) (us:List V) (X:List (List Q2)):Prop where
 l:us.length=X.length
 r:∀(i:Nat) (x:V) (ps:List Q2),us[i]?=some x->X[i]?=some ps->∃(a:Addr) (xs:List V),x=.ref a/\H0 a=none/\H a=some (.lst xs)/\Fqs K H xs ps
structure Cd (m:Nat) (ds:List RD) (N:Nat) (X:List (List Q2)) (Y:List Q2):Prop where
 x:MxB X (m - 1+cC ds) (m - 1+cC ds) N
 y:LnB Y (m - 1+cC ds) N
 vx:∀i j,Mq.val (kB X i j)=eqM m ds (i+1) (j+1)
 vy:∀i,Mq.val (Y.getD i (0,1))=eqR m ds (i+1)
def kS (kb:Nat->Nat):Nat->Nat
 |0=>0
 |i+1=>kS kb i+(4*kb i+20)
theorem zK (kb:Nat->Nat):∀{j:Nat},i<=j->kS kb i<=kS kb j
 |0,h=>by rw[Nat.le_zero.mp h];exact Nat.le_refl _
 |j+1,h=>by
  rcases Nat.eq_or_lt_of_le h with z | z
  ·rw[z];exact Nat.le_refl _
  ·have:=zK kb (i:=i) (j:=j) (by lia);show _<=kS kb j+(4*kb j+20)
   lia
def Py (CN:Addr)(K:Frag):Sp:=fun vs H Q _=>∃(n l:Addr) (m:Nat) (kb:Nat->Nat) (ds:List RD),vs=[.ref n]/\dE CN K H n l (m:Int) ds/\(∀i d,ds[i]?=some d->Cp (m:Int) d/\Bd (kb i) d.2.2.2)/\1<=m/\m<=20/\ds.length<=40/\kS kb ds.length+30<=8900/\
 ∀t p r us ys X Y H',aW H H'->H' t=some (.tup [.ref p,.ref r])->H p=none->H r=none->H' p=some (.lst us)->H' r=some (.lst ys)->Fms K H H' us X->Fqs K H' ys Y->(∀x∈us,x≠.ref p/\x≠.ref r)->Cd m ds (kS kb ds.length+1) X Y->Q (.ref t) H'
def Wm (ta:TA):TE:=fun σ H Q=>ta σ H fun vs H1=>∃n:Nat,vs=[.int (n:Int)]/\n<=1000/\∀l,H1 l=none->Q (.ref l) (upd H1 l (.lst ((List.range n).map fun (i:Nat)=>V.int (i:Int))))
theorem wN:∀{n:Nat} {acc:List Value},acc.length=n->(∀(j:Nat) (v:Value),acc[j]?=some v->∃t,v=Value.int (j:Int) t)->bQ ((List.range n).map fun (i:Nat)=>V.int (i:Int)) acc
 |0,[],_,_=>.nil
 |n+1,acc,hl,h=>by
  have e:acc=acc.take n++[acc[n]'(by lia)]:=by
   have h1:acc.take (n+1)=acc:=take_of_length_le (by lia);have h2:acc.take (n+1)=acc.take n++[acc[n]'(by lia)]:=by rw[take_add_one,getElem?_eq_getElem (by lia)];rfl
   rw[h1] at h2;exact h2
  rw[range_succ,map_append,e];refine bQ.append (wN (by rw[length_take];lia) fun j v hj=>?_) (.cons ?_ .nil)
  ·have hjn:j < n:=by
    have:=(List.getElem?_eq_some_iff.mp hj).1;rw[length_take] at this;lia
   rw[getElem?_take,if_pos hjn] at hj;exact h j v hj
  ·obtain⟨t,ht⟩:=h n _ (getElem?_eq_getElem (by lia));rw[ht];exact⟨t,rfl⟩
section
variable {X:Cx} {a:Expr} {p p2 pos pos2:Pos} {ta:TA}
theorem Am (hc:X.calm=true)(hgl:Gl X "list")(hml:X.mg "list"=none)(hg:Gl X "range")(hm:X.mg "range"=none)(ha:PA X [a] ta)(hs:starEach [a] X.env=[(false,eval a X.env)]:=by rfl)(he:starEach [.Call (.Name "range" p2) [a] [] pos2] X.env=(false,eval (.Call (.Name "range" p2) [a] [] pos2) X.env) :: starEach [] X.env:=by rfl)(hpl:(backTo pos (starEach [] X.env)).any (·.1)=false:=by rfl) :
  PE X (.Call (.Name "list" p) [.Call (.Name "range" p2) [a] [] pos2] [] pos) (Wm ta):=by
 intro pins s σ H Q I h;refine wpAny_Call_Name_kw (kC I hgl hml PyProof.Rows.boot_list ?_);refine PyProof.Rows.callWith_type1 ?_ he hpl;rw[he];show wpAny _ _ (spliced ((false,eval (.Call (.Name "range" p2) [a] [] pos2) X.env) :: backTo pos (starEach [] X.env))) _ _ s;refine Calls.spliced_cons ?_;refine wpAny_Call_Name_kw (kC I hg hm boot_range (PyProof.Rows.callWith_type1 (thn (ha pos2 pins s σ H _ I h) fun us s1 ⟨vs,H1,I1,r1,q1⟩=>?_) hs rfl));obtain⟨n,e,hn,q⟩:=q1;subst e
 cases r1 with
 |cons r rr=>
  cases rr
  obtain⟨t,rfl⟩:=r;refine call_range_1 ?_;refine Calls.spliced_nil ?_;have I2:∀(ob:Obj) (tk:Nat),Inv X pins σ H1 { s1 with heap:=s1.heap.push ob,toks:=tk }:=fun ob tk=>I1.kept (t':=tk) (fun b ob e=>Heap.get?_push_of_some _ e);have hn24:(n:Nat)<=2 ^ 24:=by lia
  refine call_list_range (n:=n) (I1.ok.hd hc) (IsRange.new ..) (small_one (by decide) (by decide) (by lia) (by lia)) (by rw[rangeSize_one];split<;>lia) hn24 (fun h' tk acc' c' kp e items=>?_);have rl:bQ ((List.range n).map fun (i:Nat)=>V.int (i:Int)) acc'.toList:=wN (by rw[Array.length_toList];exact items.1) (fun j v hj=>by
   obtain⟨t,ht⟩:=items.2 j v (by rw[<- Array.getElem?_toList];exact hj);exact⟨t,by rw[ht];congr 1;lia⟩)
  have hz:((List.range n).map fun (i:Nat)=>V.int (i:Int)).length<=sizeLine:=by rw[length_map,length_range,sizeLine_eq];assumption
  exact⟨.ref _,_,(I2 _ _).laid (t':=tk) kp (Nat.le_refl _) (show cK X.prog X.w _ h' _ (.lst ((List.range n).map fun (i:Nat)=>V.int (i:Int))) from ⟨hz,acc'.toList,c',rl,e⟩),rfl,q _ ((I2 _ _).hok.fresh (Nat.le_refl _))⟩
end
def jn (ms:List Int)(s g:Nat):List Int:=ms.map fun x=>if x=ms.getD g 0 then ms.getD s 0 else x
def Ma (m:Nat):List Int:=(List.range m).map fun (i:Nat)=>(i:Int)
def jO (ms:List Int)(d:RD):List Int:=if d.1=.pu then ms else jn ms d.2.1.toNat d.2.2.1.toNat
def mks (m:Nat)(ds:List RD):List Int:=ds.foldl jO (Ma m)
def mk (m:Nat)(ds:List RD)(p:Nat):Int:=(mks m ds).getD p 0
theorem pP (m:Nat)(ds:List RD)(d:RD):mks m (ds++[d])=jO (mks m ds) d:=by unfold mks;rw[foldl_append];rfl
theorem Lc (ms:List Int)(d:RD):(jO ms d).length=ms.length:=by
 unfold jO;split
 ·rfl
 ·unfold jn;rw[length_map]
theorem xO:∀(ds:List RD) (ms:List Int),(ds.foldl jO ms).length=ms.length
 | [],_=>rfl
 |d :: ds,ms=>by show (ds.foldl jO (jO ms d)).length=_;rw[xO ds,Lc]
theorem pX (m:Nat)(ds:List RD):(mks m ds).length=m:=by unfold mks Ma;rw[xO,length_map,length_range]
theorem Qe {ms:List Int}{f:Int->Int}(h:p < ms.length):(ms.map f).getD p 0=f (ms.getD p 0):=by
 rw[getD_eq_getElem?_getD,getElem?_map,getD_eq_getElem?_getD,getElem?_eq_getElem h];rfl
theorem Np (h:p < m):mk m [] p=(p:Int):=by
 show (Ma m).getD p 0=_;unfold Ma;rw[getD_eq_getElem?_getD,getElem?_map,getElem?_range h];rfl
theorem tT (hk:d.1=.pu)(p:Nat):mk m (ds++[d]) p=mk m ds p:=by
 unfold mk;rw[pP];unfold jO;rw[if_pos hk]
theorem uA (hk:d.1≠.pu)(hp:p < m):mk m (ds++[d]) p=if mk m ds p=mk m ds d.2.2.1.toNat then mk m ds d.2.1.toNat else mk m ds p:=by
 unfold mk;rw[pP];unfold jO;rw[if_neg hk];unfold jn;rw[Qe (by rw[pX];exact hp)]
inductive Cn (ds:List RD):Nat->Nat->Prop where
 |refl (p:Nat):Cn ds p p
 |row {d:RD} (h:d∈ds) (hk:d.1≠.pu):Cn ds d.2.1.toNat d.2.2.1.toNat
 |symm {p q:Nat} (h:Cn ds p q):Cn ds q p
 |trans {p q r:Nat} (h:Cn ds p q) (g:Cn ds q r):Cn ds p r
theorem Cn.mono (h:∀d∈ds,d∈es)(c:Cn ds p q):Cn es p q:=by
 induction c with
 |refl p=>exact .refl p
 |row hd hk=>exact .row (h _ hd) hk
 |symm _ ih=>exact .symm ih
 |trans _ _ a b=>exact .trans a b
theorem Dk {m:Nat}:∀(n:Nat) (ds:List RD),ds.length=n->(∀d∈ds,cX (m:Int) d.2.1 d.2.2.1)->∀p q,p < m->q < m->mk m ds p=mk m ds q->Cn ds p q
 |0,ds,hl,_,p,q,hp,hq,e=>by
  have:ds=[]:=length_eq_zero_iff.mp hl;subst this;rw[Np hp,Np hq] at e;have:p=q:=by lia
  subst this;exact .refl p
 |n+1,ds,hl,pt,p,q,hp,hq,e=>by
  obtain⟨es,d,rfl⟩:∃es d,ds=es++[d]:=⟨ds.dropLast,ds.getLast (by intro z;rw[z] at hl;cases hl),(dropLast_concat_getLast _).symm⟩
  have le:es.length=n:=by rw[List.length_append] at hl;simpa using hl
  have ih:=Dk n es le (fun x hx=>pt x (mem_append_left _ hx));have up:∀{a b:Nat},Cn es a b->Cn (es++[d]) a b:=fun c=>c.mono fun x hx=>mem_append_left _ hx
  by_cases hk:d.1=.pu
  ·rw[tT hk,tT hk] at e;exact up (ih p q hp hq e)
  ·obtain⟨i0,i1,j0,j1⟩:=pt d (by simp);have hs:d.2.1.toNat < m:=by lia
   have hg:d.2.2.1.toNat < m:=by lia
   have rw':Cn (es++[d]) d.2.1.toNat d.2.2.1.toNat:=.row (by simp) hk;rw[uA hk hp,uA hk hq] at e
   by_cases a:mk m es p=mk m es d.2.2.1.toNat
   ·have cp:=up (ih _ _ hp hg a);rw[if_pos a] at e
    by_cases b:mk m es q=mk m es d.2.2.1.toNat
    ·exact cp.trans (up (ih _ _ hq hg b)).symm
    ·rw[if_neg b] at e;exact cp.trans (rw'.symm.trans (up (ih _ _ hs hq e)))
   ·rw[if_neg a] at e
    by_cases b:mk m es q=mk m es d.2.2.1.toNat
    ·rw[if_pos b] at e;exact(up (ih _ _ hp hs e)).trans (rw'.trans (up (ih _ _ hq hg b)).symm)
    ·rw[if_neg b] at e;exact up (ih _ _ hp hq e)
theorem uG {m:Nat}:∀(n:Nat) (ds:List RD),ds.length=n->(∀d∈ds,cX (m:Int) d.2.1 d.2.2.1)->∀d∈ds,d.1≠.pu->mk m ds d.2.1.toNat=mk m ds d.2.2.1.toNat
 |0,ds,hl,_,d,hd,_=>by
  have:ds=[]:=length_eq_zero_iff.mp hl;rw[this] at hd;cases hd
 |n+1,ds,hl,pt,x,hx,hkx=>by
  obtain⟨es,d,rfl⟩:∃es d,ds=es++[d]:=⟨ds.dropLast,ds.getLast (by intro z;rw[z] at hl;cases hl),(dropLast_concat_getLast _).symm⟩
  have le:es.length=n:=by rw[List.length_append] at hl;simpa using hl
  obtain⟨i0,i1,j0,j1⟩:=pt x hx;have hs:x.2.1.toNat < m:=by lia
  have hg:x.2.2.1.toNat < m:=by lia
  by_cases hk:d.1=.pu
  ·rw[tT hk,tT hk];rcases mem_append.mp hx with z | z
   ·exact uG n es le (fun y hy=>pt y (mem_append_left _ hy)) x z hkx
   ·have:x=d:=by simpa using z
    rw[this] at hkx;exact absurd hk hkx
  ·rw[uA hk hs,uA hk hg];rcases mem_append.mp hx with z | z
   ·have ih:=uG n es le (fun y hy=>pt y (mem_append_left _ hy)) x z hkx;rw[ih]
   ·have:x=d:=by simpa using z
    subst this;rw[if_pos rfl]
    by_cases c:mk m es x.2.1.toNat=mk m es x.2.2.1.toNat
    ·rw[if_pos c]
    ·rw[if_neg c]
theorem Cn.ind {R:Nat->Nat->Prop}(r:∀p,R p p)(s:∀p q,R p q->R q p)(t:∀p q x,R p q->R q x->R p x)(h:∀d∈ds,d.1≠.pu->R d.2.1.toNat d.2.2.1.toNat)(c:Cn ds p q):R p q:=by
 induction c with
 |refl p=>exact r p
 |row hd hk=>exact h _ hd hk
 |symm _ ih=>exact s _ _ ih
 |trans _ _ a b=>exact t _ _ _ a b
theorem Jg {m:Nat}(pt:∀d∈ds,cX (m:Int) d.2.1 d.2.2.1)(hp:p < m)(hq:q < m):mk m ds p=mk m ds q↔Cn ds p q:=
 ⟨Dk _ ds rfl pt p q hp hq,fun c=>Cn.ind (R:=fun a b=>mk m ds a=mk m ds b) (fun _=>rfl) (fun _ _ e=>e.symm) (fun _ _ _ a b=>a.trans b) (fun d hd hk=>uG _ ds rfl pt d hd hk) c⟩
theorem zG:∀{m:Nat} {S:List Nat},S.Nodup->(∀p∈S,p < m)->S.length<=m
 |0,[],_,_=>Nat.le_refl _
 |0,p :: S,_,h=>absurd (h p (mem_cons_self ..)) (Nat.not_lt_zero _)
 |m+1,S,nd,h=>by
  have e:=zG (m:=m) (S:=S.erase m) (nd.erase m) (fun p hp=>by
   have h1:=h p (mem_of_mem_erase hp);have h2:p≠m:=fun z=>by rw[z] at hp;exact(Nodup.not_mem_erase nd) hp
   lia)
  have:=length_erase_le (a:=m) (l:=S);have h3:S.length<=(S.erase m).length+1:=by
   rw[length_erase];split<;>lia
  lia
theorem Mi {m:Nat}{S:List Nat}(pt:∀d∈ds,cX (m:Int) d.2.1 d.2.2.1)(hf:f < m)(h1:f∈S)(h2:∀p∈S,p < m/\mk m ds p=mk m ds f)(h3:∀d∈ds,d.1≠.pu->(d.2.1.toNat∈S↔d.2.2.1.toNat∈S))(hp:p < m):p∈S↔mk m ds p=mk m ds f:=by
 refine⟨fun h=>(h2 p h).2,fun h=>?_⟩;exact(Cn.ind (R:=fun a b=>a∈S↔b∈S) (fun _=>Iff.rfl) (fun _ _ e=>e.symm) (fun _ _ _ a b=>a.trans b) h3 ((Jg pt hf hp).mp h.symm)).mp h1
abbrev Stp:=Nat × Int
abbrev Br:=Nat × Nat × Nat
def stF (es:List Br)(p:Nat):List (Stp × Nat):=es.filterMap fun e=>if e.2.1=p then some ((e.1,1),e.2.2) else if e.2.2=p then some ((e.1,-1),e.2.1) else none
abbrev WS:=List (Nat × List Stp)
def cB (w:WS):List Nat:=w.map (·.1)
def rK:WS->Nat->Option (List Stp)
 | [],_=>none
 |e :: w,p=>if e.1=p then some e.2 else rK w p
theorem iG {st:List Stp}:∀{w:WS},rK w p=some st->(p,st)∈w
 | [],h=>by cases h
 |e :: w,h=>by
  unfold rK at h
  by_cases c:e.1=p
  ·rw[if_pos c] at h
   cases h
   obtain⟨a,b⟩:=e;have c:a=p:=c;subst c;exact mem_cons_self ..
  ·rw[if_neg c] at h;exact mem_cons_of_mem _ (iG h)
theorem pA:∀{w:WS},p∈cB w->∃st,rK w p=some st
 | [],h=>by cases h
 |e :: w,h=>by
  unfold rK
  by_cases c:e.1=p
  ·rw[if_pos c];exact⟨_,rfl⟩
  ·rw[if_neg c];rcases mem_cons.mp h with z | z
   ·exact absurd z.symm c
   ·exact pA z
theorem rY:∀{w:WS},p∉cB w->rK w p=none
 | [],_=>rfl
 |e :: w,h=>by
  unfold rK;rw[if_neg (fun z=>h (by rw[<- z];exact mem_cons_self ..))];exact rY fun z=>h (mem_cons_of_mem _ z)
theorem Pp:(rK w p).isSome=true↔p∈cB w:=by
 by_cases c:p∈cB w
 ·obtain⟨st,e⟩:=pA c;rw[e];exact⟨fun _=>c,fun _=>rfl⟩
 ·rw[rY c];exact⟨fun z=>(by cases z),fun z=>absurd z c⟩
def inF (p:Nat)(s:WS × List Nat)(t:Stp × Nat):WS × List Nat:=if t.2∈cB s.1 then s else (s.1++[(t.2,(rK s.1 p).getD []++[t.1])],s.2++[t.2])
def lL (es:List Br)(s:WS × List Nat):WS × List Nat:=if s.2=[] then s else (stF es (s.2.getLastD 0)).foldl (inF (s.2.getLastD 0)) (s.1,s.2.dropLast)
def cD (es:List Br)(b:Nat):Nat->WS × List Nat
 |0=>([(b,[])],[b])
 |n+1=>lL es (cD es b n)
def vJ (es:List Br)(b e:Nat):Option (List Stp):=rK (cD es b 60).1 e
def qO (es:List Br)(s:Stp)(p q:Nat):Prop:=∃u v,(s.1,u,v)∈es/\((s.2=1/\p=u/\q=v)\/(s.2=-1/\p=v/\q=u))
inductive Pt (es:List Br) (b:Nat):List Stp->Nat->List Nat->Prop where
 |nil:Pt es b [] b [b]
 |snoc {st:List Stp} {p q:Nat} {pts:List Nat} {s:Stp} (h:Pt es b st p pts) (g:qO es s p q) (n:q∉pts):Pt es b (st++[s]) q (pts++[q])
theorem mU (h:t∈stF es p):qO es t.1 p t.2:=by
 unfold stF at h;obtain⟨e,he,ht⟩:=mem_filterMap.mp h
 by_cases c1:e.2.1=p
 ·rw[if_pos c1] at ht
  cases ht
  exact⟨e.2.1,e.2.2,he,.inl ⟨rfl,c1.symm,rfl⟩⟩
 ·rw[if_neg c1] at ht
  by_cases c2:e.2.2=p
  ·rw[if_pos c2] at ht
   cases ht
   exact⟨e.2.1,e.2.2,he,.inr ⟨rfl,c2.symm,rfl⟩⟩
  ·rw[if_neg c2] at ht;cases ht
theorem Pj (h:qO es s p q):q=p\/∃t∈stF es p,t.2=q:=by
 obtain⟨u,v,he,h⟩:=h
 by_cases c:q=p
 ·exact .inl c
 refine .inr ?_;rcases h with ⟨_,rfl,rfl⟩ | ⟨_,rfl,rfl⟩
 ·refine⟨((s.1,1),q),mem_filterMap.mpr ⟨_,he,?_⟩,rfl⟩;rw[if_pos rfl]
 ·refine⟨((s.1,-1),q),mem_filterMap.mpr ⟨_,he,?_⟩,rfl⟩;rw[if_neg c,if_pos rfl]
structure WI (es:List Br) (b:Nat) (s:WS × List Nat):Prop where
 nd:(cB s.1).Nodup
 kb:b∈cB s.1
 pt:∀x st,(x,st)∈s.1->∃pts,Pt es b st x pts/\∀y∈pts,y∈cB s.1
 q:∀x∈s.2,x∈cB s.1
 cl:∀x∈cB s.1,x∉s.2->∀t y,qO es t x y->y∈cB s.1
theorem Qb (es:List Br)(b:Nat):WI es b ([(b,[])],[b]):=by
 refine⟨by simp[cB],by simp[cB],fun x st h=>?_,fun x h=>?_,fun x h n=>?_⟩
 ·have:(x,st)=(b,[]):=by simpa using h
  cases this
  exact⟨[b],.nil,fun y hy=>by simpa[cB] using hy⟩
 ·simpa[cB] using h
 ·have:x=b:=by simpa[cB] using h
  exact absurd (by simp[this]) n
theorem Ag (w:WS)(x:Nat)(st:List Stp):cB (w++[(x,st)])=cB w++[x]:=by unfold cB;rw[map_append];rfl
structure WJ (es:List Br) (b p:Nat) (T:List (Stp × Nat)) (s:WS × List Nat):Prop where
 nd:(cB s.1).Nodup
 kb:b∈cB s.1
 kp:p∈cB s.1
 pt:∀x st,(x,st)∈s.1->∃pts,Pt es b st x pts/\∀y∈pts,y∈cB s.1
 q:∀x∈s.2,x∈cB s.1
 cl:∀x∈cB s.1,x∉s.2->x≠p->∀t y,qO es t x y->y∈cB s.1
 t:∀t∈T,t.2∈cB s.1
theorem Jo (h:WJ es b p T s)(g:qO es t.1 p t.2):WJ es b p (T++[t]) (inF p s t):=by
 unfold inF
 by_cases c:t.2∈cB s.1
 ·rw[if_pos c];refine { h with t:=fun u hu=>?_ };rcases mem_append.mp hu with z | z
  ·exact h.t u z
  ·have:u=t:=by simpa using z
   rw[this];exact c
 ·rw[if_neg c];obtain⟨sp,ep⟩:=pA h.kp;rw[ep];have up:∀{x:Nat},x∈cB s.1->x∈cB (s.1++[(t.2,sp++[t.1])]):=fun hx=>by rw[Ag];exact mem_append_left _ hx
  have me:t.2∈cB (s.1++[(t.2,sp++[t.1])]):=by rw[Ag];simp
  refine⟨?_,up h.kb,up h.kp,fun x st hx=>?_,fun x hx=>?_,fun x hx nx np=>?_,fun u hu=>?_⟩
  ·show (cB (s.1++[(t.2,sp++[t.1])])).Nodup;rw[Ag,nodup_append];refine⟨h.nd,by simp,fun x hx y hy z=>?_⟩;have:y=t.2:=by simpa using hy
   exact c (by rw[<- this,<- z];exact hx)
  ·rcases mem_append.mp hx with z | z
   ·obtain⟨pts,h1,h2⟩:=h.pt x st z;exact⟨pts,h1,fun y hy=>up (h2 y hy)⟩
   ·have:(x,st)=(t.2,sp++[t.1]):=by simpa using z
    cases this
    obtain⟨pts,h1,h2⟩:=h.pt p sp (iG ep);refine⟨pts++[t.2],.snoc h1 g (fun z=>c (h2 _ z)),fun y hy=>?_⟩;rcases mem_append.mp hy with z | z
    ·exact up (h2 y z)
    ·have:y=t.2:=by simpa using z
     rw[this];exact me
  ·rcases mem_append.mp hx with z | z
   ·exact up (h.q x z)
   ·have:x=t.2:=by simpa using z
    rw[this];exact me
  ·have hx':x∈cB s.1:=by
    have hx2:x∈cB (s.1++[(t.2,sp++[t.1])]):=hx;rw[Ag] at hx2;rcases mem_append.mp hx2 with z | z
    ·exact z
    ·exact absurd (mem_append_right _ z) nx
   intro t' y hg;exact up (h.cl x hx' (fun z=>nx (mem_append_left _ z)) np t' y hg)
  ·rcases mem_append.mp hu with z | z
   ·exact up (h.t u z)
   ·have:u=t:=by simpa using z
    rw[this];exact me
theorem An:∀(U T:List (Stp × Nat)) {s:WS × List Nat},WJ es b p T s->(∀t∈U,qO es t.1 p t.2)->WJ es b p (T++U) (U.foldl (inF p) s)
 | [],T,s,h,_=>by rw[append_nil];exact h
 |u :: U,T,s,h,g=>by
  have:=An U (T++[u]) (Jo h (g u (by simp))) fun t ht=>g t (mem_cons_of_mem _ ht);rw[List.append_assoc] at this;exact this
theorem Kb (h:q≠[]):q.getLastD 0∈q/\q=q.dropLast++[q.getLastD 0]:=by
 have e:q.getLastD 0=q.getLast h:=by rw[getLastD_eq_getLast?,getLast?_eq_some_getLast h];rfl
 rw[e];exact⟨getLast_mem h,(dropLast_concat_getLast h).symm⟩
theorem uM (h:WI es b s)(hq:s.2≠[]):WJ es b (s.2.getLastD 0) [] (s.1,s.2.dropLast):=by
 obtain⟨m,e⟩:=Kb hq;refine⟨h.nd,h.kb,h.q _ m,h.pt,fun x hx=>h.q x (dropLast_subset _ hx),fun x hx nx np=>h.cl x hx fun z=>?_,fun t ht=>by cases ht⟩;rw[e] at z;rcases mem_append.mp z with z | z
 ·exact nx z
 ·exact np (by simpa using z)
theorem qe1 (h:WJ es b p (stF es p) s):WI es b s:=by
 refine⟨h.nd,h.kb,h.pt,h.q,fun x hx nx t y hg=>?_⟩
 by_cases c:x=p
 ·subst c;rcases Pj hg with z | ⟨u,hu,e⟩
  ·rw[z];exact hx
  ·rw[<- e];exact h.t u hu
 ·exact h.cl x hx nx c t y hg
theorem We (h:WI es b s):WI es b (lL es s):=by
 unfold lL
 by_cases c:s.2=[]
 ·rw[if_pos c];exact h
 ·rw[if_neg c];have:=An (stF es (s.2.getLastD 0)) [] (uM h c) fun t ht=>mU ht;rw[nil_append] at this;exact qe1 this
theorem kY (es:List Br)(b:Nat):∀n,WI es b (cD es b n)
 |0=>Qb es b
 |n+1=>We (kY es b n)
def muF (s:WS × List Nat):Nat:=2*(20 - s.1.length)+s.2.length
structure Ptm (m:Nat) (es:List Br):Prop where
 p:∀e∈es,e.2.1 < m/\e.2.2 < m
theorem qh7 (h:Ptm m es)(hb:b < m){st:List Stp}(p:Pt es b st x pts):x < m:=by
 cases p with
 |nil=>exact hb
 |snoc _ g _=>
  obtain⟨u,v,he,g⟩:=g;have:=h.p _ he;rcases g with ⟨_,_,rfl⟩ | ⟨_,_,rfl⟩
  ·exact this.2
  ·exact this.1
theorem Bz (h:Ptm m es)(hb:b < m)(pt:∀x st,(x,st)∈w->∃pts,Pt es b st x pts/\∀y∈pts,y∈cB w):∀x∈cB w,x < m:=fun x hx=>by
 obtain⟨st,e⟩:=pA hx;obtain⟨pts,p,_⟩:=pt x st (iG e);exact qh7 h hb p
theorem Nj (h:Ptm m es)(hb:b < m)(nd:(cB w).Nodup)(pt:∀x st,(x,st)∈w->∃pts,Pt es b st x pts/\∀y∈pts,y∈cB w):w.length<=m:=by
 have:=zG nd (Bz h hb pt);unfold cB at this
 rwa [length_map] at this
theorem qg8 (hm:Ptm m es)(hb:b < m)(h20:m<=20)(h:WJ es b p T s)(g:qO es t.1 p t.2):muF (inF p s t)<=muF s:=by
 have h':=Jo h g;have le:=Nj hm hb h'.nd h'.pt;unfold inF at le ⊢
 by_cases c:t.2∈cB s.1
 ·rw[if_pos c];exact Nat.le_refl _
 ·rw[if_neg c] at le ⊢;unfold muF;simp only[List.length_append,length_cons,length_nil] at le ⊢;lia
theorem Ba (hm:Ptm m es)(hb:b < m)(h20:m<=20):∀(U T:List (Stp × Nat)) {s:WS × List Nat},WJ es b p T s->(∀t∈U,qO es t.1 p t.2)->muF (U.foldl (inF p) s)<=muF s
 | [],_,_,_,_=>Nat.le_refl _
 |u :: U,T,s,h,g=>Nat.le_trans (Ba hm hb h20 U (T++[u]) (Jo h (g u (by simp))) fun t ht=>g t (mem_cons_of_mem _ ht)) (qg8 hm hb h20 h (g u (by simp)))
theorem Ef (h:s.2≠[]):muF (s.1,s.2.dropLast)+1=muF s:=by
 have:0 < s.2.length:=length_pos_iff.mpr h;show 2*(20 - s.1.length)+s.2.dropLast.length+1=2*(20 - s.1.length)+s.2.length;rw[length_dropLast];lia
theorem Ie (hm:Ptm m es)(hb:b < m)(h20:m<=20)(h:WI es b s)(hq:s.2≠[]):muF (lL es s)+1<=muF s:=by
 unfold lL;rw[if_neg hq];have:=Ba hm hb h20 (stF es (s.2.getLastD 0)) [] (uM h hq) fun t ht=>mU ht;have e:=Ef hq;lia
theorem xK (h:(cD es b i).2=[]):∀n,cD es b (i+n)=cD es b i
 |0=>rfl
 |n+1=>by
  show lL es (cD es b (i+n))=_;rw[xK h n];unfold lL;rw[if_pos h]
theorem Xa (h:(cD es b i).2=[])(hi:i<=60):(cD es b 60).1=(cD es b i).1:=by
 have:=xK h (60 - i);rw[show i+(60 - i)=60 by lia] at this;rw[this]
theorem rW (hm:Ptm m es)(hb:b < m)(h20:m<=20):∀n,(cD es b n).2=[]\/n+muF (cD es b n)<=39
 |0=>.inr (by show 0+(2*(20 - 1)+1)<=39;decide)
 |n+1=>by
  by_cases c:(cD es b n).2=[]
  ·refine .inl ?_;show (lL es (cD es b n)).2=[]
   unfold lL;rw[if_pos c];exact c
  ·rcases rW hm hb h20 n with z | z
   ·exact absurd z c
   ·have:=Ie hm hb h20 (kY es b n) c;refine .inr ?_;show n+1+muF (lL es (cD es b n))<=39;lia
theorem Nu (hm:Ptm m es)(hb:b < m)(h20:m<=20):(cD es b 60).2=[]:=by
 rcases rW hm hb h20 60 with z | z
 ·exact z
 ·lia
def sX (es:List Br):List RD:=es.map fun e=>(.pc,(e.2.1:Int),(e.2.2:Int),(0,1))
theorem vY (h:Ptm m es):∀d∈sX es,cX (m:Int) d.2.1 d.2.2.1:=fun d hd=>by
 obtain⟨e,he,rfl⟩:=mem_map.mp hd;have:=h.p e he;exact⟨by show (0:Int)<=(e.2.1:Int);lia,by show ((e.2.1:Nat):Int) < m;lia,by show (0:Int)<=(e.2.2:Int);lia,by show ((e.2.2:Nat):Int) < m;lia⟩
theorem Ur (h:Ptm m es)(g:qO es s p q):mk m (sX es) q=mk m (sX es) p:=by
 obtain⟨u,v,he,g⟩:=g;have e:=uG _ (sX es) rfl (vY h) (.pc,(u:Int),(v:Int),(0,1)) (mem_map.mpr ⟨_,he,rfl⟩) (by intro z;cases z);rw[Int.toNat_natCast,Int.toNat_natCast] at e;rcases g with ⟨_,rfl,rfl⟩ | ⟨_,rfl,rfl⟩
 ·exact e.symm
 ·exact e
theorem qf5 (h:Ptm m es){st:List Stp}(p:Pt es b st x pts):mk m (sX es) x=mk m (sX es) b:=by
 induction p with
 |nil=>rfl
 |snoc _ g _ ih=>rw[Ur h g,ih]
theorem Tv (h:Ptm m es)(h20:m<=20)(hb:b < m)(he:e < m):(vJ es b e).isSome=true↔mk m (sX es) e=mk m (sX es) b:=by
 have wi:=kY es b 60;have q0:=Nu h hb h20;unfold vJ;rw[Pp];refine Mi (vY h) hb wi.kb (fun p hp=>⟨Bz h hb wi.pt p hp,?_⟩) (fun d hd _=>?_) he
 ·obtain⟨st,e'⟩:=pA hp;obtain⟨pts,pp,_⟩:=wi.pt p st (iG e');exact qf5 h pp
 ·obtain⟨a,ha,rfl⟩:=mem_map.mp hd;show ((a.2.1:Int).toNat∈_↔(a.2.2:Int).toNat∈_);rw[Int.toNat_natCast,Int.toNat_natCast];exact⟨fun z=>wi.cl _ z (by rw[q0];simp) (a.1,1) _ ⟨a.2.1,a.2.2,ha,.inl ⟨rfl,rfl,rfl⟩⟩,fun z=>wi.cl _ z (by rw[q0];simp) (a.1,-1) _ ⟨a.2.1,a.2.2,ha,.inr ⟨rfl,rfl,rfl⟩⟩⟩
structure wG (es:List Br) (b e:Nat) (st:List Stp) (pts:List Nat):Prop where
 l:pts.length=st.length+1
 hb:pts[0]?=some b
 he:pts[st.length]?=some e
 g:∀i s,st[i]?=some s->∃p q,pts[i]?=some p/\pts[i+1]?=some q/\qO es s p q
 n:(st.map (·.1)).Nodup
theorem Tx {st:List Stp}(p:Pt es b st x pts):∀s∈st,∃y z,y∈pts/\z∈pts/\qO es s y z:=by
 induction p with
 |nil=>intro s h;cases h
 | @snoc st p q pts s h g n ih=>
  intro t ht;rcases mem_append.mp ht with z | z
  ·obtain⟨y,z',h1,h2,h3⟩:=ih t z;exact⟨y,z',mem_append_left _ h1,mem_append_left _ h2,h3⟩
  ·have:t=s:=by simpa using z
   subst this;refine⟨p,q,mem_append_left _ ?_,by simp,g⟩
   cases h with
   |nil=>simp
   |snoc _ _ _=>simp
theorem Ky {st:List Stp}(ne:(es.map (·.1)).Nodup)(p:Pt es b st x pts):wG es b x st pts:=by
 induction p with
 |nil=>exact⟨rfl,rfl,rfl,fun i s h=>by simp at h,by simp⟩
 | @snoc st p q pts s h g n ih=>
  have l:=ih.l;refine⟨by rw[List.length_append,List.length_append,l];rfl,?_,?_,fun i t ht=>?_,?_⟩
  ·rw[getElem?_append_left (by lia)];exact ih.hb
  ·rw[List.length_append,getElem?_append_right (by simp;lia)];simp only[length_cons,length_nil];rw[show st.length+(0+1) - pts.length=0 by lia];rfl
  ·by_cases c:i < st.length
   ·rw[getElem?_append_left c] at ht;obtain⟨y,z,h1,h2,h3⟩:=ih.g i t ht;exact⟨y,z,by rw[getElem?_append_left (by lia)];exact h1,by rw[getElem?_append_left (by lia)];exact h2,h3⟩
   ·have hi:i=st.length:=by
     have:=(List.getElem?_eq_some_iff.mp ht).1;simp only[List.length_append,length_cons,length_nil] at this;lia
    subst hi;rw[getElem?_append_right (Nat.le_refl _),Nat.sub_self] at ht;have:s=t:=by simpa using ht
    subst this;refine⟨p,q,by rw[getElem?_append_left (by lia)];exact ih.he,?_,g⟩;rw[getElem?_append_right (by lia),show st.length+1 - pts.length=0 by lia];rfl
  ·rw[map_append,nodup_append];refine⟨ih.n,by simp,fun a ha c hc z=>?_⟩;have hc:c=s.1:=by simpa using hc
   obtain⟨t,ht,et⟩:=mem_map.mp ha;obtain⟨y,w,h1,h2,u',v',he',g'⟩:=Tx h t ht;obtain⟨u,v,he,g⟩:=g;have same:(t.1,u',v')=(s.1,u,v):=by
    have key:∀{l:List Br},(l.map (·.1)).Nodup->∀{a c:Br},a∈l->c∈l->a.1=c.1->a=c:=fun {l}=>by
     induction l with
     |nil=>intro _ a c h;cases h
     |cons x l ih=>
      intro nd a c ha hc e;rw[map_cons,nodup_cons] at nd;rcases mem_cons.mp ha with rfl | z1<;>rcases mem_cons.mp hc with rfl | z2
      ·rfl
      ·exact absurd (mem_map.mpr ⟨c,z2,e.symm⟩) nd.1
      ·exact absurd (mem_map.mpr ⟨a,z1,e⟩) nd.1
      ·exact ih nd.2 z1 z2 e
    exact key ne he' he (by show t.1=s.1;rw[et,z,hc])
   have e1:u'=u:=by injection same with _ e;injection e
   have e2:v'=v:=by injection same with _ e;injection e
   subst e1;subst e2;rcases g with ⟨_,rfl,rfl⟩ | ⟨_,rfl,rfl⟩<;>rcases g' with ⟨_,rfl,rfl⟩ | ⟨_,rfl,rfl⟩
   ·exact n h2
   ·exact n h1
   ·exact n h1
   ·exact n h2
theorem Lf {st:List Stp}(ne:(es.map (·.1)).Nodup)(h:vJ es b e=some st):∃pts,wG es b e st pts:=by
 obtain⟨pts,p,_⟩:=(kY es b 60).pt e st (iG h);exact⟨pts,Ky ne p⟩
theorem zI {st:List Stp}(hm:Ptm m es)(hb:b < m)(h:vJ es b e=some st):st.length < m:=by
 obtain⟨pts,p,k⟩:=(kY es b 60).pt e st (iG h);have l:pts.length=st.length+1:=by
  clear h
  induction p with
  |nil=>rfl
  |snoc h g n ih=>rw[List.length_append,List.length_append,ih fun y hy=>k y (mem_append_left _ hy)];rfl
 have nd:pts.Nodup:=by
  clear h k l
  induction p with
  |nil=>simp
  |snoc h g n ih=>
   rw[nodup_append];refine⟨ih,by simp,fun x hx y hy z=>n ?_⟩;rw[mem_singleton] at hy;rw[<- hy,<- z];exact hx
 have:=zG nd fun y hy=>Bz hm hb (kY es b 60).pt y (k y hy);lia
abbrev Sk:=Kd × Nat × Nat
def skl (ds:List RD):List Sk:=ds.map fun d=>(d.1,d.2.1.toNat,d.2.2.1.toNat)
abbrev RS:=List Br × List (Nat × List Stp)
def jD (W:Kd->Bool)(s:RS)(k:Nat)(d:Sk):RS:=if W d.1 then (match vJ s.1 d.2.2 d.2.1 with
 |none=>(s.1++[(k,d.2.1,d.2.2)],s.2)
 |some st=>(s.1,s.2++[(k,(k,1) :: st)])) else s
def eU (W:Kd->Bool)(sk:List Sk):Nat->RS
 |0=>([],[])
 |n+1=>match sk[n]? with
  |none=>eU W sk n
  |some d=>jD W (eU W sk n) n d
theorem jJ (h:sk[n]?=some d):eU W sk (n+1)=jD W (eU W sk n) n d:=by
 show (match sk[n]? with | none=>eU W sk n | some d=>jD W (eU W sk n) n d)=_;rw[h]
structure RI (W:Kd->Bool) (sk:List Sk) (m n:Nat) (s:RS):Prop where
 pt:Ptm m s.1
 nd:(s.1.map (·.1)).Nodup
 lt:∀e∈s.1,e.1 < n
 at_:∀e∈s.1,∃k,sk[e.1]?=some (k,e.2.1,e.2.2)
 rl:s.2.length<=n
 r:∀c∈s.2,c.1 < n/\∃k u v st pts,sk[c.1]?=some (k,u,v)/\c.2=(c.1,1) :: st/\(∀t∈st,t.1 < c.1/\t.1∈s.1.map (·.1))/\wG s.1 v u st pts/\st.length < m
theorem wG.mono {st:List Stp}(h:wG es b e st pts)(hs:∀x∈es,x∈es'):wG es' b e st pts:=
 { h with g:=fun i s hi=>let ⟨p,q,h1,h2,u,v,h3,h4⟩:=h.g i s hi;⟨p,q,h1,h2,u,v,hs _ h3,h4⟩ }
theorem Pn {st:List Stp}(h:wG es b e st pts):∀t∈st,t.1∈es.map (·.1):=fun t ht=>by
 obtain⟨i,hi⟩:=getElem?_of_mem ht;obtain⟨p,q,_,_,u,v,h3,_⟩:=h.g i t hi;exact mem_map.mpr ⟨_,h3,rfl⟩
theorem qQ (hm:∀d∈sk,d.2.1 < m/\d.2.2 < m):∀n,n<=sk.length->RI W sk m n (eU W sk n)
 |0,_=>⟨⟨fun e h=>(by cases h)⟩,(by show ([]:List Nat).Nodup;simp),fun e h=>(by cases h),fun e h=>(by cases h),Nat.le_refl _,fun c h=>(by cases h)⟩
 |n+1,hn=>by
  have ih:=qQ (W:=W) hm n (by lia);have hd:sk[n]?=some sk[n]:=getElem?_eq_getElem (by assumption);rw[jJ hd];have pm:=hm _ (mem_of_getElem? hd);generalize sk[n]=d at hd pm;generalize eU W sk n=s at ih;unfold jD
  by_cases hw:W d.1=true
  ·rw[if_pos hw]
   cases hy:vJ s.1 d.2.2 d.2.1 with
   |none=>
    show RI W sk m (n+1) (s.1++[(n,d.2.1,d.2.2)],s.2);refine⟨⟨fun e he=>?_⟩,?_,fun e he=>?_,fun e he=>?_,by have:=ih.rl;show s.2.length<=n+1;lia,fun c hc=>?_⟩
    ·rcases mem_append.mp he with z | z
     ·exact ih.pt.p e z
     ·have:e=(n,d.2.1,d.2.2):=by simpa using z
      rw[this];exact pm
    ·show ((s.1++[(n,d.2.1,d.2.2)]).map (·.1)).Nodup;rw[map_append,nodup_append];refine⟨ih.nd,by simp,fun x hx y hy z=>?_⟩;have:y=n:=by simpa using hy
     obtain⟨e,he,ee⟩:=mem_map.mp hx;have:=ih.lt e he;lia
    ·rcases mem_append.mp he with z | z
     ·have:=ih.lt e z;lia
     ·have:e=(n,d.2.1,d.2.2):=by simpa using z
      rw[this];exact Nat.lt_succ_self n
    ·rcases mem_append.mp he with z | z
     ·exact ih.at_ e z
     ·have:e=(n,d.2.1,d.2.2):=by simpa using z
      rw[this];exact⟨d.1,hd⟩
    ·obtain⟨h1,k,u,v,st,pts,h2,h3,h4,h5,h6⟩:=ih.r c hc;refine⟨by lia,k,u,v,st,pts,h2,h3,fun t ht=>⟨(h4 t ht).1,?_⟩,h5.mono fun x hx=>mem_append_left _ hx,h6⟩;show t.1∈(s.1++[(n,d.2.1,d.2.2)]).map (·.1);rw[map_append];exact mem_append_left _ (h4 t ht).2
   |some st=>
    show RI W sk m (n+1) (s.1,s.2++[(n,(n,1) :: st)]);refine⟨ih.pt,ih.nd,fun e he=>Nat.lt_succ_of_lt (ih.lt e he),ih.at_,by have:=ih.rl;show (s.2++[(n,(n,1) :: st)]).length<=n+1;rw[List.length_append];simp only[length_cons,length_nil];lia,fun c hc=>?_⟩;rcases mem_append.mp hc with z | z
    ·obtain⟨h1,r⟩:=ih.r c z;exact⟨by lia,r⟩
    ·have:c=(n,(n,1) :: st):=by simpa using z
     subst this;obtain⟨pts,ch⟩:=Lf ih.nd hy;refine⟨Nat.lt_succ_self n,d.1,d.2.1,d.2.2,st,pts,hd,rfl,fun t ht=>?_,ch,zI ih.pt pm.2 hy⟩;have ti:=Pn ch t ht;obtain⟨e,he,ee⟩:=mem_map.mp ti;have:=ih.lt e he;exact⟨by show t.1 < n;lia,ti⟩
  ·rw[if_neg hw];exact⟨ih.pt,ih.nd,fun e he=>Nat.lt_succ_of_lt (ih.lt e he),ih.at_,by have:=ih.rl;lia,fun c hc=>let ⟨h1,r⟩:=ih.r c hc;⟨by lia,r⟩⟩
theorem SqT.updD {K:Frag}(h:SqT K H a xs)(hl:H l=some (.dK kvs)):SqT K (L2.upd H l o) a xs:=by
 rcases h with (h | ⟨u,h⟩) | h
 ·exact .inl (.inl (by rw[aL (gL h hl (fun z=>by cases z))];exact h))
 ·exact .inl (.inr ⟨u,by rw[aL (gL h hl (fun z=>by cases z))];exact h⟩)
 ·exact .inr h
inductive Sts (K:Frag) (H:Hp):List V->List Stp->Prop where
 |nil:Sts K H [] []
 |cons {t:Addr} {n:Nat} {w:Int} {xs:List V} {st:List Stp} (h:SqT K H t [.int (n:Int),.int w]) (q:Sts K H xs st):Sts K H (.ref t :: xs) ((n,w) :: st)
section
variable {K:Frag} {H H':Hp}
theorem Sts.same (e:aW H H'):∀{xs:List V} {st:List Stp},Sts K H xs st->Sts K H' xs st
 |_,_,.nil=>.nil
 |_,_,.cons h q=>.cons (e.seqT h) (Sts.same e q)
theorem Sts.length:∀{xs:List V} {st:List Stp},Sts K H xs st->xs.length=st.length
 |_,_,.nil=>rfl
 |_,_,.cons _ q=>by simp[Sts.length q]
theorem Sts.app:∀{xs ys:List V} {st su:List Stp},Sts K H xs st->Sts K H ys su->Sts K H (xs++ys) (st++su)
 |_,_,_,_,.nil,r=>r
 |_,_,_,_,.cons h q,r=>.cons h (Sts.app q r)
theorem Sts.get:∀{xs:List V} {st:List Stp} {i:Nat} {x:V},Sts K H xs st->xs[i]?=some x->∃t s,x=.ref t/\st[i]?=some s/\SqT K H t [.int (s.1:Int),.int s.2]
 |_,_,_,_,.nil,h=>by simp at h
 |_,_,0,_,.cons h _,e=>by simp at e;subst e;exact⟨_,_,rfl,rfl,h⟩
 |_,_,i+1,_,.cons _ q,e=>by simpa using Sts.get q (by simpa using e)
theorem Sts.upd (hl:H l=some (.lst ys)):∀{xs:List V} {st:List Stp},Sts K H xs st->Sts K (L2.upd H l o) xs st
 |_,_,.nil=>.nil
 |_,_,.cons h q=>.cons (SqT.upd h hl) (Sts.upd hl q)
theorem Sts.updD (hl:H l=some (.dK kvs)):∀{xs:List V} {st:List Stp},Sts K H xs st->Sts K (L2.upd H l o) xs st
 |_,_,.nil=>.nil
 |_,_,.cons h q=>.cons (SqT.updD h hl) (Sts.updD hl q)
end
inductive Sds (K:Frag) (H:Hp):List V->List (Stp × Nat)->Prop where
 |nil:Sds K H [] []
 |cons {t s:Addr} {n x:Nat} {w:Int} {xs:List V} {st:List (Stp × Nat)} (h:SqT K H t [.ref s,.int (x:Int)]) (g:SqT K H s [.int (n:Int),.int w]) (q:Sds K H xs st):Sds K H (.ref t :: xs) (((n,w),x) :: st)
section
variable {K:Frag} {H H':Hp}
theorem Sds.same (e:aW H H'):∀{xs:List V} {st:List (Stp × Nat)},Sds K H xs st->Sds K H' xs st
 |_,_,.nil=>.nil
 |_,_,.cons h g q=>.cons (e.seqT h) (e.seqT g) (Sds.same e q)
theorem Sds.length:∀{xs:List V} {st:List (Stp × Nat)},Sds K H xs st->xs.length=st.length
 |_,_,.nil=>rfl
 |_,_,.cons _ _ q=>by simp[Sds.length q]
theorem Sds.app:∀{xs ys:List V} {st su:List (Stp × Nat)},Sds K H xs st->Sds K H ys su->Sds K H (xs++ys) (st++su)
 |_,_,_,_,.nil,r=>r
 |_,_,_,_,.cons h g q,r=>.cons h g (Sds.app q r)
theorem Sds.get:∀{xs:List V} {st:List (Stp × Nat)} {i:Nat} {x:V},Sds K H xs st->xs[i]?=some x->∃t u s,x=.ref t/\st[i]?=some s/\SqT K H t [.ref u,.int (s.2:Int)]/\SqT K H u [.int (s.1.1:Int),.int s.1.2]
 |_,_,_,_,.nil,h=>by simp at h
 |_,_,0,_,.cons h g _,e=>by simp at e;subst e;exact⟨_,_,_,rfl,rfl,h,g⟩
 |_,_,i+1,_,.cons _ _ q,e=>by simpa using Sds.get q (by simpa using e)
theorem Sds.upd (hl:H l=some (.lst ys)):∀{xs:List V} {st:List (Stp × Nat)},Sds K H xs st->Sds K (L2.upd H l o) xs st
 |_,_,.nil=>.nil
 |_,_,.cons h g q=>.cons (SqT.upd h hl) (SqT.upd g hl) (Sds.upd hl q)
theorem Sds.updD (hl:H l=some (.dK kvs)):∀{xs:List V} {st:List (Stp × Nat)},Sds K H xs st->Sds K (L2.upd H l o) xs st
 |_,_,.nil=>.nil
 |_,_,.cons h g q=>.cons (SqT.updD h hl) (SqT.updD g hl) (Sds.updD hl q)
end
inductive Wys (K:Frag) (H0:Hp) (W:Addr) (H:Hp):List (Key × V)->WS->Prop where
 |nil:Wys K H0 W H [] []
 |cons {a:Addr} {x:Nat} {xs:List V} {st:List Stp} {kvs:List (Key × V)} {w:WS} (n:H0 a=none) (nw:a≠W) (h:H a=some (.lst xs)) (f:Sts K H xs st) (q:Wys K H0 W H kvs w):Wys K H0 W H ((Sum.inl (x:Int),.ref a) :: kvs) ((x,st) :: w)
section
variable {K:Frag} {H0 H H':Hp} {W:Addr}
theorem Wys.same (e:aW H H'):∀{kvs:List (Key × V)} {w:WS},Wys K H0 W H kvs w->Wys K H0 W H' kvs w
 |_,_,.nil=>.nil
 |_,_,.cons n nw h f q=>.cons n nw (e _ _ h) (f.same e) (Wys.same e q)
theorem Wys.updW (hl:H W=some (.lst ys)):∀{kvs:List (Key × V)} {w:WS},Wys K H0 W H kvs w->Wys K H0 W (L2.upd H W o) kvs w
 |_,_,.nil=>.nil
 |_,_,.cons n nw h f q=>.cons n nw (by rw[aL nw];exact h) (f.upd hl) (Wys.updW hl q)
theorem Wys.updD (hl:H D=some (.dK kv)):∀{kvs:List (Key × V)} {w:WS},Wys K H0 W H kvs w->Wys K H0 W (L2.upd H D o) kvs w
 |_,_,.nil=>.nil
 |_,_,.cons n nw h f q=>.cons n nw (by rw[aL (gL h hl (fun z=>by cases z))];exact h) (f.updD hl) (Wys.updD hl q)
theorem Wys.length:∀{kvs:List (Key × V)} {w:WS},Wys K H0 W H kvs w->kvs.length=w.length
 |_,_,.nil=>rfl
 |_,_,.cons _ _ _ _ q=>by simp[Wys.length q]
theorem Wys.snoc {x:Nat}{st:List Stp}(n:H0 a=none)(nw:a≠W)(h:H a=some (.lst xs))(f:Sts K H xs st):∀{kvs:List (Key × V)} {w:WS},Wys K H0 W H kvs w->Wys K H0 W H (kvs++[(Sum.inl (x:Int),.ref a)]) (w++[(x,st)])
 |_,_,.nil=>.cons n nw h f .nil
 |_,_,.cons n' nw' h' f' q=>.cons n' nw' h' f' (Wys.snoc n nw h f q)
theorem Wys.none_:∀{kvs:List (Key × V)} {w:WS},Wys K H0 W H kvs w->p∉cB w->iM kvs (Sum.inl (p:Int))=none/\(kvs.any fun kv=>decide (kv.1=Sum.inl (p:Int)))=false
 |_,_,.nil,_=>⟨rfl,rfl⟩
 |_,_,.cons (x:=x) (kvs:=kvs) (w:=w) n nw h f q,hp=>by
  have hx:x≠p:=fun z=>hp (by rw[<- z];exact mem_cons_self ..);obtain⟨h1,h2⟩:=Wys.none_ q fun z=>hp (mem_cons_of_mem _ z);refine⟨by rw[eY (fun z=>hx (Int.ofNat.inj (Sum.inl.inj z)))];exact h1,?_⟩;rw[any_cons,h2];have e:decide ((Sum.inl (x:Int):Key)=Sum.inl (p:Int))=false:=decide_eq_false fun z=>hx (Int.ofNat.inj (Sum.inl.inj z));show (decide ((Sum.inl (x:Int):Key)=Sum.inl (p:Int)) || false)=false;rw[e];rfl
theorem Wys.some_:∀{kvs:List (Key × V)} {w:WS},Wys K H0 W H kvs w->p∈cB w->∃a xs st,iM kvs (Sum.inl (p:Int))=some (.ref a)/\rK w p=some st/\H0 a=none/\a≠W/\H a=some (.lst xs)/\Sts K H xs st
 |_,_,.nil,h=>by cases h
 |_,_,.cons (a:=a) (x:=x) (xs:=xs) (st:=st) (kvs:=kvs) (w:=w) n nw h f q,hp=>by
  by_cases c:x=p
  ·subst c;exact⟨a,xs,st,by rw[fQ rfl],by unfold rK;rw[if_pos rfl],n,nw,h,f⟩
  ·have hp':p∈cB w:=by
    rcases mem_cons.mp hp with z | z
    ·exact absurd z.symm c
    ·exact z
   obtain⟨a',xs',st',h1,h2,r⟩:=Wys.some_ q hp';exact⟨a',xs',st',by rw[eY (fun z=>c (Int.ofNat.inj (Sum.inl.inj z)))];exact h1,by unfold rK;rw[if_neg c];exact h2,r⟩
theorem Wys.isSome {p:Nat}(h:Wys K H0 W H kvs w):(iM kvs (Sum.inl (p:Int))).isSome=decide (p∈cB w):=by
 by_cases c:p∈cB w
 ·obtain⟨a,xs,st,e,_⟩:=h.some_ c;rw[e,decide_eq_true c];rfl
 ·rw[(h.none_ c).1,decide_eq_false c];rfl
end
structure Rgs (K:Frag) (H0 H:Hp) (us:List V) (X:List (List Stp)):Prop where
 l:us.length=X.length
 r:∀(i:Nat) (x:V) (st:List Stp),us[i]?=some x->X[i]?=some st->∃(a:Addr) (xs:List V),x=.ref a/\H0 a=none/\H a=some (.lst xs)/\Sts K H xs st
theorem Rgs.nil {K:Frag}:Rgs K H0 H [] []:=⟨rfl,fun i x st h=>by simp at h⟩
theorem Rgs.same {K:Frag}(e:aW H H')(f:Rgs K H0 H us X):Rgs K H0 H' us X:=⟨f.l,fun i x st h1 h2=>let ⟨a,xs,e1,n,h,s⟩:=f.r i x st h1 h2;⟨a,xs,e1,n,e _ _ h,s.same e⟩⟩
theorem Rgs.snoc {K:Frag}{st:List Stp}(f:Rgs K H0 H us X)(n:H0 a=none)(h:H a=some (.lst xs))(s:Sts K H xs st):Rgs K H0 H (us++[.ref a]) (X++[st]):=by
 refine⟨by rw[List.length_append,List.length_append,f.l];rfl,fun i x qs h1 h2=>?_⟩;have l:=f.l
 by_cases c:i < us.length
 ·rw[getElem?_append_left c] at h1;rw[getElem?_append_left (by lia)] at h2;exact f.r i x qs h1 h2
 ·have hi:i=us.length:=by
   have:=(List.getElem?_eq_some_iff.mp h1).1;rw[List.length_append] at this;simp only[length_cons,length_nil] at this;lia
  subst hi;rw[getElem?_append_right (Nat.le_refl _),Nat.sub_self] at h1;rw[getElem?_append_right (by lia),show us.length - X.length=0 by lia] at h2
  cases h1
  cases h2
  exact⟨a,xs,rfl,n,h,s⟩
theorem Rgs.updO {K:Frag}{l:Addr}(f:Rgs K H0 H us X)(hl:H l=some (.lst ys))(n:∀x∈us,x≠.ref l):Rgs K H0 (upd H l o) us X:=⟨f.l,fun i x st h1 h2=>let ⟨a,xs,e1,n1,h,s⟩:=f.r i x st h1 h2;⟨a,xs,e1,n1,by rw[aL (fun z=>n x (mem_of_getElem? h1) (by rw[e1,z]))];exact h,s.upd hl⟩⟩
def qd7 (ds:List RD)(es:List Br):Prop:=∀e∈es,∃d,ds[e.1]?=some d/\d.2.1=(e.2.1:Int)/\d.2.2.1=(e.2.2:Int)
def Jf (K:Frag)(CK:Kd->Addr):Sp:=fun vs H Q _=>∃(a b:Addr) (xs:List V) (ds:List RD) (es:List Br) (p:Nat),vs=[.ref a,.ref b,.int (p:Int)]/\SqL K H a xs/\iA CK K H xs ds/\SqL K H b (es.map fun e=>V.int (e.1:Int))/\qd7 ds es/\es.length<=100/\∀l ys H',aW H H'->H l=none->H' l=some (.lst ys)->Sds K H' ys (stF es p)->Q (.ref l) H'
def Yd (K:Frag)(CK:Kd->Addr):Sp:=fun vs H Q _=>∃(a b:Addr) (xs:List V) (ds:List RD) (es:List Br) (m f t:Nat),vs=[.ref a,.ref b,.int (f:Int),.int (t:Int)]/\SqL K H a xs/\iA CK K H xs ds/\SqL K H b (es.map fun e=>V.int (e.1:Int))/\qd7 ds es/\es.length<=100/\Ptm m es/\m<=20/\f < m/\
 (vJ es f t=none->∀H',aW H H'->Q .non H')/\∀st,vJ es f t=some st->∀l ys H',aW H H'->H l=none->H' l=some (.lst ys)->Sts K H' ys st->Q (.ref l) H'
inductive Wds (K:Frag) (H:Hp):V->(Kd->Bool)->Prop where
 |non:Wds K H .non (fun k=>decide (k≠.pu))
 |seq {a:Addr} {ws:List V} (h:SqL K H a ws) (f:ws.all mC=true):Wds K H (.ref a) (fun k=>inV (.str k.wd) ws)
def Ke (CN:Addr)(K:Frag):Sp:=fun vs H Q _=>∃(n l:Addr) (v:V) (m:Nat) (ds:List RD) (W:Kd->Bool),vs=[.ref n,v]/\dE CN K H n l (m:Int) ds/\(∀d∈ds,cX (m:Int) d.2.1 d.2.2.1)/\m<=20/\ds.length<=40/\Wds K H v W/\∀r us H',aW H H'->H r=none->H' r=some (.lst us)->Rgs K H H' us ((eU W (skl ds) ds.length).2.map (·.2))->(∀x∈us,x≠.ref r)->Q (.ref r) H'
end L2
namespace Mq
def KJ (m:Nat)(A1:Mat)(R:List (List Int)):Prop:=∀Φ,Lin Φ->(∀i,i < m->Φ (A1 i)=0)->∀k,k < m->Φ (at2 R k)=0
theorem KJ.swap (h:KJ m A1 R)(hl:R.length=m)(hp:p < m)(hr:r < m):KJ m A1 (fY R p r):=fun Φ lin hz k hk=>by
 have e:at2 (fY R p r) k=at2 R (sw p r k):=by
  funext x
  rw[rA (by lia) (by lia)]
 rw[e];exact h Φ lin hz _ (Bo hp hr hk)
theorem KJ.clear (h:KJ m A1 R)(s:SI m w A0 R r col d sg)(hr:r < m)(hc:col < w)(he:ent R r col≠0):KJ m A1 (cG R r col d):=fun Φ lin hz k hk=>by
 have cl:=fun (x:Nat)=>uE s hr hc he hk x;have z:=h Φ lin hz
 by_cases e:k=r
 ·have e2:at2 (cG R r col d) k=at2 R k:=by funext x;rw[cl x,if_pos e]
  rw[e2];exact z k hk
 ·have e2:at2 (cG R r col d) k=fun x=>(fun x=>(at2 R r col / (d:Rat))*at2 R k x) x+(-(at2 R k col / (d:Rat)))*at2 R r x:=by
   funext x
   show _=(at2 R r col / (d:Rat))*at2 R k x+_;rw[cl x,if_neg e];grind
  rw[e2,lin,lin.mul,z k hk,z r hr];grind
theorem KJ.whole (h:KJ m A1 R)(s:SI m w A0 R m m d sg){v:Nat->Rat}(hv:∀i,i < m->(rs m fun k=>A1 i k*v k)=A1 i m)(hk:k < m):at2 R k m / (d:Rat)=v k:=by
 obtain⟨A,c,B,e⟩:=s.bar;have dn:=B.dne;have:=h (fun f=>(rs m fun k=>f k*v k) - f m) (fun x y l=>by
  have:(rs m fun k=>(x k+l*y k)*v k)=(rs m fun k=>x k*v k+l*(y k*v k)):=aT fun k _=>by grind
  show (rs m fun k=>(x k+l*y k)*v k) - (x m+l*y m)=((rs m fun k=>x k*v k) - x m)+l*((rs m fun k=>y k*v k) - y m)
  rw[this,fI,fV];grind) (fun i hi=>by
  show (rs m fun k=>A1 i k*v k) - A1 i m=0;rw[hv i hi];grind) k hk
 have e1:(rs m fun j=>at2 R k j*v j)=rs m fun j=>if j=k then (d:Rat)*v k else 0:=aT fun j hj=>by
  have i2:=B.i2 k j hk hj;rw[B.full rfl j hj] at i2;rw[i2]
  by_cases z:j=k
  ·rw[if_pos z,if_pos z,z]
  ·rw[if_neg z,if_neg z];grind
 have e2:(rs m fun j=>at2 R k j*v j) - at2 R k m=0:=this;rw[e1,lU m k _ hk] at e2;grind
end Mq
namespace Shp
open PySem L2
theorem Sa:Stp m w A0 (fun R=>Mq.KI m A1 R/\Mq.KJ m A1 R):=
 ⟨fun R r col d sg p s h1 h2 h=>⟨h.1.swap s.len h2 (by lia),h.2.swap s.len h2 (by lia)⟩,fun R r col d sg s h1 h2 h3 h=>⟨h.1.clear s h1 h2 h3,h.2.clear s h1 h2 h3⟩⟩
theorem Zk (hX:gF X)(hq:Mq.Pos qs)(hl:qs.length=X.length)(hw:∀row∈X,row.length=X.length)(h:Mq.KJ X.length (Mq.at2 (iP X qs)) R)(s:SI X.length w (Mq.at2 (iP X qs)) R X.length X.length d sg){v:Nat->Rat}(hv:∀i,i < X.length->(Mq.rs X.length fun j=>rG X i j*v j)=Mq.val (qs.getD i Mq.z0))(hk:k < X.length):Mq.at2 R k X.length / (d:Rat)=v k:=by
 refine h.whole s (fun i hi=>?_) hk;rw[uY hX hq hl hw hi (by lia),if_neg (by lia),<- hv i hi,<- fV];refine aT fun k hk=>?_;rw[uY hX hq hl hw hi (by lia),if_pos hk];grind
structure qg2 (X:List (List Q2)) (qs ps:List Q2):Prop extends Slv X qs ps where
 uni:∀v:Nat->Rat,(∀i,i < X.length->(Mq.rs X.length fun j=>rG X i j*v j)=Mq.val (qs.getD i Mq.z0))->∀j,j < X.length->Mq.val (ps.getD j Mq.z0)=v j
end Shp
namespace Mq
theorem Wb.rs5 (hK:K<=32)(h:∀k,k < K->Wb n (f k)):Wb (n+5) (Mq.rs K f):=by
 obtain⟨z,e,b⟩:=Xw K h;refine⟨z,e,?_⟩;have p:2 ^ (n+5)=32*2 ^ n:=by rw[Nat.pow_add];lia
 have q:K*2 ^ n<=32*2 ^ n:=Nat.mul_le_mul_right _ hK;have r:0 < 2 ^ n:=Nat.two_pow_pos n;show z.natAbs < 2 ^ (n+5)
 by_cases k0:K=0
 ·subst k0;lia
 ·lia
theorem Bx:∀(r:Nat) (M:Mat),r<=32->(∀i j,i < r->Wb n (M i j))->Wb ((n+5)*r+1) (det r M)
 |0,_,_,_=>Wb.one
 |r+1,M,hr,h=>by
  rw[gG];have:=Wb.rs5 (n:=n+((n+5)*r+1)) (K:=r+1) (f:=fun j=>sgn (r+j)*M r j*det r fun i k=>M i (skip j k)) hr fun j _=>((h r j (by lia)).sgn _).mul (Bx r _ (by lia) fun i k hi=>h i _ (by lia));exact this.mono (by rw[Nat.mul_succ];lia)
section
variable {m:Nat} {A E:Mat} {r col:Nat} {d:Rat} {c:Nat->Nat} {n:Nat}
theorem Bar.wd5 (h:Bar m A E r col d c)(hA:∀i x,i < m->Wb n (A i x))(hm:m<=31):Wb ((n+5)*r+1) d:=by
 have rm:=h.rm;rw[<- h.i5];exact Bx r _ (by lia) fun i j hi=>hA i _ (by lia)
theorem Bar.wtop5 (h:Bar m A E r col d c)(hA:∀i x,i < m->Wb n (A i x))(hm:m<=31)(hk:k < r)(x:Nat):Wb ((n+5)*r+7) (E k x):=by
 have rm:=h.rm;have hd:=h.dne
 by_cases hx:∃j,j < r/\x=c j
 ·obtain⟨j,hj,rfl⟩:=hx;rw[h.i2 k j hk hj];split
  ·exact(h.wd5 hA hm).mono (by lia)
  ·exact Wb.zero _
 ·let c2:Nat->Nat:=fun j=>if j=r then x else c j
  let u:Nat->Rat:=fun j=>if j=c k then 1 else 0
  have hΦ:=Ih r A c2;have z:=h.i6 _ hΦ (fun s hs=>Jj r A c2 hs) k hk;have eu:u=fun y=>(fun y=>u y+(-(1 / d))*E k y) y+(1 / d)*E k y:=by
   funext y
   show u y=u y+(-(1 / d))*E k y+(1 / d)*E k y;grind
  have fb:=Aj r A c2 (fun y=>u y+(-(1 / d))*E k y) fun j hj=>by
   have ec:c2 j=c j:=by show (if j=r then x else c j)=_;rw[if_neg (by lia)]
   rw[ec];show u (c j)+(-(1 / d))*E k (c j)=0;rw[h.i2 k j hk hj];show (if c j=c k then (1:Rat) else 0)+_=0
   by_cases e:j=k
   ·rw[if_pos e,if_pos (by rw[e])];grind
   ·rw[if_neg e,if_neg (fun q=>e (h.cinj j k hj hk q))];grind
  have dd:(det r fun i j=>A i (c2 j))=d:=by
   rw[<- h.i5];exact cL fun i j _ hj=>by show A i (if j=r then x else c j)=_;rw[if_neg (by lia)]
  have ux:u x=0:=by show (if x=c k then (1:Rat) else 0)=0;rw[if_neg (fun q=>hx ⟨k,hk,q⟩)]
  have cx:c2 r=x:=by show (if r=r then x else _)=x;rw[if_pos rfl]
  rw[dd,cx] at fb;have val:F r A c2 u=- E k x:=by
   rw[eu,hΦ,z,fb];show (u x+(-(1 / d))*E k x)*d+_=_;rw[ux];grind
  have wh:Wb ((n+5)*r+7) (F r A c2 u):=by
   rw[Kx];have:=Wb.rs5 (n:=1+((n+5)*r+1)) (K:=r+1) (f:=fun j=>Mq.sgn (r+j)*u (c2 j)*det r fun i k=>A i (c2 (Mq.skip j k))) (by lia) fun j _=>by
    refine Wb.mul (Wb.sgn ?_ _) (Bx r _ (by lia) fun i k hi=>hA i _ (by lia));show Wb 1 (if c2 j=c k then (1:Rat) else 0);split
    ·exact Wb.one
    ·exact Wb.zero _
   exact this.mono (by lia)
  rw[val] at wh;have:=wh.neg
  rwa [show - - E k x=E k x by grind] at this
theorem Bar.wall5 (h:Bar m A E r col d c)(hA:∀i x,i < m->Wb n (A i x))(hm:m<=31)(hi:i < m)(x:Nat):Wb ((n+5)*(m+1)+8) (E i x):=by
 have rm:=h.rm;have mono:=Nat.mul_le_mul_left (n+5) rm;have e1:(n+5)*(m+1)=(n+5)*m+(n+5):=Nat.mul_succ ..
 by_cases h1:i < r
 ·exact(h.wtop5 hA hm h1 x).mono (by lia)
 ·have q:=h.i4 i x hi;rw[if_neg h1] at q;have e:E i x=d*A i x - rs r fun k=>A i (c k)*E k x:=by grind
  rw[e];have b1:Wb (n+((n+5)*r+7)+5) (d*A i x):=((h.wd5 hA hm).mul (hA i x hi)).mono (by lia);have b2:Wb (n+((n+5)*r+7)+5) (rs r fun k=>A i (c k)*E k x):=Wb.rs5 (by lia) fun k hk=>(hA i _ hi).mul (h.wtop5 hA hm hk x);exact(b1.sub b2).mono (by lia)
end
theorem SB.bd5 (h:SB n m R r col d)(s:SI m w A0 R r col d sg)(hm:m<=31):BdR ((n+5)*(m+1)+8) R/\B ((n+5)*(m+1)+8) d:=by
 obtain⟨A,c,B,q⟩:=h;refine⟨fun i x=>?_,?_⟩
 ·by_cases hi:i < m
  ·obtain⟨z,e,b⟩:=B.wall5 q hm hi x;have:ent R i x=z:=Rat.intCast_inj.mp e;rw[this];exact b
  ·unfold ent;rw[getD_eq_getElem?_getD (l:=R),getElem?_eq_none (by rw[s.len];lia)];exact Nat.two_pow_pos _
 ·obtain⟨z,e,b⟩:=B.wd5 q hm;have:d=z:=Rat.intCast_inj.mp e;have mono:=Nat.mul_le_mul_left (n+5) B.rm;rw[this];exact b.mono (by rw[Nat.mul_succ];lia)
theorem Oy (ha:1<=a)(hb:1<=b)(h1:a ∣ L)(h2:b ∣ L):oU a b ∣ L:=by
 have g1:gc a b ∣ a:=Int.gcd_dvd_left ..;have g0:gc a b≠0:=by have:=vH (a:=a) (b:=b) (by lia);lia
 obtain⟨x,hx⟩:=g1;have e:oU a b=x*b:=by
  unfold oU;rw[gD g0 hx]
 have k:(Int.lcm a b:Int) ∣ L:=Int.coe_lcm_dvd h1 h2;have m:(Int.gcd a b:Int)*(Int.lcm a b:Int)=a*b:=by
  have:=Int.gcd_mul_lcm a b;have h:((Int.gcd a b*Int.lcm a b:Nat):Int)=((a*b).natAbs:Nat):=by rw[this,Int.natAbs_mul]
  rw[Int.natCast_mul] at h;rw[h,Int.natAbs_of_nonneg (Int.mul_nonneg (by lia) (by lia))]
 have e2:(Int.lcm a b:Int)=x*b:=by
  have hg:(Int.gcd a b:Int)=gc a b:=rfl;rw[hg] at m;have:gc a b*(Int.lcm a b:Int)=gc a b*(x*b):=by
   rw[m,<- Int.mul_assoc,<- hx]
  exact Int.eq_of_mul_eq_mul_left g0 this
 rw[e,<- e2];exact k
theorem xW:∀{ps:List Q2},Pos ps->(∀p∈ps,p.2 ∣ L)->∀i,i<=ps.length->dX (ps.take i) ∣ L/\1<=dX (ps.take i)
 |ps,hp,h,0,_=>⟨Int.one_dvd _,by rw[take_zero];decide⟩
 |ps,hp,h,i+1,hi=>by
  obtain⟨a,b⟩:=xW hp h i (by lia);have hm:ps[i]?=some ps[i]:=getElem?_eq_getElem (by assumption);have mem:=mem_of_getElem? hm;rw[nH hm];refine⟨Oy b (hp _ mem) a (h _ mem),?_⟩;have:=tQ (ps:=ps.take (i+1)) (fun p hp'=>hp p (mem_of_mem_take hp'))
  rwa [nH hm] at this
end Mq
namespace Shp
open PySem L2
abbrev bw (n m:Nat):Nat:=(n+5)*(m+1)+8
def Ki (K:Frag):Sp:=fun vs H Q _=>∃(l D:Addr) (zs:List V) (R:List (List Int)) (m w n:Nat) (Pr:List (List Int)->Prop),vs=[.ref l,.int (m:Int)]/\SqL K H l zs/\Imx D H zs R/\R.length=m/\(∀i,i < m->(R.getD i []).length=w)/\m<=w/\w<=100/\BdR n R/\1<=n/\bw n m<=9000/\m<=31/\Pr R/\Stp m w (Mq.at2 R) Pr/\
 ∀d l' zs' R' rank pivot sign H',aW H H'->H d=none->H l'=none->H' d=some (Re l' rank pivot sign)->H' l'=some (.lst zs')->Imx l' H' zs' R'->SI m w (Mq.at2 R) R' rank m pivot sign->BdR (bw n m) R'->Mq.B (bw n m) pivot->Pr R'->Q (.ref d) H'
end Shp
namespace L2
open PySem PySem.Spec PyProof.Rows
section
variable (u:Nat->Rat)
def fw (d:RD)(h:Nat):Rat:=match d.1 with
 | .pc=>(u d.2.1.toNat - u d.2.2.1.toNat)*(1 / Mq.val d.2.2.2)
 | .pu=>0
 | .ho=>u h
def nt:Nat->List RD->Nat->Rat
 |_,[],_=>0
 |h,d :: ds,p=>fw u d h*dl d.2.1.toNat d.2.2.1.toNat p+nt (h+cN d.1) ds p
def hw:Nat->List RD->Nat->Rat
 |_,[],_=>0
 |h,d :: ds,y=>(if d.1=.ho/\h=y then u d.2.1.toNat - u d.2.2.1.toNat else 0)+hw (h+cN d.1) ds y
def eg:Nat->List RD->Rat
 |_,[]=>0
 |h,d :: ds=>fw u d h*(u d.2.1.toNat - u d.2.2.1.toNat)+eg (h+cN d.1) ds
end
section
variable {u:Nat->Rat} {m N:Nat}
theorem Io (F:Nat->Rat)(hs:s < n)(hg:g < n):Mq.rs n (fun p=>F p*dl s g p)=F s - F g:=by
 have e:∀p,F p*dl s g p=(if s=p then F p else 0) + - (if g=p then F p else 0):=fun p=>by
  unfold dl
  by_cases a:s=p<;>by_cases b:g=p<;>simp only[a,b,if_true,if_false]<;>grind
 rw[aT fun p _=>e p,fI,Mq.rX,Fu,Fu,if_pos hs,if_pos hg];grind
theorem qc1 (u0:u 0=0)(hs:s<=n)(hg:g<=n):Mq.rs n (fun i=>u (i+1)*dl s g (i+1))=u s - u g:=by
 have:=Io u (n:=n+1) (s:=s) (g:=g) (by lia) (by lia);rw[wX,u0] at this;grind
theorem qh3 (u0:u 0=0)(pt:cX (m:Int) d.2.1 d.2.2.1)(hm:m<=N+1)(h1:1<=h)(hh:d.1=.ho->h<=N):Mq.rs N (fun i=>u (i+1)*cM d h (i+1) y)=fw u d h*dl d.2.1.toNat d.2.2.1.toNat y+(if d.1=.ho/\h=y then u d.2.1.toNat - u d.2.2.1.toNat else 0):=by
 obtain⟨a,b,c,e⟩:=pt;have base:=qc1 (u:=u) (n:=N) (s:=d.2.1.toNat) (g:=d.2.2.1.toNat) u0 (by lia) (by lia);unfold cM fw
 cases hk:d.1 with
 |pc=>
  dsimp only;rw[if_neg (fun z=>by cases z.1)];have:∀i,u (i+1)*(dl d.2.1.toNat d.2.2.1.toNat (i+1)*dl d.2.1.toNat d.2.2.1.toNat y*(1 / Mq.val d.2.2.2))=(dl d.2.1.toNat d.2.2.1.toNat y*(1 / Mq.val d.2.2.2))*(u (i+1)*dl d.2.1.toNat d.2.2.1.toNat (i+1)):=fun i=>by grind
  rw[aT fun i _=>this i,fV,base];grind
 |pu=>
  dsimp only;rw[if_neg (fun z=>by cases z.1)];have:∀i,u (i+1)*(0:Rat)=0:=fun i=>by grind
  rw[aT fun i _=>this i,eE];grind
 |ho=>
  dsimp only;have hN:=hh hk;have one:Mq.rs N (fun i=>u (i+1)*(if h=i+1 then 1 else 0))=u h:=by
   have:∀i,u (i+1)*(if h=i+1 then (1:Rat) else 0)=if h - 1=i then u (i+1) else 0:=fun i=>by
    by_cases z:h=i+1
    ·rw[if_pos z,if_pos (by lia)];grind
    ·rw[if_neg z,if_neg (by lia)];grind
   rw[aT fun i _=>this i,Fu,if_pos (by lia),show h - 1+1=h by lia]
  have:∀i,u (i+1)*(dl d.2.1.toNat d.2.2.1.toNat (i+1)*(if h=y then 1 else 0)+(if h=i+1 then 1 else 0)*dl d.2.1.toNat d.2.2.1.toNat y)=(if h=y then 1 else 0)*(u (i+1)*dl d.2.1.toNat d.2.2.1.toNat (i+1))+dl d.2.1.toNat d.2.2.1.toNat y*(u (i+1)*(if h=i+1 then 1 else 0)):=fun i=>by grind
  rw[aT fun i _=>this i,fI,fV,fV,base,one]
  by_cases z:h=y
  ·rw[if_pos z,if_pos ⟨rfl,z⟩];grind
  ·rw[if_neg z,if_neg (fun q=>z q.2)];grind
theorem Sd (u0:u 0=0)(hm:m<=N+1)(y:Nat):∀(ds:List RD) (h:Nat),(∀d∈ds,cX (m:Int) d.2.1 d.2.2.1)->1<=h->h+cC ds<=N+1->Mq.rs N (fun i=>u (i+1)*eqM h ds (i+1) y)=nt u h ds y+hw u h ds y
 | [],h,_,_,_=>by
  have:∀i,u (i+1)*eqM h [] (i+1) y=0:=fun i=>by show u (i+1)*(0:Rat)=0;grind
  rw[aT fun i _=>this i,eE];show (0:Rat)=0+0;grind
 |d :: ds,h,pt,h1,hN=>by
  rw[gY] at hN;have ih:=Sd u0 hm y ds (h+cN d.1) (fun e he=>pt e (mem_cons_of_mem _ he)) (by lia) (by lia);have c:=qh3 (u:=u) (N:=N) (h:=h) (y:=y) u0 (pt d (by simp)) hm h1 (fun z=>by rw[z] at hN;have:cN .ho=1:=rfl;lia);have:∀i,u (i+1)*eqM h (d :: ds) (i+1) y=u (i+1)*cM d h (i+1) y+u (i+1)*eqM (h+cN d.1) ds (i+1) y:=fun i=>by
   show u (i+1)*(cM d h (i+1) y+eqM (h+cN d.1) ds (i+1) y)=_;grind
  rw[aT fun i _=>this i,fI,ih,c];show _=(fw u d h*dl d.2.1.toNat d.2.2.1.toNat y+nt u (h+cN d.1) ds y)+((if d.1=.ho/\h=y then u d.2.1.toNat - u d.2.2.1.toNat else 0)+hw u (h+cN d.1) ds y)
  grind
theorem Td:∀(ds:List RD) (h:Nat),y < h->hw u h ds y=0
 | [],_,_=>rfl
 |d :: ds,h,hy=>by
  show (if d.1=.ho/\h=y then u d.2.1.toNat - u d.2.2.1.toNat else 0)+hw u (h+cN d.1) ds y=0;rw[if_neg (fun z=>by lia),Td ds (h+cN d.1) (by lia)];grind
theorem Ob:∀(ds:List RD) (h:Nat),(∀d∈ds,cX (m:Int) d.2.1 d.2.2.1)->m<=y->nt u h ds y=0
 | [],_,_,_=>rfl
 |d :: ds,h,pt,hy=>by
  obtain⟨a,b,c,e⟩:=pt d (by simp);show fw u d h*dl d.2.1.toNat d.2.2.1.toNat y+nt u (h+cN d.1) ds y=0;rw[Ob ds (h+cN d.1) (fun e he=>pt e (mem_cons_of_mem _ he)) hy];unfold dl;rw[if_neg (by lia),if_neg (by lia)];grind
theorem He:∀(ds:List RD) (h:Nat),(∀y,h<=y->y < h+cC ds->hw u h ds y=0)->∀d∈ds,d.1=.ho->u d.2.1.toNat=u d.2.2.1.toNat
 | [],_,_,_,hd,_=>by cases hd
 |e :: ds,h,all,d,hd,hk=>by
  by_cases he:e.1=.ho
  ·have c1:cN e.1=1:=by rw[he];rfl
   have first:=all h (Nat.le_refl _) (by rw[gY];lia)
   have f1:(if e.1=.ho/\h=h then u e.2.1.toNat - u e.2.2.1.toNat else 0)+hw u (h+cN e.1) ds h=0:=first
   rw[if_pos ⟨he,rfl⟩,Td ds (h+cN e.1) (by lia)] at f1;rcases mem_cons.mp hd with rfl | hd
   ·grind
   ·refine He ds (h+cN e.1) (fun y hy hl=>?_) d hd hk;have:=all y (by lia) (by rw[gY];lia);have f2:(if e.1=.ho/\h=y then u e.2.1.toNat - u e.2.2.1.toNat else 0)+hw u (h+cN e.1) ds y=0:=this;rw[if_neg (fun z=>by lia)] at f2;grind
  ·have c0:cN e.1=0:=if_neg he;rcases mem_cons.mp hd with rfl | hd
   ·exact absurd hk he
   ·refine He ds (h+cN e.1) (fun y hy hl=>?_) d hd hk;have:=all y (by lia) (by rw[gY];lia);have f2:(if e.1=.ho/\h=y then u e.2.1.toNat - u e.2.2.1.toNat else 0)+hw u (h+cN e.1) ds y=0:=this;rw[if_neg (fun z=>he z.1)] at f2;grind
theorem Xj:∀(ds:List RD) (h:Nat),(∀d∈ds,cX (m:Int) d.2.1 d.2.2.1)->Mq.rs m (fun p=>u p*nt u h ds p)=eg u h ds
 | [],h,_=>by
  have:∀p,u p*nt u h [] p=0:=fun p=>by show u p*(0:Rat)=0;grind
  rw[aT fun p _=>this p,eE];rfl
 |d :: ds,h,pt=>by
  have ih:=Xj ds (h+cN d.1) (fun e he=>pt e (mem_cons_of_mem _ he));obtain⟨a,b,c,e⟩:=pt d (by simp);have base:=Io u (n:=m) (s:=d.2.1.toNat) (g:=d.2.2.1.toNat) (by lia) (by lia);have:∀p,u p*nt u h (d :: ds) p=fw u d h*(u p*dl d.2.1.toNat d.2.2.1.toNat p)+u p*nt u (h+cN d.1) ds p:=fun p=>by
   show u p*(fw u d h*dl d.2.1.toNat d.2.2.1.toNat p+nt u (h+cN d.1) ds p)=_;grind
  rw[aT fun p _=>this p,fI,fV,base,ih];rfl
theorem qi0 (x:Rat):0<=x*x:=by
 rcases Rat.le_total (a:=0) (b:=x) with h | h
 ·exact Rat.mul_nonneg h h
 ·have:0<=(-x)*(-x):=Rat.mul_nonneg (by grind) (by grind);grind
theorem Oj {a:Rat}(h:0 < a):0 < 1 / a:=by
 rw[Rat.div_def,Rat.one_mul];exact Rat.inv_pos.mpr h
theorem Xn:∀(ds:List RD) (h:Nat),(∀d∈ds,d.1=.pc->0 < Mq.val d.2.2.2)->(∀d∈ds,d.1=.ho->u d.2.1.toNat=u d.2.2.1.toNat)->0<=eg u h ds/\(eg u h ds=0->∀d∈ds,d.1=.pc->u d.2.1.toNat=u d.2.2.1.toNat)
 | [],_,_,_=>⟨Rat.le_refl,fun _ d hd=>by cases hd⟩
 |e :: ds,h,pos,ho=>by
  obtain⟨i1,i2⟩:=Xn ds (h+cN e.1) (fun d hd=>pos d (mem_cons_of_mem _ hd)) (fun d hd=>ho d (mem_cons_of_mem _ hd));have eq:eg u h (e :: ds)=fw u e h*(u e.2.1.toNat - u e.2.2.1.toNat)+eg u (h+cN e.1) ds:=rfl;rw[eq];generalize eg u (h+cN e.1) ds=r at i1 i2;have t:0<=fw u e h*(u e.2.1.toNat - u e.2.2.1.toNat)/\(e.1=.pc->fw u e h*(u e.2.1.toNat - u e.2.2.1.toNat)=0->u e.2.1.toNat=u e.2.2.1.toNat):=by
   unfold fw
   cases hk:e.1 with
   |pu=>exact⟨by grind,fun z=>by cases z⟩
   |ho=>exact⟨by rw[ho e (by simp) hk];grind,fun z=>by cases z⟩
   |pc=>
    dsimp only;have p:=Oj (pos e (by simp) hk);generalize 1 / Mq.val e.2.2.2=q at p;generalize u e.2.1.toNat=a;generalize u e.2.2.1.toNat=b;have e2:(a - b)*q*(a - b)=q*((a - b)*(a - b)):=by grind
    rw[e2];refine⟨Rat.mul_nonneg (Rat.le_of_lt p) (qi0 _),fun _ z=>?_⟩;have q0:q≠0:=fun z=>by rw[z] at p;exact absurd p (by decide)
    have:(a - b)*(a - b)=0:=by grind
    have:a - b=0:=by grind
    grind
  obtain⟨t1,t2⟩:=t;generalize fw u e h*(u e.2.1.toNat - u e.2.2.1.toNat)=x at t1 t2;refine⟨by grind,fun z d hd hk=>?_⟩;have x0:x=0:=by grind
  have r0:r=0:=by grind
  rcases mem_cons.mp hd with rfl | hd
  ·exact t2 hk x0
  ·exact i2 r0 d hd hk
theorem Bb (d:RD)(p:Nat):∀(ds:List RD) (h:Nat),nt u h (ds++[d]) p=nt u h ds p+fw u d (h+cC ds)*dl d.2.1.toNat d.2.2.1.toNat p
 | [],h=>by show fw u d h*_+0=0+fw u d (h+0)*_;rw[Nat.add_zero];grind
 |e :: ds,h=>by
  show fw u e h*_+nt u (h+cN e.1) (ds++[d]) p=fw u e h*_+nt u (h+cN e.1) ds p+_;rw[Bb d p ds,gY,Nat.add_assoc];grind
theorem Gi (F:Nat->Rat):∀(ds:List RD) (h:Nat),(∀d∈ds,cX (m:Int) d.2.1 d.2.2.1)->(∀d∈ds,d.1=.pc->u d.2.1.toNat=u d.2.2.1.toNat)->(∀d∈ds,d.1=.ho->F d.2.1.toNat=F d.2.2.1.toNat)->Mq.rs m (fun p=>F p*nt u h ds p)=0
 | [],h,_,_,_=>by
  have:∀p,F p*nt u h [] p=0:=fun p=>by show F p*(0:Rat)=0;grind
  rw[aT fun p _=>this p,eE]
 |d :: ds,h,pt,hu,hF=>by
  have ih:=Gi F ds (h+cN d.1) (fun e he=>pt e (mem_cons_of_mem _ he)) (fun e he=>hu e (mem_cons_of_mem _ he)) (fun e he=>hF e (mem_cons_of_mem _ he));obtain⟨a,b,c,e⟩:=pt d (by simp);have base:=Io F (n:=m) (s:=d.2.1.toNat) (g:=d.2.2.1.toNat) (by lia) (by lia);have:∀p,F p*nt u h (d :: ds) p=fw u d h*(F p*dl d.2.1.toNat d.2.2.1.toNat p)+F p*nt u (h+cN d.1) ds p:=fun p=>by
   show F p*(fw u d h*dl d.2.1.toNat d.2.2.1.toNat p+nt u (h+cN d.1) ds p)=_;grind
  rw[aT fun p _=>this p,fI,fV,base,ih]
  cases hk:d.1 with
  |pu=>
   have:fw u d h=0:=by unfold fw;rw[hk]
   rw[this];grind
  |pc=>
   have:fw u d h=0:=by unfold fw;rw[hk];dsimp only;rw[hu d (by simp) hk];grind
   rw[this];grind
  |ho=>rw[hF d (by simp) hk];grind
def Frs (ds:List RD):Prop:=∀(A B:List RD) (d:RD),ds=A++d :: B->d.1=.ho->¬Cn (iK .ho A) d.2.1.toNat d.2.2.1.toNat
theorem Iw:∀(n:Nat) (ds:List RD) (h:Nat),ds.length=n->(∀d∈ds,cX (m:Int) d.2.1 d.2.2.1)->Frs ds->(∀d∈ds,d.1=.pc->u d.2.1.toNat=u d.2.2.1.toNat)->(∀p,p < m->nt u h ds p=0)->∀y,h<=y->y < h+cC ds->u y=0
 |0,ds,h,hl,_,_,_,_,y,h1,h2=>by
  have:ds=[]:=length_eq_zero_iff.mp hl;subst this;have:cC ([]:List RD)=0:=rfl;lia
 |n+1,ds,h,hl,pt,fr,hu,ze,y,h1,h2=>by
  obtain⟨es,d,rfl⟩:∃es d,ds=es++[d]:=⟨ds.dropLast,ds.getLast (by intro z;rw[z] at hl;cases hl),(dropLast_concat_getLast _).symm⟩
  have le:es.length=n:=by rw[List.length_append] at hl;simpa using hl
  have pe:∀x∈es,cX (m:Int) x.2.1 x.2.2.1:=fun x hx=>pt x (mem_append_left _ hx);have ue:∀x∈es,x.1=.pc->u x.2.1.toNat=u x.2.2.1.toNat:=fun x hx=>hu x (mem_append_left _ hx);have fe:Frs es:=fun A B x e hx=>fr A (B++[d]) x (by rw[e];simp) hx;obtain⟨i0,i1,j0,j1⟩:=pt d (by simp);have f0:fw u d (h+cC es)=0:=by
   cases hk:d.1 with
   |pu=>unfold fw;rw[hk]
   |pc=>unfold fw;rw[hk];dsimp only;rw[hu d (by simp) hk];grind
   |ho=>
    open Classical in
    have nc:=fr es [] d rfl hk
    let F:Nat->Rat:=fun p=>if Cn (iK .ho es) d.2.1.toNat p then 1 else 0
    have s1:=Gi (u:=u) (m:=m) F es h pe ue (fun x hx hk'=>by
     show (if Cn (iK .ho es) d.2.1.toNat x.2.1.toNat then (1:Rat) else 0)=if Cn (iK .ho es) d.2.1.toNat x.2.2.1.toNat then 1 else 0
     have r:Cn (iK .ho es) x.2.1.toNat x.2.2.1.toNat:=.row (mem_filter.mpr ⟨hx,decide_eq_true hk'⟩) (by rw[hk'];exact fun z=>by cases z)
     by_cases c:Cn (iK .ho es) d.2.1.toNat x.2.1.toNat
     ·rw[if_pos c,if_pos (c.trans r)]
     ·rw[if_neg c,if_neg (fun z=>c (z.trans r.symm))])
    have s2:Mq.rs m (fun p=>F p*nt u h (es++[d]) p)=0:=by
     have:∀p,p < m->F p*nt u h (es++[d]) p=0:=fun p hp=>by rw[ze p hp];grind
     rw[aT this,eE]
    have e3:∀p,F p*nt u h (es++[d]) p=F p*nt u h es p+fw u d (h+cC es)*(F p*dl d.2.1.toNat d.2.2.1.toNat p):=fun p=>by rw[Bb];grind
    rw[aT fun p _=>e3 p,fI,s1,fV,Io F (by lia) (by lia)] at s2;have Fs:F d.2.1.toNat=1:=if_pos (.refl _);have Fg:F d.2.2.1.toNat=0:=if_neg nc;rw[Fs,Fg] at s2;grind
  have ze':∀p,p < m->nt u h es p=0:=fun p hp=>by
   have:=ze p hp;rw[Bb,f0] at this;grind
  rw[iO] at h2
  by_cases c:y < h+cC es
  ·exact Iw n es h le pe fe ue ze' y h1 c
  ·have hk:d.1=.ho:=Classical.byContradiction fun z=>by
    have:cN d.1=0:=if_neg z;lia
   have c1:cN d.1=1:=by rw[hk];rfl
   have:y=h+cC es:=by lia
   rw[this];unfold fw at f0;rw[hk] at f0;exact f0
theorem Vy (hm1:1<=m)(pt:∀d∈ds,cX (m:Int) d.2.1 d.2.2.1)(pos:∀d∈ds,d.1=.pc->0 < Mq.val d.2.2.2)(cn:∀p,p < m->Cn ds 0 p)(fr:Frs ds)(u0:u 0=0)(ze:∀y,1<=y->y<=m - 1+cC ds->Mq.rs (m - 1+cC ds) (fun i=>u (i+1)*eqM m ds (i+1) y)=0):∀y,y<=m - 1+cC ds->u y=0:=by
 have ze2:∀y,1<=y->y<=m - 1+cC ds->nt u m ds y+hw u m ds y=0:=fun y a b=>by
  have:=ze y a b;rw[Sd (m:=m) u0 (by lia) y ds m pt hm1 (by lia)] at this;exact this
 have hf:=He (u:=u) ds m (fun y a b=>by
  have:=ze2 y (by lia) (by lia);rw[Ob ds m pt a] at this;grind)
 have np:∀p,1<=p->p < m->nt u m ds p=0:=fun p a b=>by
  have:=ze2 p a (by lia);rw[Td ds m b] at this;grind
 have e0:eg u m ds=0:=by
  rw[<- Xj (u:=u) (m:=m) ds m pt];have:∀p,p < m->u p*nt u m ds p=0:=fun p hp=>by
   by_cases c:p=0
   ·rw[c,u0];grind
   ·rw[np p (by lia) hp];grind
  rw[aT this,eE]
 have pf:=(Xn (u:=u) ds m pos hf).2 e0;have cz:∀p,p < m->u p=0:=fun p hp=>by
  have:=Cn.ind (R:=fun a b=>u a=u b) (fun _=>rfl) (fun _ _ e=>e.symm) (fun _ _ _ a b=>a.trans b) (fun d hd hk=>by
   cases h:d.1 with
   |pc=>exact pf d hd h
   |pu=>exact absurd h hk
   |ho=>exact hf d hd h) (cn p hp)
  rw[<- this,u0]
 have all:∀p,p < m->nt u m ds p=0:=fun p hp=>by
  by_cases c:p=0
  ·have s:=Gi (u:=u) (m:=m) (fun _=>1) ds m pt pf (fun _ _ _=>rfl);obtain⟨k,rfl⟩:∃k,m=k+1:=⟨m - 1,by lia⟩
   rw[wX] at s;have:∀i,i < k->(1:Rat)*nt u (k+1) ds (i+1)=0:=fun i hi=>by rw[np (i+1) (by lia) (by lia)];grind
   rw[aT this,eE] at s;rw[c];grind
  ·exact np p (by lia) hp
 have hz:=Iw (u:=u) (m:=m) _ ds m rfl pt fr pf all;intro y hy
 by_cases c:y < m
 ·exact cz y c
 ·exact hz y (by lia) (by lia)
end
open Shp
section
variable {m N:Nat} {ds:List RD}
structure Nof (m:Nat) (ds:List RD):Prop where
 m1:1<=m
 pt:∀d∈ds,cX (m:Int) d.2.1 d.2.2.1
 pos:∀d∈ds,d.1=.pc->0 < Mq.val d.2.2.2
 cn:∀p,p < m->Cn ds 0 p
 fr:Frs ds
theorem qa4 (e:Cd m ds N X Y):X.length=m - 1+cC ds:=e.x.h
theorem Qp (e:Cd m ds N X Y)(i j:Nat):rG X i j=eqM m ds (i+1) (j+1):=e.vx i j
end
end L2
namespace Shp
open PySem L2
theorem Ia (hl:R0.length=m)(hw:∀i,i < m->(R0.getD i []).length=w)(hmw:m<=w)(h0:Pr R0)(st:Stp m w (Mq.at2 R0) Pr):∀col,col<=m->∃R r d sg,SI m w (Mq.at2 R0) R r col d sg/\Pr R
 |0,_=>⟨R0,0,1,1,.start hl hw,h0⟩
 |col+1,hc=>by
  obtain⟨R,r,d,sg,S,p⟩:=Ia hl hw hmw h0 st col (by lia)
  by_cases hz:∀i,r<=i->i < m->ent R i col=0
  ·exact⟨R,r,d,sg,S.skip hz,p⟩
  ·obtain⟨i,hi⟩:=Classical.not_forall.mp hz;obtain⟨h1,hi⟩:=Classical.not_imp.mp hi;obtain⟨h2,ne⟩:=Classical.not_imp.mp hi
   by_cases e:i=r
   ·subst e;exact⟨_,_,_,_,S.clear h2 (by lia) ne,st.cl R i col d sg S h2 (by lia) ne p⟩
   ·have hlt:r < i:=by lia
    have S2:=S.swap hlt h2;have p2:=st.sw R r col d sg i S hlt h2 p;have ne2:ent (fY R i r) r col≠0:=by
     have:=Bg (R:=R) (p:=i) (r:=r) (by rw[S.len];assumption) (by rw[S.len];lia) r;unfold ent at ne ⊢;rw[this,show Mq.sw i r r=i by unfold Mq.sw;simp];exact ne
    exact⟨_,_,_,_,S2.clear (by lia) (by lia) ne2,st.cl _ r col d (-sg) S2 (by lia) (by lia) ne2 p2⟩
theorem Vk (xP:gF X)(hw:∀row∈X,row.length=X.length)(m1:1<=X.length)(hz:wgt X=0):∃v:Nat->Rat,(∃j,j < X.length/\v j≠0)/\∀x,x < X.length->(Mq.rs X.length fun j=>v j*rG X j x)=0:=by
 obtain⟨R,r,d,sg,S,L⟩:=Ia (m:=X.length) (w:=X.length+X.length) (R0:=kG X) (Sy X) (fun i hi=>by rw[wD hi,Cz,hw _ (mem_of_getElem? (xC hi))]) (by lia) (Vx xP hw) Yy X.length (Nat.le_refl _);have wr:=Pd xP (Xb fun i j hi hj=>yU xP hw hi hj) S;have hr:r < X.length:=by
  rcases wr with z | z
  ·exact z.1
  ·exact absurd hz z.2
 obtain⟨⟨k0,hk0,nk0⟩,hsum⟩:=L.lame S hr;refine⟨fun k=>Mq.at2 R (X.length - 1) (X.length+k),⟨k0,hk0,fun z=>?_⟩,hsum⟩;exact nk0 (Rat.intCast_inj.mp (by unfold Mq.at2 at z;simpa using z))
end Shp
namespace L2
open Shp
theorem Nof.wgt_ne (o:Nof m ds)(e:Cd m ds N X Y)(xP:gF X)(hw:∀row∈X,row.length=X.length)(m1:1<=X.length):wgt X≠0:=fun hz=>by
 obtain⟨v,⟨j,hj,vj⟩,hs⟩:=Vk xP hw m1 hz;have n:=qa4 e;have z:=Vy (u:=fun x=>if x=0 then 0 else v (x - 1)) o.m1 o.pt o.pos o.cn o.fr (if_pos rfl) (fun y y1 yn=>by
  have s:=hs (y - 1) (by lia);rw[n] at s;rw[<- s];refine aT fun i _=>?_;rw[if_neg (by lia),Nat.add_sub_cancel,Qp e,show y - 1+1=y by lia])
 have:=z (j+1) (by lia);rw[if_neg (by lia),Nat.add_sub_cancel] at this;exact vj this
end L2
namespace Mq
theorem Rz (l:Low p){a L:Int}(hL:1<=L)(h:val p=(a:Rat) / (L:Rat)):p.2 ∣ L/\p.1.natAbs<=a.natAbs:=by
 have h2:((p.2:Int):Rat)≠0:=by have:=l.pos;exact_mod_cast (by lia:p.2≠0)
 have hl:((L:Int):Rat)≠0:=by exact_mod_cast (by lia:L≠0)
 have e:p.1*L=a*p.2:=by
  unfold val at h;have:((p.1:Int):Rat)*(L:Rat)=(a:Rat)*((p.2:Int):Rat):=by grind
  exact_mod_cast this
 have d:p.2 ∣ L:=by
  have c:Int.gcd p.2 p.1=1:=by
   have:=l.one;unfold gc at this;rw[Int.gcd_comm];exact_mod_cast this
  have c':Nat.Coprime p.2.natAbs p.1.natAbs:=c;have dv:p.2.natAbs ∣ p.1.natAbs*L.natAbs:=by
   rw[<- Int.natAbs_mul,e,Int.natAbs_mul];exact Nat.dvd_mul_left ..
  exact Int.natAbs_dvd_natAbs.mp (c'.dvd_of_dvd_mul_left dv)
 obtain⟨t,ht⟩:=d;have t1:t≠0:=fun z=>by rw[z,Int.mul_zero] at ht;lia
 have e2:p.1*t=a:=by
  have:p.2*(p.1*t)=p.2*a:=by
   rw[Int.mul_comm p.2 a,<- e,ht,<- Int.mul_assoc,<- Int.mul_assoc,Int.mul_comm p.2 p.1]
  exact Int.eq_of_mul_eq_mul_left (by have:=l.pos;lia) this
 refine⟨⟨t,ht⟩,?_⟩;rw[<- e2,Int.natAbs_mul];exact Nat.le_mul_of_pos_right _ (by lia)
def Fr (L:Int)(M:Nat)(x:Rat):Prop:=∃a:Int,x=(a:Rat) / (L:Rat)/\a.natAbs<=M*L.natAbs
section
variable {L K:Int} {M N:Nat} {x y:Rat}
theorem pS (h:1<=L):((L:Int):Rat)≠0:=by exact_mod_cast (by lia:L≠0)
theorem Fr.mono (h:Fr L M x)(l:M<=N):Fr L N x:=by
 obtain⟨a,e,b⟩:=h;exact⟨a,e,Nat.le_trans b (Nat.mul_le_mul_right _ l)⟩
theorem Fr.zero:Fr L 0 0:=⟨0,by rw[show ((0:Int):Rat)=0 by rfl,Rat.div_def];grind,by simp⟩
theorem Fr.one (h:1<=L):Fr L 1 1:=⟨L,by have:=pS h;grind,by lia⟩
theorem Fr.add (h:Fr L M x)(g:Fr L N y):Fr L (M+N) (x+y):=by
 obtain⟨a,ea,ba⟩:=h;obtain⟨b,eb,bb⟩:=g;refine⟨a+b,?_,?_⟩
 ·rw[ea,eb,Rat.intCast_add,Rat.div_def,Rat.div_def,Rat.div_def];grind
 ·rw[Nat.add_mul];have:=Int.natAbs_add_le a b;lia
theorem Fr.neg (h:Fr L M x):Fr L M (-x):=by
 obtain⟨a,ea,ba⟩:=h;refine⟨-a,?_,by rw[Int.natAbs_neg];exact ba⟩;rw[ea,Rat.intCast_neg,Rat.div_def,Rat.div_def];grind
theorem Fr.of (hL:1<=L){t b:Int}(hb:1<=b)(d:b ∣ L)(ht:t.natAbs<=M):Fr L M ((t:Rat) / (b:Rat)):=by
 obtain⟨k,rfl⟩:=d;have k1:1<=k:=by
  rcases Int.lt_or_le k 1 with z | z
  ·have:=Int.mul_nonpos_of_nonneg_of_nonpos (by lia:0<=b) (by lia:k<=0);lia
  ·exact z
 refine⟨t*k,?_,?_⟩
 ·have:=pS hb;have:=pS k1;rw[Rat.intCast_mul,Rat.intCast_mul];grind
 ·rw[Int.natAbs_mul,Int.natAbs_mul];refine Nat.mul_le_mul ht (Nat.le_mul_of_pos_left _ (by lia))
theorem Fr.get (h:Fr L M x)(hM:M < 2 ^ m)(hL:B n L)(hb:m+n<=b):∃a:Int,B b a/\x=(a:Rat) / (L:Rat):=by
 obtain⟨a,ea,ba⟩:=h;refine⟨a,?_,ea⟩;refine B.mono (n:=m+n) ?_ hb;show a.natAbs < 2 ^ (m+n);rw[Nat.pow_add];have hL:L.natAbs < 2 ^ n:=hL;exact Nat.lt_of_le_of_lt ba (Nat.mul_lt_mul'' hM hL)
end
theorem uU (hL:1<=L)(l:Low p)(d:p.2 ∣ L)(b:Bd u p):Fr L (2 ^ u) (val p):=Fr.of hL l.pos d (Nat.le_of_lt b.a)
def prB:List Int->Int
 | []=>1
 |a :: r=>a*prB r
theorem Ja:∀{l:List Int},(∀a∈l,1<=a)->1<=prB l
 | [],_=>Int.le_refl _
 |a :: r,h=>by
  have h1:=h a (by simp);have h2:=Ja (l:=r) fun b hb=>h b (mem_cons_of_mem _ hb);have:=Int.mul_pos (by assumption:0 < a) (by assumption:0 < prB r);show 1<=a*prB r;assumption
theorem Kn:∀{l:List Int} {a:Int},a∈l->a ∣ prB l
 |b :: r,a,h=>by
  rcases mem_cons.mp h with z | z
  ·rw[z];exact Int.dvd_mul_right ..
  ·exact Int.dvd_trans (Kn z) (Int.dvd_mul_left ..)
theorem Xx:∀{l:List Int},(∀a∈l,B u a)->B (u*l.length+1) (prB l)
 | [],_=>show (1:Nat) < 2 ^ (u*0+1) by rw[Nat.mul_zero];decide
 |a :: r,h=>by
  have h1:=h a (by simp);have h2:=Xx (l:=r) fun b hb=>h b (mem_cons_of_mem _ hb);exact(h1.mul h2).mono (by rw[length_cons,Nat.mul_succ];lia)
end Mq
open Mq (pS uU)
namespace L2
theorem Ta (s g x:Nat):dl s g x=1\/dl s g x=0\/dl s g x=-1:=by
 unfold dl
 by_cases a:s=x<;>by_cases b:g=x<;>simp only[a,b,if_true,if_false]
 ·exact .inr (.inl (by grind))
 ·exact .inl (by grind)
 ·exact .inr (.inr (by grind))
 ·exact .inr (.inl (by grind))
theorem Er (h:Mq.Fr L M y)(s g x:Nat):Mq.Fr L M (dl s g x*y):=by
 rcases Ta s g x with e | e | e
 ·rw[e,Rat.one_mul];exact h
 ·rw[e,Rat.zero_mul];exact Mq.Fr.zero.mono (Nat.zero_le _)
 ·rw[e,show (-1:Rat)*y=-y by grind];exact h.neg
open PySem PySem.Spec PyProof.Rows Shp
abbrev Ent:=Option Nat × RD × Q2
theorem Jq:∀n,∀e∈(eU W sk n).1,∃k,W k=true/\sk[e.1]?=some (k,e.2.1,e.2.2)/\e.1 < n
 |0,e,h=>by cases h
 |n+1,e,h=>by
  have ih:=Jq (W:=W) (sk:=sk) n
  cases hd:sk[n]? with
  |none=>
   have:eU W sk (n+1)=eU W sk n:=by
    show (match sk[n]? with | none=>eU W sk n | some d=>jD W (eU W sk n) n d)=_;rw[hd]
   rw[this] at h;obtain⟨k,a,b,c⟩:=ih e h;exact⟨k,a,b,by lia⟩
  |some d=>
   rw[jJ hd] at h;unfold jD at h;split at h
   ·rename_i w
    split at h
    ·rcases mem_append.mp h with z | z
     ·obtain⟨k,a,b,c⟩:=ih e z;exact⟨k,a,b,by lia⟩
     ·have:e=(n,d.2.1,d.2.2):=by simpa using z
      subst this;exact⟨d.1,w,hd,by show n < n+1;lia⟩
    ·obtain⟨k,a,b,c⟩:=ih e h;exact⟨k,a,b,by lia⟩
   ·obtain⟨k,a,b,c⟩:=ih e h;exact⟨k,a,b,by lia⟩
theorem yI {m:Nat}(hW:∀k,W k=true↔k=.ho)(pt:∀d∈ds,cX (m:Int) d.2.1 d.2.2.1)(h20:m<=20)(fr:Frs ds):∀n,n<=ds.length->(eU W (skl ds) n).2=[]
 |0,_=>rfl
 |n+1,hn=>by
  have ih:=yI hW pt h20 fr n (by lia);have hd:ds[n]?=some ds[n]:=getElem?_eq_getElem (by assumption);generalize ds[n]=d at hd;have sl:(skl ds).length=ds.length:=by unfold skl;rw[length_map]
  have hs:(skl ds)[n]?=some (d.1,d.2.1.toNat,d.2.2.1.toNat):=by unfold skl;rw[getElem?_map,hd];rfl
  rw[jJ hs];unfold jD;split
  ·rename_i w
   have hk:d.1=.ho:=(hW _).mp w;obtain⟨a,b,c,f⟩:=pt d (mem_of_getElem? hd);have ri:=qQ (W:=W) (sk:=skl ds) (m:=m) (fun x hx=>by
    obtain⟨y,hy,rfl⟩:=mem_map.mp hx;obtain⟨a,b,c,f⟩:=pt y hy;exact⟨by show y.2.1.toNat < m;lia,by show y.2.2.1.toNat < m;lia⟩) n (by lia)
   have wi:=Tv (b:=d.2.2.1.toNat) (e:=d.2.1.toNat) ri.pt h20 (by lia) (by lia)
   cases e:vJ (eU W (skl ds) n).1 d.2.2.1.toNat d.2.1.toNat with
   |none=>dsimp only;first | (rw[e];exact ih) | exact ih
   |some st=>
    exfalso
    rw[e] at wi;have eq:=wi.mp rfl;have cn:=(Jg (vY ri.pt) (by lia) (by lia)).mp eq;have ed:ds=ds.take n++d :: ds.drop (n+1):=by
     have hn':n < ds.length:=by assumption
     have:ds[n]=d:=by rw[getElem?_eq_getElem hn'] at hd;exact Option.some.inj hd
     rw[<- this,getElem_cons_drop,take_append_drop]
    refine fr _ _ d ed hk ?_;refine Cn.ind (R:=fun p q=>Cn (iK .ho (ds.take n)) p q) (fun p=>.refl p) (fun _ _=>.symm) (fun _ _ _=>.trans) (fun x hx _=>?_) cn;obtain⟨y,hy,rfl⟩:=mem_map.mp hx;obtain⟨k,wk,sk,yn⟩:=Jq n y hy;unfold skl at sk;rw[getElem?_map] at sk;obtain⟨z,hz,ez⟩:=Option.map_eq_some_iff.mp sk;have e1:z.1=k:=congrArg (·.1) ez;have e2:z.2.1.toNat=y.2.1:=congrArg (·.2.1) ez;have e3:z.2.2.1.toNat=y.2.2:=congrArg (·.2.2) ez;have hz':z∈iK .ho (ds.take n):=mem_filter.mpr ⟨mem_of_getElem? (show (ds.take n)[y.1]?=some z by rw[getElem?_take_of_lt yn];exact hz),decide_eq_true (by rw[e1];exact(hW _).mp wk)⟩;have:Cn (iK .ho (ds.take n)) z.2.1.toNat z.2.2.1.toNat:=.row hz' (by rw[e1,(hW _).mp wk];exact fun z=>by cases z);rw[e2,e3] at this;show Cn _ ((y.2.1:Nat):Int).toNat ((y.2.2:Nat):Int).toNat;rw[Int.toNat_natCast,Int.toNat_natCast];exact this
  ·exact ih
end L2
namespace Mq
theorem Wq {a L l k:Int}(h:1<=p.2)(e:l=k*p.2)(l1:1<=l)(d:l ∣ L)(hL:1<=L)(v:val p=(a:Rat) / (L:Rat)):(Ez l p).natAbs<=a.natAbs:=by
 obtain⟨s,rfl⟩:=d;have s1:s≠0:=fun z=>by rw[z,Int.mul_zero] at hL;lia
 have hv:=Na (L:=l) (k:=k) h e;have h2:=pS l1;have h3:((s:Int):Rat)≠0:=by exact_mod_cast s1
 have e2:Ez l p*s=a:=by
  have:((Ez l p:Int):Rat)*(s:Rat)=(a:Rat):=by
   rw[hv,v,Rat.intCast_mul];grind
  exact_mod_cast this
 rw[<- e2,Int.natAbs_mul];exact Nat.le_mul_of_pos_right _ (by lia)
end Mq
namespace Shp
open PySem L2
theorem Wi (hX:gF X)(hq:Mq.Pos qs)(hl:qs.length=X.length)(hb:∀row∈X,∀p∈row,p.2 ∣ L/\∃a:Int,Mq.B b a/\Mq.val p=(a:Rat) / (L:Rat))(hqb:∀p∈qs,p.2 ∣ L/\∃a:Int,Mq.B b a/\Mq.val p=(a:Rat) / (L:Rat))(hL:1<=L):BdR b (iP X qs):=fun i x=>by
 unfold ent
 by_cases hi:i < X.length
 ·rw[wQ hl hi];have pos:=tS hX hq hl hi;have al:∀p∈X.getD i []++[qs.getD i Mq.z0],p.2 ∣ L/\∃a:Int,Mq.B b a/\Mq.val p=(a:Rat) / (L:Rat):=fun p hp=>by
   rcases mem_append.mp hp with z | z
   ·exact hb _ (mem_of_getElem? (xC hi)) p z
   ·have e:p=qs.getD i Mq.z0:=by simpa using z
    rw[e];exact hqb _ (mem_of_getElem? (Mq.On (by lia:i < qs.length)))
  generalize X.getD i []++[qs.getD i Mq.z0]=row at pos al;obtain⟨dv,l1⟩:=Mq.xW pos (fun p hp=>(al p hp).1) row.length (Nat.le_refl _);rw[take_length] at dv l1;unfold iw;rw[getD_eq_getElem?_getD,getElem?_map]
  cases e:row[x]? with
  |none=>exact Nat.two_pow_pos _
  |some p=>
   have mem:=mem_of_getElem? e;obtain⟨_,a,ab,ea⟩:=al p mem;obtain⟨k,ek⟩:=Dr pos p mem;exact ab.le (Mq.Wq (pos p mem) ek l1 dv hL ea)
 ·rw[getD_eq_getElem?_getD (l:=iP X qs),getElem?_eq_none (by rw[Eg hl];lia)];exact Nat.two_pow_pos _
structure Ovr (n:Nat) (ps:List Q2):Prop where
 e:∃D:Int,1<=D/\Mq.B n D/\∀p∈ps,∃t:Int,Mq.B n t/\Mq.val p=(t:Rat) / (D:Rat)
theorem Vj (d0:d≠0)(bd:Mq.B n d)(h:∀p∈ps,∃t:Int,Mq.B n t/\p=red t d):Ovr n ps:=by
 refine⟨(d.natAbs:Int),by lia,by show ((d.natAbs:Int)).natAbs < _;rw[Int.natAbs_natCast];exact bd,fun p hp=>?_⟩;obtain⟨t,bt,rfl⟩:=h p hp;rw[iY d0];rcases Int.lt_or_le d 0 with z | z
 ·refine⟨-t,bt.neg,?_⟩;rw[show ((d.natAbs:Nat):Int)=-d by lia,Rat.intCast_neg,Rat.intCast_neg];have:((d:Int):Rat)≠0:=by exact_mod_cast d0
  grind
 ·exact⟨t,bt,by rw[show ((d.natAbs:Nat):Int)=d by lia]⟩
def xM (K:Frag):Sp:=fun vs H Q _=>∃(g b D:Addr) (H0:Hp) (us bs:List V) (X:List (List Q2)) (qs:List Q2) (k n:Nat),vs=[.ref g,.ref b]/\SqL K H g us/\Fmd K H0 D H us X/\SqL K H b bs/\Fqs K H bs qs/\qs.length=X.length/\oW qs/\(∀p∈qs,Bd k p)/\gF X/\(∀row∈X,(∀p∈row,Bd k p)/\row.length=X.length)/\X.length<=26/\10+k+k*(X.length+1)<=8000/\BdR n (iP X qs)/\1<=n/\bw n X.length<=8900/\wgt X≠0/\
 ∀l zs ps H',aW H H'->H l=none->H' l=some (.lst zs)->Fqs K H' zs ps->qg2 X qs ps->Ovr (bw n X.length) ps->Q (.ref l) H'
end Shp
namespace L2
open PySem
section
variable {X:Cx}
theorem yG (I:Inv X pins σ H s)(e:H a=some (lM a (.ref C) (some dx)))(ed:H dx=some (.xd fs)):∃ox od,W.InstAt s.heap a ox C (some od):=by
 obtain⟨⟨ob,vs,h1,h2,h3,h4⟩,_⟩:=(show cK X.prog X.w H s.heap a (lM a (.ref C) (some dx)) from I.hok a _ e)
 obtain⟨mA,N1,r⟩:=(show cK X.prog X.w H s.heap dx (.xd fs) from I.hok dx _ ed)
 obtain⟨od,ho,hl⟩:=rO N1;exact⟨ob,od,h1,h2,by unfold W.notCls;rw[h4],by rw[h3];exact ho⟩
theorem jM:kL X (.builtin "isinstance") (fun xs H Q=>∃a C dx fs c cv b,xs=[.ref a,c]/\H a=some (lM a (.ref C) (some dx))/\H dx=some (.xd fs)/\Cl X.K C/\cA c cv/\(∀u,cA c u->u=cv)/\W.kitOne X.K (.ref C) cv=some b/\Q (.bl b) H):=by
 intro pins s σ H xs us Q I r h;obtain⟨a,C,dx,fs,c,cv,b,rfl,ha,hdx,k,rc,ru,e,q⟩:=h;obtain⟨u,w',rfl,rx,rn⟩:=yT r
 cases (show u=Value.ref a from rx)
 cases ru w' rn
 obtain⟨ox,od,hi⟩:=yG I ha hdx;exact W.kia_one (Cb (ox:=ox) (odo:=some od) k) I.kIn hi e (fun z=>nomatch z) fun tk=>⟨.bl b,H,I.tok tk,rfl,q⟩
theorem sS:kL X (.builtin "isinstance") (fun xs H Q=>∃(a C dx:Addr) (fs:List (Str × V)) (tp:Addr) (cs:List Addr) (b:Bool),xs=[.ref a,.ref tp]/\H a=some (lM a (.ref C) (some dx))/\H dx=some (.xd fs)/\Cl X.K C/\H tp=some (.tup (cs.map V.ref))/\W.kitAny X.K (.ref C) (cs.map Value.ref)=some b/\Q (.bl b) H):=by
 intro pins s σ H xs us Q I r h;obtain⟨a,C,dx,fs,tp,cs,b,rfl,ha,hdx,k,ht,e,q⟩:=h;obtain⟨u,w',rfl,rx,rn⟩:=yT r
 cases (show u=Value.ref a from rx)
 cases (show w'=Value.ref tp from rn)
 obtain⟨ox,od,hi⟩:=yG I ha hdx;obtain⟨its,rv,⟨o,h1,h2,n,h3⟩,_⟩:=I.tuple (SqT.of ht);have ei:=xR rv;subst ei;obtain⟨oc,od2,oda,osl⟩:=o;dsimp only at h2 h3;subst h2 h3;exact W.kia_tup (Cb (ox:=ox) (odo:=some od) k) I.kIn hi h1 e (fun z=>nomatch z) fun tk=>⟨.bl b,H,I.tok tk,rfl,q⟩
end
open PySem.Spec PyProof.Rows
section
variable {X:Cx} {C C0 f:Addr}
theorem xG:kL X (.builtin "ValueError.__init__") (fun xs H Q=>∃a C C0 f d v v2,xs=[.ref a,v,v2]/\H a=some (gZ a (.ref C) d)/\kK X.K C C0 f/\Q .non H):=by
 intro pins s σ H xs us Q I r h;obtain⟨a,C,C0,f,d,v,v2,rfl,ea,q,hq⟩:=h;obtain⟨u1,us',rfl,r1,r2⟩:∃u1 us',us=u1 :: us'/\cA (.ref a) u1/\bQ [v,v2] us':=by cases r with | cons p q=>exact⟨_,_,rfl,p,q⟩
 obtain rfl:u1=Value.ref a:=r1;obtain⟨⟨t,he⟩,_⟩:=(show cK X.prog X.w H s.heap a (gZ a (.ref C) d) from I.hok a _ ea)
 obtain⟨nm,qn,N,bs,sn,sub,ab,col,dd,k0,k1,k2,k3,k5,lC⟩:=q.cls;have FB:=PySem.F.excBase_ValueError;have T:=q.tail I.kIn;have hl:us'.length=2:=r2.length.symm;have hC:=I.kIn _ _ lC;have fin:∀s',s'={ s with heap:=(s.heap.push { cls:=.type "tuple",data:=.seq us'.toArray }).update a (Obj.mapFields (·.setIfInBounds 0 (.ref s.heap.objs.size))) }->EP X pins σ Q .none s':=by
  rintro s' rfl;have I1:Inv X pins σ H { s with heap:=s.heap.push { cls:=.type "tuple",data:=.seq us'.toArray } }:=I.kept (t':=s.toks) fun b o e=>Heap.get?_push_of_some _ e;have he1:=Heap.get?_push_of_some (h:=s.heap) { cls:=.type "tuple",data:=.seq us'.toArray } he;have e2:=Heap.get?_update_self (Obj.mapFields (·.setIfInBounds 0 (.ref s.heap.objs.size))) he1 rfl;have I2:=I1.write (x:=a) (e:=a) (t':=s.toks) (o:=gZ a (.ref C) d) (by rw[ea];exact True.intro) (.inl rfl) (fun b u nb e=>(Heap.get?_update_other _ _ (Ne.symm nb)).trans e) ⟨_,e2⟩ (oZ (t:=s.heap.objs.size) e2);rw[Og ea] at I2;exact⟨.non,H,I2,rfl,hq⟩
 obtain⟨hp,g,dr,tk,os⟩:=s;refine wpAny_call (codeAny_call_builtin FB.init.plain FB.initEntry (wpAny_check_init_subU FB T hC he rfl ?_));unfold Builtin.«BaseException.__init__»;dsimp only;rw[if_neg (by simp)];unfold newTuple Builtin.BaseException.bexcPut;have he₁:=Heap.get?_push_of_some (h:=hp) { cls:=.type "tuple",data:=.seq us'.toArray } he;refine wpAny_bind (wpAny_newObj_type (wpAny_bind (wpAny_bind (wpAny_field he₁ rfl rfl (wpAny_bind (wpAny_setField he₁ rfl (by decide:0 < 6) ?_))))) (by show us'.toArray.size<=sizeLine;rw[size_toArray,hl];decide));exact wpAny_letGo (wpAny_pure (fin _ rfl))
def Lr (K:Frag)(ta:TA):TE:=fun σ H Q=>ta σ H fun vs H1=>∃a C C0 f d v v2,vs=[.ref a,v,v2]/\H1 a=some (gZ a (.ref C) d)/\kK K C C0 f/\Q .non H1
theorem Ep (hg:Gl X x)(hm:X.mg x=some (.ref C0))(c:Rg X.K C0)(ha:PA X (e :: es) t)(hdb:(x == ("__debug__":Str))=false:=by decide)(hst:starEach (e :: es) X.env=(false,eval e X.env) :: starEach es X.env:=by rfl)(hpl:(backTo pos (starEach es X.env)).any (·.1)=false:=by rfl)(ht:eval (.Call (.Attribute (.Name x np) "__init__" apos) (e :: es) [] pos) X.env=(do
   let ov <- eval (.Name x np) X.env
   standAt apos.atName
   let (f,first) <- holding [ov] (getMethod ov "__init__" pl)
   callWith pos f first (backTo pos (starEach (e :: es) X.env)) (backToKw pos (keywordEach [] X.env))):=by rfl):
  PE X (.Call (.Attribute (.Name x np) "__init__" apos) (e :: es) [] pos) (Lr X.K t):=by
 intro pins s σ H Q I h;refine W.methodCall_KW (pl:=pl) (jA I hg hm ?_ hdb) ht;refine W.method_cls I.kIn c.sp (W.cls_value I.kIn c.rd c.fi rfl ?_);have I':Inv X pins σ H { s with toks:=s.toks+1 }:=I.tok _;exact PyProof.Rows.callWith_builtin1 (thn (ha pos pins _ σ H _ I' h) fun us s1 ⟨vs,H1,I1,r1,q1⟩=>xG pins s1 σ H1 vs us Q I1 r1 q1) hst hpl
end
section
variable {prog:Program} {w:World} {A:Around} {E:Value->Shared->Prop} {s:Shared} {K:Frag} {x C C0 f:Addr} {name:Str} {v:Value} {vs:Array Value}
theorem Om (X:K.In s.heap)(q:kK K C C0 f)(hx:s.heap.get? x=some { cls:=.ref C,dict:=some d,data:=.fields vs })(hnd:s.heap.Ns1 d m)(hw:Within m ns)(hl:ns.length<=20)(hs:W.findIn K (.ref C) "__setattr__"=some (some (.builtin "object.__setattr__")))(hn:W.findIn K (.ref C) name=some none)(h:∀h',(h'.Ns1 d fun y=>if y=name then some v else m y)->Heap.SameBut d s.heap h'->∀tk,Q () { s with heap:=h',toks:=tk }):
  wpAny (model prog w) A (setAttr (.ref x) name v) Q E s:=by
 obtain⟨oD0,esD0,epD0,hoD0,hdD0,hsk⟩:=id hnd;have J:W.InstAt s.heap x { cls:=.ref C,dict:=some d,data:=.fields vs } C (some oD0):=⟨hx,rfl,rfl,hoD0⟩
 have SF:=PySem.F.store_object;have SV:=PySem.F.store_ValueError;obtain⟨cd,hc,hm,hd⟩:=q.cin;refine W.set_plain X J hs ?_;have sub:W.Looks (model prog w) s.heap (isInstance (.ref x) (.type "object")) true:=J.type.andThen (W.looks_mroIn X (by unfold W.mroIn;rw[hc,Option.bind_some,hm];rfl));refine codeAny_call_builtin SF.slot.plain SF.entry (@W.check_slot (model prog w) _ _ { s with toks:=s.toks+1 } "object.__setattr__" "object" "__setattr__" (.ref x) [.str name s.toks,v] [] _ SF.kind SF.split sub (SF.args (.ref x) (.str name s.toks) v) ?_);have hmro:W.Looks (model prog w) s.heap (mroOf (.ref C)) cd.mro:=(W.looks_clsIn X hc).andThen .now;rw[W.osa_eq,refuse_eq];refine wpAny_bind (wpAny_bind (W.Looks.here (s:={ s with toks:=s.toks+1 }) J.type (wpAny_bind (W.Looks.here (s:={ s with toks:=s.toks+1 }) hmro ?_))));rw[hm,refuseLoop_ref,refuseLoop_ref,SV.passes];refine wpAny_pure (wpAny_bind (W.Looks.here (s:={ s with toks:=s.toks+1 }) J.type (wpAny_bind (W.Looks.here (s:={ s with toks:=s.toks+1 }) (W.looks_findIn X hn) (wpAny_bind (wpAny_pure ?_))))));dsimp only;refine wpAny_bind (wpAny_pure (wpAny_bind (wpAny_bind (wpAny_loadPart hx (wpAny_bind (W.Looks.here (s:={ s with toks:=s.toks+1 }) (W.looks_clsIn X hc) ?_))))));rw[hd,if_neg (by decide)];dsimp only;refine wpAny_pure ?_;show wpAny _ _ (Builtin.ObjectAttr.storeInDict d (.str name s.toks) name v) _ _ _;unfold Builtin.ObjectAttr.storeInDict Builtin.ObjectAttr.newKeyGuard;refine wpAny_bind (wpAny_pure (wpAny_bind (wpAny_nsSet1 (s:={ s with toks:=s.toks+1 }) hnd fun h' hn' hs'=>?_)));obtain⟨oD,esD,epD,hoD,hdD,hcD⟩:=hn'.count (ns:=name :: ns) (fun y hy=>by
  by_cases c:y=name
  ·rw[c];exact mem_cons_self ..
  ·rw[if_neg c] at hy;exact mem_cons_of_mem _ (hw y hy))
 refine wpAny_bind (wpAny_lookBehind hoD (by rw[hdD];exact pastItsLine_dict (Nat.le_trans hcD (by rw[length_cons,sizeLine_eq];lia))) ?_);refine wpAny_pure ?_;exact h h' hn' hs' _
end
section
variable {X:Cx} {o value:Expr} {nm:Str} {pos pos':Pos} {ta tv:TE}
def xdE (a:Addr)(fs:List (Str × V)):HO:=.ext fun h=>∃mA,h.Ns1 a mA/\∀f,kF (fs.lookup f) (mA f)
theorem qc4 (e:h.Ns1 a mA)(r:∀f,kF (fs.lookup f) (mA f)):cK P w H h a (xdE a fs):=by
 obtain⟨o,es,ep,z1,z2⟩:=id e;exact⟨⟨mA,e,r⟩,⟨_,z1⟩,fun h1 h2 ⟨m',⟨o',es',ep',y1,y2⟩,r'⟩ k=>⟨m',⟨o',es',ep',k _ y1,y2⟩,r'⟩⟩
def Yv (K:Frag)(ta tv:TE)(nm:Str):TS:=fun D σ H=>tv σ H fun y H1=>ta σ H1 fun x H2=>∃a C C0 f,x=.ref a/\H2 a=some (gZ a (.ref C) none)/\kK K C C0 f/\Ar K C nm/\
 ∀dx,H2 dx=none->D.nx σ (upd (upd H2 dx (xdE dx [(nm,y)])) a (gZ a (.ref C) (some dx)))
theorem Tg (ha:PE X o ta)(hv:PE X value tv)(hs:swapsWith value (some (.Attribute o nm pos')) pos.line X.env=pure false):PS X (.Assign [.Attribute o nm pos'] value pos) (Yv X.K ta tv nm):=by
 intro pins s σ H D I h;refine plainObj_wpAny_Assign_Attribute (thn (hv pins s σ H _ I h) fun u s1 ⟨y,H1,I1,ry,q⟩=>thn (ha pins s1 σ H1 _ I1 q) fun ov s2 ⟨x,H2,I2,rx,a,C,C0,f,ex,ea,qi,qf,q2⟩=>?_) hs;subst ex;obtain rfl:ov=Value.ref a:=rx;obtain⟨⟨t,he⟩,_⟩:=(show cK X.prog X.w H2 s2.heap a (gZ a (.ref C) none) from I2.hok a _ ea)
 refine Ir I2.kIn qi he qf.sa qf.no fun h' e1 e2 e3 tk=>?_;have fr:H2 s2.heap.objs.size=none:=I2.hok.fresh (Nat.le_refl _);refine⟨σ,_,?_,q2 _ fr⟩;have na:a≠s2.heap.objs.size:=Nat.ne_of_lt (Heap.lt_size he);have u1:=Heap.get?_update_self (fun _:Obj=>({ cls:=.ref C,data:=.fields #[.ref t,.none,.none,.none,.bool false,.none] }:Obj)) e1 rfl;have u2:∀b,b≠a->(h'.update a fun _:Obj=>({ cls:=.ref C,data:=.fields #[.ref t,.none,.none,.none,.bool false,.none] }:Obj)).get? b=h'.get? b:=fun b nb=>Heap.get?_update_other _ _ (Ne.symm nb);generalize h'.update a (fun _:Obj=>({ cls:=.ref C,data:=.fields #[.ref t,.none,.none,.none,.bool false,.none] }:Obj))=h1 at u1 u2;have I3:Inv X pins σ (upd H2 s2.heap.objs.size (xdE s2.heap.objs.size [(nm,y)])) { s2 with heap:=h1,toks:=s2.toks }:=by
  refine I2.laid (a:=s2.heap.objs.size) (o:=xdE s2.heap.objs.size [(nm,y)]) (h':=h1) (t':=s2.toks) (fun b u e=>?_) (Nat.le_refl _) ?_
  ·by_cases nb:b=a
   ·subst nb;rw[he] at e;cases e;exact u1
   ·rw[u2 b nb];exact e3 b u nb e
  ·obtain⟨od,es,ep,z1,z2⟩:=e2;refine qc4 ⟨od,es,ep,(u2 _ (Ne.symm na)).trans z1,z2⟩ fun g=>?_
   by_cases gg:g=nm
   ·subst gg;rw[if_pos rfl,lookup_cons,beq_self_eq_true];exact ry
   ·have:(g == nm)=false:=beq_eq_false_iff_ne.mpr gg;rw[if_neg gg,lookup_cons,this];exact True.intro
 have ea3:upd H2 s2.heap.objs.size (xdE s2.heap.objs.size [(nm,y)]) a=some (gZ a (.ref C) none):=by rw[aL na];exact ea
 exact I3.write (x:=a) (e:=a) (h':=h') (t':=tk) (by rw[ea3];exact True.intro) (.inl rfl) (fun b u nb z=>by rw[<- u2 b nb];exact z) ⟨_,e1⟩ (oZ e1)
def qe2 (K:Frag)(ta tv:TE)(nm:Str):TS:=fun D σ H=>tv σ H fun y H1=>ta σ H1 fun x H2=>∃a C C0 f dx n1 y1,x=.ref a/\H2 a=some (gZ a (.ref C) (some dx))/\H2 dx=some (xdE dx [(n1,y1)])/\n1≠nm/\kK K C C0 f/\Ar K C nm/\
 D.nx σ (upd H2 dx (.xd [(n1,y1),(nm,y)]))
theorem Sm (ha:PE X o ta)(hv:PE X value tv)(hs:swapsWith value (some (.Attribute o nm pos')) pos.line X.env=pure false):PS X (.Assign [.Attribute o nm pos'] value pos) (qe2 X.K ta tv nm):=by
 intro pins s σ H D I h;refine plainObj_wpAny_Assign_Attribute (thn (hv pins s σ H _ I h) fun u s1 ⟨y,H1,I1,ry,q⟩=>thn (ha pins s1 σ H1 _ I1 q) fun ov s2 ⟨x,H2,I2,rx,a,C,C0,f,dx,n1,y1,ex,ea,ed,ne,qi,qf,q2⟩=>?_) hs;subst ex;obtain rfl:ov=Value.ref a:=rx;obtain⟨⟨t,he⟩,_⟩:=(show cK X.prog X.w H2 s2.heap a (gZ a (.ref C) (some dx)) from I2.hok a _ ea)
 obtain⟨⟨mA,hm,hr⟩,_⟩:=(show cK X.prog X.w H2 s2.heap dx (xdE dx [(n1,y1)]) from I2.hok dx _ ed)
 refine Om (ns:=[n1]) I2.kIn qi he hm (fun g hg=>?_) (by show 1<=20;decide) qf.sa qf.no fun h' e2 e3 tk=>?_
 ·by_cases c:g=n1
  ·rw[c];exact mem_cons_self ..
  ·exfalso
   have:=hr g;rw[lookup_cons,beq_eq_false_iff_ne.mpr c] at this;apply hg
   cases e:mA g with
   |none=>rfl
   |some v=>rw[e] at this;exact absurd this (by intro z;exact z)
 ·refine⟨σ,_,?_,q2⟩;obtain⟨od,es,ep,z1,z2⟩:=id e2;refine I2.write (x:=dx) (e:=dx) (h':=h') (t':=tk) (by rw[ed];exact True.intro) (.inl rfl) (fun b u nb z=>(e3.2 b nb).trans z) ⟨_,z1⟩ ⟨_,e2,fun g=>?_⟩
  by_cases c:g=nm
  ·subst c;rw[if_pos rfl,lookup_cons,beq_eq_false_iff_ne.mpr (Ne.symm ne),lookup_cons,beq_self_eq_true];exact ry
  ·rw[if_neg c];have:=hr g
   by_cases c1:g=n1
   ·subst c1;rw[lookup_cons,beq_self_eq_true] at this ⊢;exact this
   ·rw[lookup_cons,beq_eq_false_iff_ne.mpr c1] at this ⊢;rw[lookup_cons,beq_eq_false_iff_ne.mpr c];exact this
end
open Shp
abbrev wd (m:Nat)(ds:List RD):Nat:=m - 1+cC ds
structure Sv (m:Nat) (ds:List RD) (r:Nat->Rat) (v:Nat->Rat):Prop where
 z:v 0=0
 e:∀i,i < wd m ds->(Mq.rs (wd m ds) fun j=>eqM m ds (i+1) (j+1)*v (j+1))=r (i+1)
theorem cV.seqI {K:Frag}(ht:H t=some (.ins C dx fs))(e:cV t H H')(h:SqL K H a xs):SqL K H' a xs:=by
 rcases h with (h | ⟨u,h⟩) | h
 ·exact .inl (.inl (e _ _ h (gL h ht (fun z=>by cases z))))
 ·exact .inl (.inr ⟨u,e _ _ h (gL h ht (fun z=>by cases z))⟩)
 ·exact .inr h
theorem cV.seqTI {K:Frag}(ht:H t=some (.ins C dx fs))(e:cV t H H')(h:SqT K H a xs):SqT K H' a xs:=by
 rcases h with (h | ⟨u,h⟩) | h
 ·exact .inl (.inl (e _ _ h (gL h ht (fun z=>by cases z))))
 ·exact .inl (.inr ⟨u,e _ _ h (gL h ht (fun z=>by cases z))⟩)
 ·exact .inr h
theorem cV.fqsI {K:Frag}(ht:H t=some (.ins C dx fs))(e:cV t H H'):∀{xs:List V} {ps:List Q2},Fqs K H xs ps->Fqs K H' xs ps
 |_,_,.nil=>.nil
 |_,_,.cons f q=>.cons (cV.seqTI ht e f) (cV.fqsI ht e q)
theorem glo:¬(("levels":Str) = "flows"):=by decide +kernel
def kH (p l a:Addr):List (Str × V):=fD "flows" (.ref a) (fD "levels" (.ref l) (fD "lines" (.ref p) []))
theorem Tp (p l a:Addr):(kH p l a).lookup ("levels":Str)=some (.ref l):=by
 unfold kH;rw[bN,if_neg glo,bN,if_pos rfl]
theorem Xf (p l a:Addr):(kH p l a).lookup ("flows":Str)=some (.ref a):=by
 unfold kH;rw[bN,if_pos rfl]
theorem wC (p l a:Addr){x:Str}(h1:¬x = "lines")(h2:¬x = "levels")(h3:¬x = "flows"):(kH p l a).lookup x=none:=by
 unfold kH;rw[bN,if_neg h3,bN,if_neg h2,bN,if_neg h1];rfl
structure AB (K:Frag) (mg:Str->Option Value) (CA:Addr):Prop where
 cl:Cls K CA
 nI:gX K CA "lines"
 nE:gX K CA "levels"
 nO:gX K CA "flows"
 mA:mg "Answer"=some (.ref CA)
structure vU (CA:Addr) (K:Frag) (H:Hp) (a:Addr) (lv fl:List Q2):Prop where
 e:∃(dx li le fo:Addr) (xs ys:List V),H a=some (.ins CA dx (kH li le fo))/\SqL K H le xs/\Fqs K H xs lv/\SqL K H fo ys/\Fqs K H ys fl
theorem vU.same {K:Frag}(s:aW H H')(h:vU CA K H a lv fl):vU CA K H' a lv fl:=by
 obtain⟨dx,li,le,fo,xs,ys,h1,h2,h3,h4,h5⟩:=h.e;exact⟨dx,li,le,fo,xs,ys,s _ _ h1,s.seq h2,h3.same s,s.seq h4,h5.same s⟩
def xV (CA:Addr)(K:Frag):Sp:=fun vs H Q _=>∃(a:Addr) (lv fl:List Q2),vs=[.ref a]/\vU CA K H a lv fl/\∀l xs H',aW H H'->H l=none->H' l=some (.lst xs)->Fqs K H' xs fl->Q (.ref l) H'
def Mz (lv hs:List Q2)(t:Nat)(d:RD):Q2:=Ly d.1 (flF lv d) (if d.1=.ho then hs.getD t Mq.z0 else (0,1)) d.2.2.2
def tF (lv hs:List Q2):Nat->List RD->List Q2
 |_,[]=>[]
 |t,d :: r=>Mz lv hs t d :: tF lv hs (t+cN d.1) r
theorem yF (lv hs:List Q2)(d:RD):∀(ds:List RD) (t:Nat),tF lv hs t (ds++[d])=tF lv hs t ds++[Mz lv hs (t+cC ds) d]
 | [],t=>rfl
 |e :: r,t=>by
  show _ :: tF lv hs (t+cN e.1) (r++[d])=_ :: (tF lv hs (t+cN e.1) r++_);rw[yF lv hs d r,gY,Nat.add_assoc]
theorem uI (lv hs:List Q2):∀(ds:List RD) (t:Nat),(tF lv hs t ds).length=ds.length
 | [],_=>rfl
 |d :: r,t=>by show (tF lv hs _ r).length+1=r.length+1;rw[uI lv hs r]
def lvS (m:Nat)(sol:List Q2):List Q2:=(0,1) :: sol.take (m - 1)
theorem vD (l:Low p)(hL:1<=L)(LB:Mq.B b L)(ab:Mq.B b a)(h:Mq.val p=(a:Rat) / (L:Rat)):Bd b p/\p.2 ∣ L:=by
 obtain⟨d,t⟩:=Mq.Rz l hL h;refine⟨⟨ab.le t,LB.le ?_⟩,d⟩;have:=Int.le_of_dvd (by assumption) d;have:=l.pos;lia
structure EqB (m b:Nat) (L:Int) (ds:List RD):Prop where
 o:Nof m ds
 w26:wd m ds<=26
 b1:1<=b
 hb:10+b+b*(wd m ds+1)<=8000
 hbw:bw b (wd m ds)<=4000
 L1:1<=L
 LB:Mq.B b L
 eM:∀i j,∃a:Int,Mq.B b a/\eqM m ds (i+1) (j+1)=(a:Rat) / (L:Rat)
def uP (sol:List Q2)(x:Nat):Rat:=if x=0 then 0 else Mq.val (sol.getD (x - 1) Mq.z0)
section
variable {m b N:Nat} {L:Int} {ds:List RD} {X:List (List Q2)} {Y qs ps:List Q2}
theorem EqB.cell (h:EqB m b L ds)(e:Cd m ds N X Y):∀row∈X,(∀p∈row,Bd b p/\p.2 ∣ L/\∃a:Int,Mq.B b a/\Mq.val p=(a:Rat) / (L:Rat))/\row.length=X.length:=fun row hr=>by
 refine⟨fun p hp=>?_,by rw[e.x.w row hr,e.x.h]⟩;obtain⟨i,hi⟩:=getElem?_of_mem hr;obtain⟨j,hj⟩:=getElem?_of_mem hp;have ep:p=kB X i j:=by
  unfold kB;rw[getD_eq_getElem?_getD (l:=X),hi];show p=row.getD j (0,1);rw[getD_eq_getElem?_getD,hj];rfl
 obtain⟨a,ab,ea⟩:=h.eM i j;have ev:Mq.val p=(a:Rat) / (L:Rat):=by rw[ep,e.vx,ea]
 obtain⟨x,y⟩:=vD (e.x.l row hr p hp).1 h.L1 h.LB ab ev;exact⟨x,y,a,ab,ev⟩
theorem EqB.pos (e:Cd m ds N X Y):gF X:=fun row hr p hp=>(e.x.l row hr p hp).1.pos
theorem EqB.wgt (h:EqB m b L ds)(e:Cd m ds N X Y):wgt X≠0:=by
 by_cases c:1<=X.length
 ·exact h.o.wgt_ne e (EqB.pos e) (fun row hr=>(h.cell e row hr).2) c
 ·have:X=[]:=eq_nil_of_length_eq_zero (by lia);subst this;show (1:Rat)≠0;decide
theorem EqB.sol (e:Cd m ds N X Y)(s:qg2 X qs ps)(vq:∀i,i < wd m ds->Mq.val (qs.getD i Mq.z0)=r (i+1)):Sv m ds r (uP ps):=by
 have lX:X.length=wd m ds:=e.x.h;refine⟨if_pos rfl,fun i hi=>?_⟩;rw[<- vq i hi,<- s.sum i (by lia),lX];refine aT fun j _=>?_;unfold uP;rw[if_neg (by lia),Nat.add_sub_cancel,Qp e]
end
theorem Vp (m1:1<=m)(hl:m - 1<=ps.length):(lvS m ps).length=m:=by
 unfold lvS;rw[length_cons,length_take];lia
theorem Ovr.minus (h:Ovr n ps)(low:oW ps)(hp:p∈ps)(hq:q∈ps):Bd (n+1) (Mq.minus p q)/\Bd n p/\Bd n q:=by
 obtain⟨D,D1,bD,al⟩:=h.e;obtain⟨t,bt,et⟩:=al p hp;obtain⟨s,bs,es⟩:=al q hq;have lp:=low p hp;have lq:=low q hq;refine⟨?_,(vD lp D1 bD bt et).1,(vD lq D1 bD bs es).1⟩;refine(vD (Mq.rL lp.pos lq.pos) D1 (bD.mono (by lia)) (bt.sub bs) ?_).1;rw[zM lp.pos lq.pos,et,es,Rat.intCast_sub,Rat.div_def,Rat.div_def,Rat.div_def];grind
structure qo6 (CN:Addr) (K:Frag) (H:Hp) (n l:Addr) (m b:Nat) (kb:Nat->Nat) (L:Int) (ds:List RD):Prop where
 nt:dE CN K H n l (m:Int) ds
 ok:∀i d,ds[i]?=some d->Cp (m:Int) d/\Bd (kb i) d.2.2.2
 m20:m<=20
 h40:ds.length<=40
 cu:kS kb ds.length+30<=8900
 eb:EqB m b L ds
abbrev Hn:=Option (Nat × Nat) × RD
section
variable {m u:Nat} {hs:List Q2} {par:Nat->Nat} {E:List Ent}
theorem Tc:∀{ds:List RD} (k:Nat),(∀d∈ds,∀k,Mq.Fr L M (cM d k x y))->Mq.Fr L (ds.length*M) (eqM k ds x y)
 | [],_,_=>Mq.Fr.zero.mono (Nat.zero_le _)
 |d :: ds,k,q=>by
  rw[length_cons,Nat.succ_mul,Nat.add_comm];exact(q d (by simp) k).add (Tc _ fun x hx=>q x (mem_cons_of_mem _ hx))
theorem Ra:∀{ds:List RD} (k:Nat),(∀d∈ds,∀k,Mq.Fr L M (cR d k x))->Mq.Fr L (ds.length*M) (eqR k ds x)
 | [],_,_=>Mq.Fr.zero.mono (Nat.zero_le _)
 |d :: ds,k,q=>by
  rw[length_cons,Nat.succ_mul,Nat.add_comm];exact(q d (by simp) k).add (Ra _ fun x hx=>q x (mem_cons_of_mem _ hx))
theorem Sz [Decidable c](g:Mq.Fr L M y):Mq.Fr L M (if c then y else 0):=by
 split
 ·exact g
 ·exact Mq.Fr.zero.mono (Nat.zero_le _)
end
theorem Uu:Frs ds↔∀(A B:List RD) (d:RD),iK .ho ds=A++d :: B->¬Cn A d.2.1.toNat d.2.2.1.toNat:=by
 constructor
 ·intro f A B d e;unfold iK at e;obtain⟨l1,l2,rfl,e1,e2⟩:=filter_eq_append_iff.mp e;obtain⟨l3,l4,rfl,no,hd,e4⟩:=filter_eq_cons_iff.mp e2;have:=f (l1++l3) l4 d (by rw[List.append_assoc]) (of_decide_eq_true hd);have es:iK .ho (l1++l3)=A:=by
   unfold iK;rw[filter_append,e1,filter_eq_nil_iff.mpr (fun x hx=>no x hx),append_nil]
  rwa [es] at this
 ·intro f A B d e hd cn;refine f (iK .ho A) (iK .ho B) d ?_ cn;rw[e];unfold iK;rw[filter_append,filter_cons_of_pos (p:=fun d:RD=>decide (d.1=.ho)) (a:=d) (decide_eq_true hd)]
structure StB (K:Frag) (H:Hp) (b:Addr) (ys:List V) (ss:List Q2) (n:Nat):Prop where
 s:SqL K H b ys
 f:Fqs K H ys ss
 l:ss.length=n
 b:∀s∈ss,Low s/\Bd 3900 s
theorem StB.same {K:Frag}{b:Addr}(e:aW H H')(h:StB K H b ys ss n):StB K H' b ys ss n:=⟨e.seq h.s,h.f.same e,h.l,h.b⟩
def Jl (K:Frag)(CK:Kd->Addr):Sp:=fun vs H Q _=>∃(x a:Addr) (d:RD) (z:V) (xs:List V) (hp:List Q2) (n:Nat),vs=[.ref x,.ref a]/\Rw CK H x d.1 (.int d.2.1) (.int d.2.2.1) z/\StB K H a xs hp n/\cX (n:Int) d.2.1 d.2.2.1/\tI H Q (flF hp d)
theorem qc3 (h:Ovr n ps)(low:oW ps)(hn:n<=3900):∀p∈ps,Low p/\Bd 3900 p:=fun p hp=>⟨low p hp,(Ovr.minus h low hp hp).2.1.mono hn⟩
theorem qn0:Bd (n+1) (0,1):=⟨Nat.two_pow_pos _,Nat.one_lt_two_pow (by lia)⟩
abbrev En:=Nat × Q2 × List Stp
structure qo0 (CA:Addr) (K:Frag) (H0 H:Hp) (a:Addr) (lv fl:List Q2):Prop where
 e:∃(dx li le fo:Addr) (xs ys:List V),H a=some (.ins CA dx (kH li le fo))/\H le=some (.lst xs)/\Fqs K H xs lv/\H fo=some (.lst ys)/\Fqs K H ys fl/\∀l o,H0 l=some o->l≠a->le≠l/\fo≠l
section
variable {X:Cx}
theorem zA:OpR X (compareOp .IsNot) (fun x y H Q=>∃i b,x=.int i/\y=.bl b/\Q (.bl true) H):=by
 intro pins s σ H x y v u Q I rx ry h;obtain⟨i,b,rfl,rfl,q⟩:=h;obtain⟨t,rfl⟩:=rx
 cases ry
 unfold compareOp;exact wpAny_pure ⟨.bl true,H,I,rfl,q⟩
end
open PySem.W
theorem Oh {XP:(Str->Option Value)->Heap->Prop}{K:Params->Frag}{run:Value->List Value->Sem Value}(e:∀P,bs=(K P).map (·.1))(h:WalkO q loose XP (fun w h=>(K w.params).In h) r d kwd run):WalkX q loose XP (W.X.obsZ bs) (W.X.valZ K n t) r d kwd run:=
 fun w s₀ s₁ mg mb G y a o pm cd doc dV kV h1 h2 h3 h4 h5 h6 args vals as' L=>h w s₀ s₁ mg mb G (InK.keeps w _ _ (W.X.z_facts e y).2.1 L.keeps) a o pm cd doc dV kV h1 h2 h3 h4 h5 h6 args vals as'
section
variable {K:Frag} {x qual:Str} {st:Stmt} {dV:Value} {f:Addr} {fd:FuncData}
theorem aY.b1 (a:Str)(F:aY K x qual st dV f fd)(h:∀(kV doc pm:Value) (an:Option Addr) (cdv ct u:Value),bindArgs (W.fnOf x qual (eX st) (dR st) (aH st) dV kV doc pm an cdv ct) ⟨[u],[]⟩=pure [(a,u)]):aM K fd [a] []:=
 F.binds fun k d p n c t us hl=>match us,hl with | [_],_=>h k d p n c t _
theorem aY.b2 (a b:Str)(F:aY K x qual st dV f fd)(h:∀(kV doc pm:Value) (an:Option Addr) (cdv ct u v:Value),bindArgs (W.fnOf x qual (eX st) (dR st) (aH st) dV kV doc pm an cdv ct) ⟨[u,v],[]⟩=pure [(a,u),(b,v)]):aM K fd [a,b] []:=
 F.binds fun k d p n c t us hl=>match us,hl with | [_,_],_=>h k d p n c t _ _
theorem aY.b3 (a b c:Str)(F:aY K x qual st dV f fd)(h:∀(kV doc pm:Value) (an:Option Addr) (cdv ct u v w:Value),bindArgs (W.fnOf x qual (eX st) (dR st) (aH st) dV kV doc pm an cdv ct) ⟨[u,v,w],[]⟩=pure [(a,u),(b,v),(c,w)]):aM K fd [a,b,c] []:=
 F.binds fun k d p n c t us hl=>match us,hl with | [_,_,_],_=>h k d p n c t _ _ _
theorem aY.b4 (a b c e:Str)(F:aY K x qual st dV f fd)(h:∀(kV doc pm:Value) (an:Option Addr) (cdv ct u v w z:Value),bindArgs (W.fnOf x qual (eX st) (dR st) (aH st) dV kV doc pm an cdv ct) ⟨[u,v,w,z],[]⟩=pure [(a,u),(b,v),(c,w),(e,z)]):aM K fd [a,b,c,e] []:=
 F.binds fun k d p n c t us hl=>match us,hl with | [_,_,_,_],_=>h k d p n c t _ _ _ _
end
end L2
namespace K36
open PySem L2
variable {CR:Addr}{CK fW fJ fT fS:Kd->Addr}{fdW fdJ fdT fdS:Kd->FuncData}
structure D9 (P:Program)(w:World)(K:Frag)(mg:Str->Option Value)(base:Heap)(j:Nat)(g:Addr)(gd:FuncData)(ps:List Str)(sp:Sp)(nm:Str):Prop where
 G:aK P w K mg base CX0 j g gd ps sp
 b:aM K gd ps []
 k:kI9 K g
 m:mI9 mg nm g
theorem d9 {X:Cx}{f:Addr}{fd:FuncData}{k:Nat}{x:Str}{ps:List Str}{sp:Sp}{e:Expr}{es:List Expr}{t:TA}{p pos:Pos}(D:D9 X.prog X.w X.K X.mg X.base k f fd ps sp x)(hr:gM k X.A)(hg:Gl X x)(ha:PA X (e :: es) t)(hdb:(x == ("__debug__":Str))=false:=by decide)(he:starEach (e :: es) X.env=(false,eval e X.env) :: starEach es X.env:=by rfl)(hpl:(backTo pos (starEach es X.env)).any (·.1)=false:=by rfl):PE X (.Call (.Name x p) (e :: es) [] pos) (qe7 sp [] E0 t):=aI D.G hr hg D.m D.k D.b .nil aR ha hdb he hpl
def top (i:Nat):Stmt:=PySem.Challenge.pw_ohmyard_k36_refused_then_good.main.body.getD i (.Pass ⟨0,0,0,0⟩)
abbrev Hr:Stmt:=top 19
theorem Tm:aQ ["thing"] ["thing"] (aH Hr):=sK9
theorem Qy (F:aY K "is_whole" "is_whole" Hr dV f fd)(b:Bl mg):aK P w K mg base CX 1 f fd ["thing"] (pZ K):=by
 refine F.ok9 Tm fun _ _ _ s H _ Q E hr h=>?_;obtain⟨x,rfl,h⟩:=h;refine⟨_,aF (aV (iV (hJ (i:=0) rfl (Or.inl rfl) b.isi b.int rfl rfl PyProof.Rows.boot_int) (kA (Rm (hJ (i:=0) rfl (Or.inl rfl) b.isi b.bool rfl rfl PyProof.Rows.boot_bool))))),?_⟩;rcases h with ⟨i,rfl,q⟩ | ⟨t,ty,nw,q⟩
 ·exact⟨_,_,_,rfl,.of (.int i),rfl,_,rfl,fH ⟨_,_,false,rfl,.of (.int i),(by with_unfolding_all rfl),_,rfl,q⟩⟩
 ·rcases nw with rfl | rfl | rfl | rfl | rfl
  ·exact⟨_,_,true,rfl,.of ty,(by with_unfolding_all rfl),_,rfl,fH ⟨_,_,_,rfl,.of ty,rfl,_,rfl,q⟩⟩
  all_goals exact⟨_,_,false,rfl,.of ty,(by with_unfolding_all rfl),_,rfl,dC q⟩
abbrev sGc:Stmt:=top 21
theorem Vg:aQ ["one","other","rest"] ["one","other"] (aH sGc):=sK9
theorem qg5 (F:aY K "greatest_common" "greatest_common" sGc dV f fd)(b:Bl mg):aK P w K mg base CX 1 f fd ["one","other"] Gk:=by
 refine F.ok9 Vg fun _ _ _ s H _ Q E hr h=>?_;obtain⟨x,y,rfl,q⟩:=h;refine⟨_,aC (uT PassesOwn.never (bK sZ (pv 1) aE (bO _)) (aC (aS (i:=2) Vg.nd rfl (Or.inl rfl) (aP kW (pv 0) (pv 1)))
  (aC (aS (i:=0) Vg.nd rfl (Or.inl rfl) (pv 1)) (aF (aS (i:=1) Vg.nd rfl (Or.inl rfl) (pv 2))))))
  (aF (aV (bV Ed rfl b.abs PyProof.Rows.boot_abs (aA (pv 0) aD)))),?_⟩
 refine vA (fun σ H'=>H'=H/\∃u v z,σ=[some (.int u),some (.int v),z]/\gc u v=gc x y) (fun σ _=>match σ with | [_,some (.int v),_]=>v.natAbs | _=>0) ⟨rfl,x,y,none,rfl,rfl⟩ ?_ ?_
 ·rintro σ H' ⟨rfl,u,v,z,rfl,e⟩;refine⟨_,rfl,rfl,_,rfl,?_⟩;refine qK (fun c=>?_) (fun c=>?_)
  ·have hv:v≠0:=by intro q;subst q;simp at c
   refine⟨_,rfl,_,rfl,_,_,rfl,rfl,hv,_,rfl,_,rfl,⟨rfl,v,Int.fmod u v,_,rfl,(Ic u v).trans e⟩,yR hv⟩
  ·have hv:v=0:=by
    simp at c;exact c
   subst hv;refine⟨_,rfl,_,rfl,?_⟩;rw[<- Ii,e];exact q
 ·rintro σ H Q Q' m ⟨v,h1,h2,k,h3,h4⟩;exact⟨v,h1,h2,k,h3,m _ _ h4⟩
abbrev Hj:Stmt:=top 27
theorem Ve:aQ ["one","other"] ["one","other"] (aH Hj):=sK9
theorem Ss (F:aY K "under" "under" Hj dV f fd):aK P w K mg base CX 1 f fd ["one","other"] (Jw K):=by
 refine F.ok9 Ve fun _ _ _ s H _ Q E hr h=>?_;obtain⟨a,b,p,q,n,m,rfl,ha,hb,bp,bq,hn,z⟩:=h;refine⟨_,aF (aV (gP Di (aP cP (aU bC (pv 0) aE (fun _ _=>rfl)) (aU bC (pv 1) aE (fun _ _=>rfl))) (aP cP (aU bC (pv 1) aE (fun _ _=>rfl)) (aU bC (pv 0) aE (fun _ _=>rfl))) (bO _))),?_⟩;exact fU rfl ha (cW rfl hb (cQ bp.a bq.b (by lia) (by lia) (fU rfl hb (cW rfl ha (cQ bq.a bp.b (by lia) (by lia) ⟨_,_,rfl,rfl,z⟩)))))
abbrev lK:Stmt:=top 22
theorem Hc:aQ ["top","bottom","shared"] ["top","bottom"] (aH lK):=sK9
theorem Wz (F:aY K "fraction" "fraction" lK dV f fd)(G1:D9 P w K mg base 1 g1 gd1 ["thing"] (pZ K) "is_whole")(G2:D9 P w K mg base 1 g2 gd2 ["one","other"] Gk "greatest_common"):
  aK P w K mg base CX 2 f fd ["top","bottom"] oP:=by
 refine F.ok9 Hc fun _ _ _ s H _ Q E hr h=>?_;obtain⟨t,b,n,rfl,hb,hB,hn,q⟩:=h;refine⟨_,aC (cH (PW.pt (iB (eJ (cO (d9 G1 hr rfl (aA (pv 0) aD)))) (iB (eJ (cO (d9 G1 hr rfl (aA (pv 1) aD)))) (iC (bK fZ (pv 1) aE (bO _)))))) Ml bM)
  (aC (aS (i:=2) Hc.nd rfl (Or.inl rfl) (d9 G2 hr rfl (aA (pv 0) (aA (pv 1) aD))))
  (aC (cH (bK Di (pv 1) aE (bO _)) (aF (aS (i:=2) Hc.nd rfl (Or.inl rfl) (wH oN (pv 2)))) bM)
  (aF (aV (cU (aA (aP iJ (pv 0) (pv 2)) (aA (aP iJ (pv 1) (pv 2)) aD))))))),?_⟩
 have hd:=rH (t:=t) hb;have hdB:Mq.B n (dvr t b):=hB.le (Gc hb);have c0:decide (V.int b=V.int 0)=false:=decide_eq_false (fun z=>hb (by cases z;rfl));refine⟨_,rfl,_,rfl,.inl ⟨t,rfl,_,rfl,dC ⟨_,rfl,_,rfl,.inl ⟨b,rfl,_,rfl,dC ⟨_,rfl,rfl,_,rfl,?_⟩⟩⟩⟩⟩;rw[c0];refine dC ⟨_,rfl,_,rfl,t,b,rfl,?_⟩;refine⟨_,rfl,_,_,rfl,rfl,_,rfl,?_⟩;refine qK (fun c=>?_) (fun c=>?_)
 ·have hlt:b < 0:=of_decide_eq_true c;have e:dvr t b=-gc t b:=by unfold dvr;rw[if_pos hlt]
  rw[e] at hd hdB;have q':tI H Q (t.fdiv (-gc t b),b.fdiv (-gc t b)):=by
   have z:=q;unfold red at z;rw[e] at z;exact z
  refine⟨_,rfl,_,rfl,?_⟩;refine⟨_,rfl,_,rfl,?_⟩;refine hV hd hdB hn ⟨_,rfl,_,rfl,hV hd hdB hn ⟨zl9 2,fun p hp=>?_⟩⟩;exact q' p _ (aG hp _) aB
 ·have hlt:¬b < 0:=fun z=>c (decide_eq_true z);have e:dvr t b=gc t b:=by unfold dvr;rw[if_neg hlt]
  rw[e] at hd hdB;have q':tI H Q (t.fdiv (gc t b),b.fdiv (gc t b)):=by
   have z:=q;unfold red at z;rw[e] at z;exact z
  refine⟨_,rfl,_,rfl,?_⟩;refine hV hd hdB hn ⟨_,rfl,_,rfl,hV hd hdB hn ⟨zl9 2,fun p hp=>?_⟩⟩;exact q' p _ (aG hp _) aB
abbrev Gx:Stmt:=top 24
theorem Wd:aQ ["one","other"] ["one","other"] (aH Gx):=sK9
theorem Qm (F:aY K "minus" "minus" Gx dV f fd)(G1:D9 P w K mg base 2 g1 gd1 ["top","bottom"] oP "fraction"):
  aK P w K mg base CX 3 f fd ["one","other"] (lH K Mq.minus):=by
 refine F.ok9 Wd fun _ _ _ s H _ Q E hr h=>?_;obtain⟨a,b,p,q,n,m,rfl,ha,hb,lp,lq,bp,bq,hn,z⟩:=h;refine⟨_,aF (aV (d9 G1 hr rfl (aA
  (aP gR (aP cP (aU bC (pv 0) aE (fun _ _=>rfl)) (aU bC (pv 1) aE (fun _ _=>rfl))) (aP cP (aU bC (pv 1) aE (fun _ _=>rfl)) (aU bC (pv 0) aE (fun _ _=>rfl))))
  (aA (aP cP (aU bC (pv 0) aE (fun _ _=>rfl)) (aU bC (pv 1) aE (fun _ _=>rfl))) aD)))),?_⟩
 refine fU rfl ha (cW rfl hb (cQ bp.a bq.b (by lia) (by lia) (fU rfl hb (cW rfl ha (cQ bq.a bp.b (by lia) (by lia) ⟨_,_,rfl,rfl,?_⟩)))));refine cW rfl ha (cW rfl hb (cQ bp.b bq.b (by lia) (by lia) ⟨_,_,n+m,rfl,iQ lp lq,bp.b.mul bq.b,by lia,z⟩))
abbrev Sj:Stmt:=top 23
theorem Yh:aQ ["one","other"] ["one","other"] (aH Sj):=sK9
theorem Xe (F:aY K "plus" "plus" Sj dV f fd)(G1:D9 P w K mg base 2 g1 gd1 ["top","bottom"] oP "fraction"):
  aK P w K mg base CX 3 f fd ["one","other"] (lH K lW):=by
 refine F.ok9 Yh fun _ _ _ s H _ Q E hr h=>?_;obtain⟨a,b,p,q,n,m,rfl,ha,hb,lp,lq,bp,bq,hn,z⟩:=h;refine⟨_,aF (aV (d9 G1 hr rfl (aA
  (aP dL (aP cP (aU bC (pv 0) aE (fun _ _=>rfl)) (aU bC (pv 1) aE (fun _ _=>rfl))) (aP cP (aU bC (pv 1) aE (fun _ _=>rfl)) (aU bC (pv 0) aE (fun _ _=>rfl))))
  (aA (aP cP (aU bC (pv 0) aE (fun _ _=>rfl)) (aU bC (pv 1) aE (fun _ _=>rfl))) aD)))),?_⟩
 refine fU rfl ha (cW rfl hb (cQ bp.a bq.b (by lia) (by lia) (fU rfl hb (cW rfl ha (cQ bq.a bp.b (by lia) (by lia) ⟨_,_,rfl,rfl,?_⟩)))));refine cW rfl ha (cW rfl hb (cQ bp.b bq.b (by lia) (by lia) ⟨_,_,n+m,rfl,iQ lp lq,bp.b.mul bq.b,by lia,z⟩))
abbrev Hq:Stmt:=cY (top 39) 0
theorem Tr:aQ ["self","start","goal","size"] ["self","start","goal","size"] (aH Hq):=sK9
theorem Qt (F:aY K "__init__" "Row.__init__" Hq dV f fd)(T:RT K mg CR CK):aK P w K mg base CX 1 f fd ["self","start","goal","size"] (Ka CK):=by
 refine F.ok9 Tr fun _ _ _ s H _ Q E hr h=>?_;obtain⟨x,dx,k,s,g,z,rfl,hx,q⟩:=h;refine⟨_,(aC (lZ (pv 0) (pv 1) rfl) (aC (lZ (pv 0) (pv 2) rfl) (aF (lZ (pv 0) (pv 3) rfl)))),?_⟩;have l1:=fE ("start":Str) s [];have l2:=fE ("goal":Str) g (fD "start" s []);simp only[length_nil] at l1;refine⟨_,rfl,_,rfl,x,CK k,dx,[],rfl,hx,T.cl k,T.nS k,(by show 0 < 1000;decide),?_⟩;refine⟨_,rfl,_,rfl,x,CK k,dx,_,rfl,aB,T.cl k,T.nG k,by lia,?_⟩;refine⟨_,rfl,_,rfl,x,CK k,dx,_,rfl,aB,T.cl k,T.nZ k,by lia,?_⟩;rw[pQ,pQ];exact q
abbrev uL:Stmt:=cY (top 40) 0
theorem Mv:aQ ["self"] ["self"] (aH uL):=sK9
theorem Fx (F:aY K "word" "Piece.word" uL dV f fd):aK P w K mg base CX 1 f fd ["self"] (lV .pc):=by
 refine F.ok9 Mv fun _ _ _ s H _ Q E hr h=>?_;obtain⟨x,rfl,q⟩:=h;exact⟨_,(aF (aV dD)),q⟩
abbrev wU:Stmt:=cY (top 41) 0
theorem Me:aQ ["self"] ["self"] (aH wU):=sK9
theorem Fo (F:aY K "word" "Push.word" wU dV f fd):aK P w K mg base CX 1 f fd ["self"] (lV .pu):=by
 refine F.ok9 Me fun _ _ _ s H _ Q E hr h=>?_;obtain⟨x,rfl,q⟩:=h;exact⟨_,(aF (aV dD)),q⟩
abbrev wK:Stmt:=cY (top 42) 0
theorem Lx:aQ ["self"] ["self"] (aH wK):=sK9
theorem Ge (F:aY K "word" "Hold.word" wK dV f fd):aK P w K mg base CX 1 f fd ["self"] (lV .ho):=by
 refine F.ok9 Lx fun _ _ _ s H _ Q E hr h=>?_;obtain⟨x,rfl,q⟩:=h;exact⟨_,(aF (aV dD)),q⟩
abbrev Hd:Stmt:=cY (top 39) 1
theorem Xg:aQ ["self"] ["self"] (aH Hd):=sK9
theorem Th {dV:Value}(F:aY K "told" "Row.told" Hd dV f fd)(T:RT K mg CR CK)(GW:∀k,aK P w K mg base CX0 1 (fW k) (fdW k) ["self"] (lV k))(bW:∀k,aM K (fdW k) ["self"] [])(mW:∀k,gQ K (CK k) "word" (fW k)):aK P w K mg base CX 2 f fd ["self"] (mZ CK):=by
 refine F.ok9 Xg fun _ _ _ s H _ Q E hr h=>?_;obtain⟨x,k,s,g,z,rfl,⟨dx,hx⟩,q⟩:=h;refine⟨_,(aF (aV (cU (aA (gU (pv 0) T.cl mW GW hr bW .nil aR) (aA (bZ (pv 0) rfl) (aA (bZ (pv 0) rfl) (aA (bZ (pv 0) rfl) aD))))))),?_⟩;refine⟨_,rfl,k,x,dx,_,rfl,hx,(eZ _ _ _ (by decide +kernel) (by decide +kernel) (by decide +kernel)),_,rfl,?_⟩;refine⟨_,rfl,x,CK k,dx,_,_,rfl,hx,T.cl k,T.nS k,dI _ _ _,?_⟩;refine⟨_,rfl,x,CK k,dx,_,_,rfl,hx,T.cl k,T.nG k,eK _ _ _,?_⟩;refine⟨_,rfl,x,CK k,dx,_,_,rfl,hx,T.cl k,T.nZ k,gB _ _ _,?_⟩;exact⟨zl9 4,q⟩
abbrev Gg:Stmt:=top 43
theorem Jd:aQ ["told","word"] ["told"] (aH Gg):=sK9
theorem Nh (F:aY K "row_of" "row_of" Gg dV f fd)(T:RT K mg CR CK)(b:Bl mg)(ms:mg "str"=none)(GI:aK P w K mg base CX0 1 gI gdI ["self","start","goal","size"] (Ka CK))(bI:aM K gdI ["self","start","goal","size"] [])(MK:∀k,Mk K (CK k) gI):aK P w K mg base CX 3 f fd ["told"] (pY K CK):=by
 refine F.ok9 Jd fun _ _ _ s H _ Q E hr h=>?_;obtain⟨t,v,s,g,z,rfl,hT,k,rfl,q⟩:=h;refine⟨_,(aC (aS (i:=1) Jd.nd rfl (Or.inl rfl) (aU bC (pv 0) aE (fun _ _=>rfl)))
  (aC (cH (PW.pt (rC (cO (hJ (i:=1) rfl (Or.inl rfl) b.isi ms rfl rfl PyProof.Rows.boot_str)) (nY (bK fZ (pv 1) dD (bO _))))) (aF (aV (qR (MK .pc) GI hr rfl (T.mK .pc) bI .nil aR (aA (aU bC (pv 0) aE (fun _ _=>rfl)) (aA (aU bC (pv 0) aE (fun _ _=>rfl)) (aA (aU bC (pv 0) aE (fun _ _=>rfl)) aD)))))) bM)
  (aC (cH (PW.pt (rC (cO (hJ (i:=1) rfl (Or.inl rfl) b.isi ms rfl rfl PyProof.Rows.boot_str)) (nY (bK fZ (pv 1) dD (bO _))))) (aF (aV (qR (MK .pu) GI hr rfl (T.mK .pu) bI .nil aR (aA (aU bC (pv 0) aE (fun _ _=>rfl)) (aA (aU bC (pv 0) aE (fun _ _=>rfl)) (aA (aU bC (pv 0) aE (fun _ _=>rfl)) aD)))))) bM)
  (aC (cH (PW.pt (rC (cO (hJ (i:=1) rfl (Or.inl rfl) b.isi ms rfl rfl PyProof.Rows.boot_str)) (nY (bK fZ (pv 1) dD (bO _))))) (aF (aV (qR (MK .ho) GI hr rfl (T.mK .ho) bI .nil aR (aA (aU bC (pv 0) aE (fun _ _=>rfl)) (aA (aU bC (pv 0) aE (fun _ _=>rfl)) (aA (aU bC (pv 0) aE (fun _ _=>rfl)) aD)))))) bM)
  (aF jK))))),?_⟩
 cases k
 ·refine Sc (fun _ _=>False) (fun X _=>?_) (fun _ _ h=>h.elim);refine⟨_,rfl,t,_,0,_,rfl,rfl,hT,rfl,?_⟩;exact⟨_,_,true,rfl,.of (.str _),rfl,_,rfl,fH ⟨_,rfl,rfl,_,rfl,ifT (fM .pc .pc) ⟨_,rfl,t,_,1,s,rfl,rfl,hT,rfl,_,rfl,t,_,2,g,rfl,rfl,hT,rfl,_,rfl,t,_,3,z,rfl,rfl,hT,rfl,fun x dx h1 h2 ne=>⟨x,dx,.pc,s,g,z,rfl,aB,rfl,by rw[pQ];exact q x _ (Rw.new h1 h2 ne) h1 ⟨dx,aB⟩⟩⟩⟩⟩
 ·refine qi2 (fun _ _=>False) (fun X _=>?_) (fun _ _ h=>h.elim);refine⟨_,rfl,t,_,0,_,rfl,rfl,hT,rfl,?_⟩;exact⟨_,_,true,rfl,.of (.str _),rfl,_,rfl,fH ⟨_,rfl,rfl,_,rfl,ifF (fM .pu .pc) (⟨_,_,true,rfl,.of (.str _),rfl,_,rfl,fH ⟨_,rfl,rfl,_,rfl,ifT (fM .pu .pu) ⟨_,rfl,t,_,1,s,rfl,rfl,hT,rfl,_,rfl,t,_,2,g,rfl,rfl,hT,rfl,_,rfl,t,_,3,z,rfl,rfl,hT,rfl,fun x dx h1 h2 ne=>⟨x,dx,.pu,s,g,z,rfl,aB,rfl,by rw[pQ];exact q x _ (Rw.new h1 h2 ne) h1 ⟨dx,aB⟩⟩⟩⟩⟩)⟩⟩
 ·refine qk5 (fun _ _=>False) (fun X _=>?_) (fun _ _ h=>h.elim);refine⟨_,rfl,t,_,0,_,rfl,rfl,hT,rfl,?_⟩;exact⟨_,_,true,rfl,.of (.str _),rfl,_,rfl,fH ⟨_,rfl,rfl,_,rfl,ifF (fM .ho .pc) (⟨_,_,true,rfl,.of (.str _),rfl,_,rfl,fH ⟨_,rfl,rfl,_,rfl,ifF (fM .ho .pu) (⟨_,_,true,rfl,.of (.str _),rfl,_,rfl,fH ⟨_,rfl,rfl,_,rfl,ifT (fM .ho .ho) ⟨_,rfl,t,_,1,s,rfl,rfl,hT,rfl,_,rfl,t,_,2,g,rfl,rfl,hT,rfl,_,rfl,t,_,3,z,rfl,rfl,hT,rfl,fun x dx h1 h2 ne=>⟨x,dx,.ho,s,g,z,rfl,aB,rfl,by rw[pQ];exact q x _ (Rw.new h1 h2 ne) h1 ⟨dx,aB⟩⟩⟩⟩⟩)⟩⟩)⟩⟩
abbrev qb7:Stmt:=top 20
theorem qg9:aQ ["thing"] ["thing"] (aH qb7):=sK9
theorem qc5 (F:aY K "is_fraction" "is_fraction" qb7 dV f fd)(b:Bl mg)(ml:mg "len"=none)(mt:mg "tuple"=none)(G1:D9 P w K mg base 1 g1 gd1 ["thing"] (pZ K) "is_whole")(G2:D9 P w K mg base 1 g2 gd2 ["one","other"] Gk "greatest_common"):
  aK P w K mg base CX 2 f fd ["thing"] (Sh K):=by
 refine F.ok9 qg9 fun _ _ _ s H _ Q E hr h=>?_;obtain⟨v,o,rfl,hz,q⟩:=h;refine⟨_,(aC (cH (PW.pt (iB (eJ (cO (hJ (i:=0) rfl (Or.inl rfl) b.isi mt rfl rfl PyProof.Rows.boot_tuple))) (iC (bK sZ (bV cJ rfl ml PySem.boot_len (aA (pv 0) aD)) aE (bO _))))) (aF (aV gN)) bM)
  (aC (cH (PW.pt (iB (eJ (cO (d9 G1 hr rfl (aA (aU bC (pv 0) aE (fun _ _=>rfl)) aD)))) (iC (eJ (cO (d9 G1 hr rfl (aA (aU bC (pv 0) aE (fun _ _=>rfl)) aD))))))) (aF (aV gN)) bM)
  (aF (aV (iV (gP Ol (aU bC (pv 0) aE (fun _ _=>rfl)) aE (bO _)) (kA (gP fZ (d9 G2 hr rfl (aA (aU bC (pv 0) aE (fun _ _=>rfl)) (aA (aU bC (pv 0) aE (fun _ _=>rfl)) aD))) aE (bO _)))))))),?_⟩
 cases hz with
 |fr fa hp=>
  refine⟨_,_,true,rfl,.tup fa,rfl,_,rfl,dC ⟨_,rfl,_,_,rfl,.inr fa,rfl,_,rfl,dC ?_⟩⟩;refine fU rfl fa ⟨_,rfl,.inl ⟨_,rfl,_,rfl,dC (cW rfl fa ⟨_,rfl,.inl ⟨_,rfl,_,rfl,dC ?_⟩⟩)⟩⟩;have h1:=hp.pos;refine cW rfl fa ⟨_,_,rfl,rfl,_,rfl,ifT (decide_eq_true (by assumption)) (fU rfl fa (cW rfl fa ⟨_,_,rfl,rfl,?_⟩))⟩;rw[hp.one];exact q
 |ty h n=>exact⟨_,_,false,rfl,h,n,_,rfl,fH q⟩
 |len h=>exact⟨_,_,true,rfl,.tup h,rfl,_,rfl,dC ⟨_,rfl,_,_,rfl,.inr h,rfl,_,rfl,fH q⟩⟩
 |n0 h ty n=>
  refine⟨_,_,true,rfl,.tup h,rfl,_,rfl,dC ⟨_,rfl,_,_,rfl,.inr h,rfl,_,rfl,dC ?_⟩⟩;exact⟨_,rfl,_,_,0,_,rfl,rfl,h,rfl,_,rfl,.inr ⟨_,ty,n,_,rfl,fH q⟩⟩
 |n1 h ty n=>
  refine⟨_,_,true,rfl,.tup h,rfl,_,rfl,dC ⟨_,rfl,_,_,rfl,.inr h,rfl,_,rfl,dC ?_⟩⟩;exact⟨_,rfl,_,_,0,_,rfl,rfl,h,rfl,_,rfl,.inl ⟨_,rfl,_,rfl,dC ⟨_,rfl,_,_,1,_,rfl,rfl,h,rfl,_,rfl,.inr ⟨_,ty,n,_,rfl,fH q⟩⟩⟩⟩
 |fb fa c=>
  refine⟨_,_,true,rfl,.tup fa,rfl,_,rfl,dC ⟨_,rfl,_,_,rfl,.inr fa,rfl,_,rfl,dC ?_⟩⟩;refine fU rfl fa ⟨_,rfl,.inl ⟨_,rfl,_,rfl,dC (cW rfl fa ⟨_,rfl,.inl ⟨_,rfl,_,rfl,dC ?_⟩⟩)⟩⟩;rcases c with c | ⟨c,d⟩
  ·exact cW rfl fa ⟨_,_,rfl,rfl,_,rfl,ifF (decide_eq_false (by lia)) q⟩
  ·refine cW rfl fa ⟨_,_,rfl,rfl,_,rfl,ifT (decide_eq_true c) (fU rfl fa (cW rfl fa ⟨_,_,rfl,rfl,?_⟩))⟩;rw[decide_eq_false (fun e=>d (by injection e))];exact q
abbrev sPS:Stmt:=top 45
theorem qp4:aQ ["thing"] ["thing"] (aH sPS):=sK9
theorem ql4 (F:aY K "is_piece_size" "is_piece_size" sPS dV f fd)(fN:∀H,Fq K H aN (0,1))(mNO:mI9 mg "NOUGHT" aN)(G1:D9 P w K mg base 2 g1 gd1 ["thing"] (Rq K) "is_fraction")(G2:D9 P w K mg base 1 g2 gd2 ["one","other"] (Jw K) "under"):
  aK P w K mg base CX 3 f fd ["thing"] (qk3 K):=by
 refine F.ok9 qp4 fun _ _ _ s H _ Q E hr h=>?_;obtain⟨a,p,n,rfl,fa,hp,h0,hb,hn,q⟩:=h;have r1:=hr.mono (by decide:1<=2);refine⟨_,(aF (aV (iV (d9 G1 hr rfl (aA (pv 0) aD)) (kA (d9 G2 r1 rfl (aA (dM (v:=.ref aN) rfl mNO rfl) (aA (pv 0) aD))))))),?_⟩;refine⟨_,rfl,a,p,rfl,fa,hp,_,rfl,fH ⟨_,rfl,aN,a,_,p,1,n,rfl,fN _,fa,⟨show (0:Nat) < 2 ^ 1 by decide,show (1:Nat) < 2 ^ 1 by decide⟩,hb,by lia,?_⟩⟩;rw[decide_eq_true (by lia:(0:Int)*p.2 < p.1*1)];exact q
abbrev sNB:Stmt:=top 50
theorem qn5:aQ ["thing","bound"] ["thing","bound"] (aH sNB):=sK9
abbrev sRS:Stmt:=top 52
theorem qn2:aQ ["word","size"] ["word","size"] (aH sRS):=sK9
theorem qf8 (F:aY K "refuse_size" "refuse_size" sRS dV f fd)(G1:D9 P w K mg base 2 g1 gd1 ["thing"] (Rq K) "is_fraction")(G2:D9 P w K mg base 3 g2 gd2 ["thing"] (qk3 K) "is_piece_size"):
  aK P w K mg base CX 4 f fd ["word","size"] (qj2 K):=by
 refine F.ok9 qn2 fun _ _ _ s H _ Q E hr h=>?_;obtain⟨k,z,p,rfl,fz,hp,h0,hb,q⟩:=h;have r2:=hr.mono (by decide:2<=3);refine⟨_,(aC (cH (eJ (cO (d9 G1 r2 rfl (aA (pv 1) aD)))) (aF jK) bM)
  (aF (cH (PW.pt (rC (bK fZ (pv 0) dD (bO _)) (nY (eJ (cO (d9 G2 hr rfl (aA (pv 1) aD))))))) (aF jK) bM))),?_⟩
 refine⟨_,rfl,z,p,rfl,fz,hp,_,rfl,dC ?_⟩
 cases k
 ·exact⟨_,rfl,rfl,_,rfl,ifT (fM .pc .pc) ⟨_,rfl,z,p,_,rfl,fz,hp,h0 rfl,hb,by decide,_,rfl,dC q⟩⟩
 ·exact⟨_,rfl,rfl,_,rfl,ifF (fM .pu .pc) (dC q)⟩
 ·exact⟨_,rfl,rfl,_,rfl,ifF (fM .ho .pc) (dC q)⟩
theorem xE:(["point","many"]:List Str).Nodup:=by decide +kernel
def qf7 (K:Frag):Sp:=fun vs H Q _=>∃(l:Addr) (i j m:Int),vs=[.ref l,.int m]/\SqL K H l [.int i,.int j]/\0<=i/\i < m/\0<=j/\j < m/\∀H',aW H H'->Q .non H'
abbrev sRP:Stmt:=top 51
theorem ql9:aQ ["some","many"] ["some","many"] (aH sRP):=sK9
abbrev Fp:Stmt:=cY (top 49) 0
theorem Ul:aQ ["self","many"] ["self","many"] (aH Fp):=sK9
theorem Pe (F:aY K "__init__" "Net.__init__" Fp dV f fd)(NTx:NT K mg CN)(mMP:mg "MOST_POINTS"=some (.int 20 tM))(G1:D9 P w K mg base 1 g1 gd1 ["thing"] (pZ K) "is_whole"):aK P w K mg base CX 2 f fd ["self","many"] (Je CN):=by
 refine F.ok9 Ul fun _ _ _ s H _ Q E hr h=>?_;obtain⟨n,dx,m,rfl,hn,h1,h20,q⟩:=h;refine⟨_,(aC (cH (PW.pt (iB (eJ (cO (d9 G1 hr rfl (aA (pv 1) aD)))) (iB (bK Di (pv 1) aE (bO _)) (iC (bK Ej (pv 1) (dM (v:=.int 20) rfl mMP ⟨_,rfl⟩) (bO _)))))) (aF jK) bM)
  (aC (lZ (pv 0) (pv 1) rfl)
  (aF (lZ (pv 0) (dG aD) rfl)))),?_⟩
 refine⟨_,rfl,_,rfl,.inl ⟨m,rfl,_,rfl,dC ⟨_,rfl,_,_,rfl,rfl,_,rfl,ifF (decide_eq_false (by lia)) ⟨_,rfl,_,_,rfl,rfl,_,rfl,ifF (decide_eq_false (by lia)) ?_⟩⟩⟩⟩;refine⟨_,rfl,_,rfl,n,CN,dx,[],rfl,hn,NTx.cl,NTx.nP,(by show 0 < 1000;decide),?_⟩;refine⟨zl9 0,fun l hl=>?_⟩;have nl:n≠l:=fun z=>by subst z;rw[aB] at hl;cases hl
 have hl0:H l=none:=by rw[aL (Ne.symm nl)] at hl;exact hl
 have l1:=fE ("point_count":Str) (.int m) [];simp only[length_nil] at l1;refine⟨_,rfl,n,CN,dx,fD "point_count" (.int m) [],rfl,by rw[aL nl];exact aB,NTx.cl,NTx.nK,by lia,?_⟩;refine q l _ hl0 (fun b o e hb=>?_) aB (by rw[aL (Ne.symm nl)];exact aB);rw[aL hb,aL (aX e hl0),aL hb];exact e
abbrev Rp:Stmt:=cY (top 49) 1
theorem qb1:aQ ["self"] ["self"] (aH Rp):=sK9
theorem Wj (F:aY K "many" "Net.many" Rp dV f fd)(NTx:NT K mg CN):aK P w K mg base CX 1 f fd ["self"] (Ab CN K):=by
 refine F.ok9 qb1 fun _ _ _ s H _ Q E hr h=>?_;obtain⟨n,l,m,ds,rfl,⟨⟨dx,hn⟩,ts,hl,hr'⟩,q⟩:=h;exact⟨_,(aF (aV (bZ (pv 0) rfl))),_,rfl,n,CN,dx,_,_,rfl,hn,NTx.cl,NTx.nP,Dw _ _,q⟩
abbrev Gu:Stmt:=cY (top 49) 6
theorem Uf:aQ ["self"] ["self"] (aH Gu):=sK9
theorem Rr (F:aY K "told" "Net.told" Gu dV f fd)(NTx:NT K mg CN)(mli:mg "list"=none):aK P w K mg base CX 1 f fd ["self"] (Ac CN K):=by
 refine F.ok9 Uf fun _ _ _ s H _ Q E hr h=>?_;obtain⟨n,l,m,ds,rfl,⟨⟨dx,hn⟩,ts,hl,hr'⟩,q⟩:=h;refine⟨_,(aF (aV (iF gW rfl mli PyProof.Rows.boot_list (aA (bZ (pv 0) rfl) aD)))),_,rfl,n,CN,dx,_,_,rfl,hn,NTx.cl,NTx.nK,jH _ _,l,ts,rfl,.inl (SqL.of hl),fun a ha=>?_⟩;have sa:=aG ha (.lst ts);exact q a ts _ sa ha aB (hr'.same sa)
abbrev Yz:Stmt:=cY (top 49) 3
theorem Xt:aQ ["self","row","told"] ["self","row"] (aH Yz):=sK9
theorem Zc {dV:Value}{CN:Addr}(F:aY K "add" "Net.add" Yz dV f fd)(NTx:NT K mg CN){tR:Tok}(mMR:mg "MOST_ROWS"=some (.int 40 tR))(ml:mg "len"=none){gT:Addr}{gdT:FuncData}(T:RT K mg CR CK)(GT:aK P w K mg base CX0 2 gT gdT ["self"] (mZ CK))(bT:aM K gdT ["self"] [])(mT:∀k,gQ K (CK k) "told" gT)(G1:D9 P w K mg base 3 g1 gd1 ["some","many"] (qf7 K) "refuse_points")(G2:D9 P w K mg base 4 g2 gd2 ["word","size"] (qj2 K) "refuse_size"):aK P w K mg base CX 5 f fd ["self","row"] (Od CN K CK):=by
 refine F.ok9 Xt fun _ _ _ s H _ Q E hr h=>?_;obtain⟨n,l,x,z,m,ds,k,i,j,p,rfl,⟨⟨dx,hn⟩,ts,hl,hR⟩,rw,fz,⟨i0,i1,j0,j1,lp,h0,bp⟩,h40,q⟩:=h;have r2:=hr.mono (by decide:2<=4);have r3:=hr.mono (by decide:3<=4);refine⟨_,(aC (aS (i:=2) Xt.nd rfl (Or.inl rfl) (gU (f:=fun _=>gT) (fd:=fun _=>gdT) (sp:=fun _=>mZ CK) (pv 1) T.cl mT (fun _=>GT) r2 (fun _=>bT) .nil aR))
  (aC (bX (d9 G1 r3 rfl (aA (dG (aA (aU bC (pv 2) aE (fun _ _=>rfl)) (aA (aU bC (pv 2) aE (fun _ _=>rfl)) aD))) (aA (bZ (pv 0) rfl) aD))))
  (aC (bX (d9 G2 hr rfl (aA (aU bC (pv 2) aE (fun _ _=>rfl)) (aA (aU bC (pv 2) aE (fun _ _=>rfl)) aD))))
  (aC (cH (bK Ol (bV cJ rfl ml PySem.boot_len (aA (bZ (pv 0) rfl) aD)) (dM (v:=.int 40) rfl mMR ⟨_,rfl⟩) (bO _)) (aF jK) bM)
  (aC (bX (jW PySem.F.plainAttrs_list PySem.F.slot_list_append PySem.F.type_list_append dF (bZ (pv 0) rfl) (aA (pv 2) aD)))
  (aF (aV (aP gR (bV cJ rfl ml PySem.boot_len (aA (bZ (pv 0) rfl) aD)) aE)))))))),?_⟩
 obtain⟨dr,hx⟩:=id rw;have len:=hR.length;refine⟨_,rfl,k,x,dr,_,rfl,hx,(eZ _ _ _ (by decide +kernel) (by decide +kernel) (by decide +kernel)),x,k,_,_,_,rfl,rw,fun t ht=>?_⟩;have st:=aG ht (.tup [.str k.wd,.int i,.int j,.ref z]);have et:SqT K (upd H t (.tup [.str k.wd,.int i,.int j,.ref z])) t [.str k.wd,.int i,.int j,.ref z]:=SqT.of aB;generalize upd H t (.tup [.str k.wd,.int i,.int j,.ref z])=H1a at st et ⊢;have hn1:=st _ _ hn;have hl1:=st _ _ hl;refine⟨_,rfl,t,_,1,_,rfl,rfl,et,rfl,_,rfl,t,_,2,_,rfl,rfl,et,rfl,zl9 2,fun lq hlq=>?_⟩;have sq:=aG hlq (.lst [.int i,.int j]);have eq:upd H1a lq (.lst [.int i,.int j]) lq=some (.lst [.int i,.int j]):=aB;generalize upd H1a lq (.lst [.int i,.int j])=H1b at sq eq ⊢;have hnb:=sq _ _ hn1;refine⟨_,rfl,n,CN,dx,_,_,rfl,hnb,NTx.cl,NTx.nP,Dw _ _,lq,i,j,m,rfl,SqL.of eq,i0,i1,j0,j1,fun H1 sc=>?_⟩;have sqc:=sq.trans sc;have st:=st.trans sqc;have et:=sqc.seqT et;have hn1:=sqc _ _ hn1;have hl1:=sqc _ _ hl1;refine⟨_,rfl,t,_,0,_,rfl,rfl,et,rfl,_,rfl,t,_,3,_,rfl,rfl,et,rfl,k,z,p,rfl,st.fq fz,lp,h0,bp,?_⟩;refine⟨_,rfl,n,CN,dx,_,_,rfl,hn1,NTx.cl,NTx.nK,jH _ _,l,ts,rfl,.inl (SqL.of hl1),_,_,rfl,rfl,_,rfl,ifF (decide_eq_false (by lia)) ?_⟩;refine⟨_,rfl,n,CN,dx,_,_,rfl,hn1,NTx.cl,NTx.nK,jH _ _,.inl ⟨rfl,_,SqL.of hl1⟩,_,rfl,l,ts,.ref t,rfl,rfl,hl1,aZ (by lia),?_⟩;have nn:n≠l:=gL hn1 hl1 (fun z=>by cases z);have hn2:upd H1 l (.lst (ts++[.ref t])) n=some (.ins CN dx (oH m l)):=by rw[aL nn];exact hn1
 have hl2:upd H1 l (.lst (ts++[.ref t])) l=some (.lst (ts++[.ref t])):=aB;refine⟨_,rfl,n,CN,dx,_,_,rfl,hn2,NTx.cl,NTx.nK,jH _ _,l,_,rfl,.inl (SqL.of hl2),_,_,rfl,rfl,?_⟩;show Q (.int (((ts++[V.ref t]).length:Int) - 1)) _;rw[List.length_append,length_singleton,len,show (((ds.length+1:Nat):Int) - 1)=(ds.length:Int) by lia];refine q _ (st.x.write) ⟨⟨dx,hn2⟩,_,hl2,Rts.upd hl1 ((hR.same st).app (.cons et (st.fq fz) .nil))⟩
theorem Wx:(["told"]:List Str).Nodup:=by decide +kernel
abbrev Qg:Stmt:=cY (top 49) 5
theorem Yk:aQ ["self"] ["self"] (aH Qg):=sK9
theorem Tz (F:aY K "rows" "Net.rows" Qg dV f fd)(NTx:NT K mg CN)(G1:D9 P w K mg base 3 g1 gd1 ["told"] (pY K CK) "row_of"):aK P w K mg base CX 4 f fd ["self"] (rV CN K CK):=by
 refine F.ok9 Yk fun _ _ _ s H _ Q E hr h=>?_;obtain⟨n,l,m,ds,rfl,⟨⟨dx,hn⟩,ts,hl,hR⟩,h100,q⟩:=h;refine⟨_,(aF (aV (dQ (nl:=1) (fr:=[]) (Nc:=["told"]) (cl:=[]) rfl ⟨rfl,rfl,by decide +kernel,by decide +kernel,fun x c h=>(by cases h),dU rfl,rfl,fun i n h=>(by simp at h)⟩
    (cZ (bZ (pv 0) rfl)) (fun _ _ _ _ _=>(bH (i:=0) Wx rfl (Or.inl rfl))) (fun _ _ _ _ _=>fL)
    (fun _ _ _ _ _=>(d9 G1 hr rfl (aA (pv 0) aD)))))),?_⟩
 have len:=hR.length;refine⟨_,rfl,n,CN,dx,_,_,rfl,hn,NTx.cl,NTx.nK,jH _ _,l,rfl,⟨_,SqL.of hl⟩,fun D hD=>?_⟩;have sD:=aG hD (.lst []);refine fC (xs:=ts) (fun i zs H'=>aW H H'/\H' D=some (.lst zs)/\iA CK K H' zs (ds.take i)) ⟨sD,aB,.nil⟩ (fun i zs H' h=>h.2.1) (fun i zs H' _ h=>h.1.seq (SqL.of hl)) ?_ ?_
 ·rintro i zs x H1 hx ⟨s1,e1,R1⟩ C hC;have hi:i < ds.length:=by
   have:=(List.getElem?_eq_some_iff.mp hx).1;lia
  obtain⟨⟨k,u,v,p⟩,hd⟩:∃d,ds[i]?=some d:=⟨_,getElem?_eq_getElem hi⟩
  obtain⟨t,z,et,ht,fz⟩:=hR.at hd;have ex:x=.ref t:=by rw[et] at hx;exact(Option.some.inj hx).symm
  subst ex;have lz:=R1.length;rw[length_take] at lz;refine⟨dS.1,dS.2,fH ?_⟩;refine⟨_,rfl,t,_,_,_,_,rfl,s1.seqT ht,k,rfl,fun y H2 s2 ny rw=>?_⟩;have e2:=s2 _ _ e1;refine⟨e2,aZ (by lia),hC _ _ ⟨(s1.trans s2).change hD,aB,?_⟩⟩;rw[take_add_one,hd];exact iA.upd e2 ((R1.same s2).app (.cons rw ((s1.trans s2).fq fz) .nil))
 ·rintro zs H1 ⟨s1,e1,R1⟩;rw[len,take_length] at R1;exact q D zs H1 s1 hD e1 R1
theorem Df (F:aK P w K mg base CX0 2 g gd ["thing"] (Sh K)):aK P w K mg base CX0 2 g gd ["thing"] (Rq K):=
 F.weak fun vs H Q E h=>by
  obtain⟨a,p,rfl,f,l,q⟩:=h;exact⟨_,some p,rfl,.fr f l,q⟩
theorem Wg {f:Str}(h:X.K=K)(he:PE X e ta)(hb:attributeBase e f X.env (eval e X.env)=eval e X.env):PE X (.Attribute e f pos) (ql6 K ta f):=by subst h;exact bZ he hb
abbrev Hw:Stmt:=top 25
theorem Wf:aQ ["one","other"] ["one","other"] (aH Hw):=sK9
theorem Qa (F:aY K "times" "times" Hw dV f fd)(G1:D9 P w K mg base 2 g1 gd1 ["top","bottom"] oP "fraction"):
  aK P w K mg base CX 3 f fd ["one","other"] (lH K sY):=by
 refine F.ok9 Wf fun _ _ _ s H _ Q E hr h=>?_;obtain⟨a,b,p,q,n,m,rfl,ha,hb,lp,lq,bp,bq,hn,z⟩:=h;refine⟨_,aF (aV (d9 G1 hr rfl (aA
  (aP cP (aU bC (pv 0) aE (fun _ _=>rfl)) (aU bC (pv 1) aE (fun _ _=>rfl)))
  (aA (aP cP (aU bC (pv 0) aE (fun _ _=>rfl)) (aU bC (pv 1) aE (fun _ _=>rfl))) aD)))),?_⟩
 refine fU rfl ha (fU rfl hb (cQ bp.a bq.a (by lia) (by lia) ?_));refine cW rfl ha (cW rfl hb (cQ bp.b bq.b (by lia) (by lia) ⟨_,_,n+m,rfl,iQ lp lq,bp.b.mul bq.b,by lia,z⟩))
abbrev Ph:Stmt:=top 26
theorem Zf:aQ ["one","other"] ["one","other"] (aH Ph):=sK9
theorem Uk (F:aY K "over" "over" Ph dV f fd)(G1:D9 P w K mg base 2 g1 gd1 ["top","bottom"] oP "fraction"):
  aK P w K mg base CX 3 f fd ["one","other"] (Hl K):=by
 refine F.ok9 Zf fun _ _ _ s H _ Q E hr h=>?_;obtain⟨a,b,p,q,n,m,rfl,ha,hb,lp,lq,h0,bp,bq,hn,z⟩:=h;refine⟨_,(aC (cH (bK fZ (aU bC (pv 1) aE (fun _ _=>rfl)) aE (bO _)) (aF jK) bM)
  (aF (aV (d9 G1 hr rfl (aA (aP cP (aU bC (pv 0) aE (fun _ _=>rfl)) (aU bC (pv 1) aE (fun _ _=>rfl))) (aA (aP cP (aU bC (pv 0) aE (fun _ _=>rfl)) (aU bC (pv 1) aE (fun _ _=>rfl))) aD)))))),?_⟩
 refine fU rfl hb ⟨rfl,_,rfl,?_⟩;rw[decide_eq_false (fun e=>absurd (show q.1=0 by injection e) (by lia))];refine dC ?_;refine fU rfl ha (cW rfl hb (cQ bp.a bq.b (by lia) (by lia) ?_));exact cW rfl ha (fU rfl hb (cQ bp.b bq.a (by lia) (by lia) ⟨_,_,n+m,rfl,Mq.uF lp (by lia),bp.b.mul bq.a,by lia,z⟩))
abbrev Gw:Stmt:=top 69
theorem Vv:aQ ["line","column","amount"] ["line","column","amount"] (aH Gw):=sK9
theorem Rt (F:aY K "raise_at" "raise_at" Gw dV f fd)(G1:D9 P w K mg base 3 g1 gd1 ["one","other"] (lH K lW) "plus"):
  aK P w K mg base CX 4 f fd ["line","column","amount"] (tO K):=by
 refine F.ok9 Vv fun _ _ _ s H _ Q E hr h=>?_;obtain⟨l,z,j,xs,ps,a,n,m,rfl,hl,hF,hj,p1,bp,fz,a1,ba,hn,q⟩:=h;refine⟨_,(aF (Ah (d9 G1 hr rfl (aA (aU bU (pv 0) (pv 1) (fun _ _=>rfl)) (aA (pv 2) aD))) (zV (pv 0) (pv 1) qT))),?_⟩;have lx:=hF.length;obtain⟨u,eu,fu⟩:=hF.at (Do hj);refine⟨_,rfl,_,rfl,l,xs,_,_,rfl,rfl,SqL.of hl,bY eu,_,rfl,u,z,_,a,n,m,rfl,fu,fz,p1,a1,bp,ba,hn,fun v H1 s1 e1=>?_⟩;exact⟨_,rfl,_,rfl,l,xs,_,j,rfl,rfl,s1 _ _ hl,uC (by lia),q v H1 s1 (Fq.of e1)⟩
abbrev Fm:Stmt:=top 68
theorem Ux:aQ ["matrix","row","column","amount"] ["matrix","row","column","amount"] (aH Fm):=sK9
theorem Pq (F:aY K "enter_stream" "enter_stream" Fm dV f fd)(T:RT K mg CR CK)(fN:∀H,Fq K H aN (0,1))(mNO:mI9 mg "NOUGHT" aN)(G1:aK P w K mg base CX0 4 g1 gd1 ["line","column","amount"] (tO K))(b1:aM K gd1 ["line","column","amount"] [])(k1:kI9 K g1)(m1:mI9 mg "raise_at" g1)(G2:aK P w K mg base CX0 3 g2 gd2 ["one","other"] (lH K Mq.minus))(b2:aM K gd2 ["one","other"] [])(k2:kI9 K g2)(m2:mI9 mg "minus" g2):
  aK P w K mg base CX 5 f fd ["matrix","row","column","amount"] (Ap K CK):=by
 refine F.ok9 Ux fun _ _ _ s H _ Q E hr h=>?_;obtain⟨D,x,z,zz,as,M,⟨k0,u,v,p⟩,w,n,k,c,a,rfl,mx,mb,rw,pt,hc,fz,la,ba,hn,q⟩:=h;have r3:=hr.mono (by decide:3<=4);refine⟨_,(aC (bX (aI G1 hr rfl m1 k1 b1 .nil aR (aA (aU bU (pv 0) (bZ (pv 1) rfl) (fun _ _=>rfl)) (aA (pv 2) (aA (pv 3) aD)))))
  (aF (bX (aI G1 hr rfl m1 k1 b1 .nil aR (aA (aU bU (pv 0) (bZ (pv 1) rfl) (fun _ _=>rfl)) (aA (pv 2) (aA (aI G2 r3 rfl m2 k2 b2 .nil aR (aA (dM (v:=.ref aN) rfl mNO rfl) (aA (pv 3) aD))) aD))))))),?_⟩
 obtain⟨i0,i1,j0,j1⟩:cX (w:Int) u v:=pt;obtain⟨uN,rfl⟩:∃uN:Nat,u=(uN:Int):=⟨u.toNat,by lia⟩
 obtain⟨vN,rfl⟩:∃vN:Nat,v=(vN:Int):=⟨v.toNat,by lia⟩
 have hu':uN < w:=by lia
 have hv':vN < w:=by lia
 obtain⟨ln,bn,_⟩:=mI la ba;obtain⟨dx,hx⟩:=id rw;obtain⟨e1,m1,w1⟩:=mb.row hu';obtain⟨e2,l2,b2⟩:=mb.at hu' hc;have lam:=mx.la;obtain⟨a1,ha1⟩:∃a1,as[uN]?=some a1:=⟨_,getElem?_eq_getElem (by rw[lam,mb.h];exact hu')⟩
 obtain⟨xs,hxs,hF⟩:=mx.r uN a1 _ ha1 e1;have at1:atI (as.map V.ref) (uN:Int)=some (.ref a1):=bY (by rw[getElem?_map,ha1];rfl);refine⟨_,rfl,_,rfl,x,CK _,_,_,_,rfl,hx,T.cl _,T.nS _,dI _ _ _,D,_,_,_,rfl,rfl,SqL.of mx.d,at1,_,rfl,_,rfl,a1,z,c,xs,_,a,n,k,rfl,hxs,hF,by rw[w1];exact hc,l2.pos,b2,fz,la.pos,ba,by lia,fun v1 H1 s1 f1=>?_⟩;obtain⟨mx2,sx2⟩:=mx.set (j:=c) ha1 e1 hxs hF s1 f1;have mb2:=mb.rz hu' hc la ba;generalize upd H1 a1 (.lst (xs.set c (.ref v1)))=H2 at mx2 sx2 ⊢;have mx2:Mx K H2 D as (rz M uN c a):=mx2;have ls:=mx.lsts;have fz2:Fq K H2 z a:=sx2.seqT ls fz;obtain⟨dx2,hx2⟩:=id (sx2.rw ls rw);obtain⟨e3,m3,w3⟩:=mb2.row hv';obtain⟨e4,l4,b4⟩:=mb2.at hv' hc;obtain⟨a2,ha2⟩:∃a2,as[vN]?=some a2:=⟨_,getElem?_eq_getElem (by rw[lam,mb.h];exact hv')⟩
 obtain⟨xs2,hxs2,hF2⟩:=mx2.r vN a2 _ ha2 e3;have at2:atI (as.map V.ref) (vN:Int)=some (.ref a2):=bY (by rw[getElem?_map,ha2];rfl);have b01:Bd 1 (0,1):=⟨show (0:Nat) < 2 ^ 1 by decide,show (1:Nat) < 2 ^ 1 by decide⟩
 refine⟨_,rfl,_,rfl,x,CK _,_,_,_,rfl,hx2,T.cl _,T.nG _,eK _ _ _,D,_,_,_,rfl,rfl,SqL.of mx2.d,at2,_,rfl,_,rfl,aN,z,(0,1),a,1,k,rfl,fN _,fz2,by decide,la.pos,b01,ba,by lia,fun v3 H3 s3 e5=>?_⟩;refine⟨a2,v3,c,xs2,_,_,n+k+1,k+2,rfl,s3 _ _ hxs2,hF2.same s3,by rw[w3];exact hc,l4.pos,b4,Fq.of e5,ln.pos,bn,by lia,fun v4 H4 s4 f4=>?_⟩;obtain⟨mx3,sx3⟩:=(mx2.same s3).set (j:=c) ha2 e3 (s3 _ _ hxs2) (hF2.same s3) s4 f4;exact q _ (sx2.trans (s3.sx.trans sx3)) mx3
abbrev zX:Stmt:=top 65
theorem Cw:aQ ["matrix","row","share"] ["matrix","row"] (aH zX):=sK9
theorem Ll (F:aY K "enter_piece" "enter_piece" zX dV f fd)(T:RT K mg CR CK)(fN:∀H,Fq K H aN (0,1))(mNO:mI9 mg "NOUGHT" aN)(fO:∀H,Fq K H aO (1,1))(mON:mI9 mg "ONE" aO)(G1:D9 P w K mg base 3 g1 gd1 ["one","other"] (Hl K) "over")(G2:D9 P w K mg base 5 g2 gd2 ["matrix","row","column","amount"] (Ap K CK) "enter_stream")(G3:D9 P w K mg base 3 g3 gd3 ["one","other"] (lH K Mq.minus) "minus"):
  aK P w K mg base CX 6 f fd ["matrix","row"] (Dg K CK):=by
 refine F.ok9 Cw fun _ _ _ s H _ Q E hr h=>?_;obtain⟨D,x,zz,as,M,⟨k0,u,v,p⟩,w,n,k,rfl,mx,mb,rw,fp,pt,lp,p0,bp,hn,q⟩:=h;have r3:=hr.mono (by decide:3<=5);refine⟨_,(aC (aS (i:=2) Cw.nd rfl (Or.inl rfl) (d9 G1 r3 rfl (aA (dM (v:=.ref aO) rfl mON rfl) (aA (bZ (pv 1) rfl) aD))))
  (aC (bX (d9 G2 hr rfl (aA (pv 0) (aA (pv 1) (aA (bZ (pv 1) rfl) (aA (pv 2) aD))))))
  (aF (bX (d9 G2 hr rfl (aA (pv 0) (aA (pv 1) (aA (bZ (pv 1) rfl) (aA (d9 G3 r3 rfl (aA (dM (v:=.ref aN) rfl mNO rfl) (aA (pv 2) aD))) aD))))))))),?_⟩
 have lp:Low p:=lp;have p0:0 < p.1:=p0;have bp:Bd k p:=bp;have fp:Fq K H zz p:=fp;obtain⟨i0,i1,j0,j1⟩:cX (w:Int) u v:=pt;obtain⟨uN,rfl⟩:∃uN:Nat,u=(uN:Int):=⟨u.toNat,by lia⟩
 obtain⟨vN,rfl⟩:∃vN:Nat,v=(vN:Int):=⟨v.toNat,by lia⟩
 obtain⟨ls,bs,_⟩:=Em lp p0 bp;obtain⟨ln,bn,_⟩:=mI ls bs;have pt':cX (w:Int) (uN:Int) (vN:Int):=⟨i0,i1,j0,j1⟩
 obtain⟨dx,hx⟩:=id rw;refine⟨_,rfl,x,CK _,_,_,_,rfl,hx,T.cl _,T.nZ _,gB _ _ _,aO,zz,(1,1),p,1,k,rfl,fO _,fp,h11,lp.pos,p0,jG,bp,by lia,fun s' H1 s1 e1=>?_⟩;have fs:Fq K H1 s' (rZ (1,1) p):=Fq.of e1;have rw1:=rw.same s1;obtain⟨dx1,hx1⟩:=id rw1;have mx1:=mx.same s1;refine⟨_,rfl,_,rfl,_,rfl,x,CK _,_,_,_,rfl,hx1,T.cl _,T.nS _,dI _ _ _,_,rfl,D,x,s',_,as,M,(k0,(uN:Int),(vN:Int),p),w,n,k+1,uN,_,rfl,mx1,mb,rw1,pt',by lia,fs,ls,bs,by lia,fun H2 sx2 mx2=>?_⟩;have lst:=mx1.lsts;have fs2:Fq K H2 s' (rZ (1,1) p):=sx2.seqT lst fs;have rw2:=sx2.rw lst rw1;obtain⟨dx2,hx2⟩:=id rw2;obtain⟨mb2,_⟩:=Dy (d:=(k0,(uN:Int),(vN:Int),p)) mb pt' (c:=uN) (by lia) ls bs;have b01:Bd 1 (0,1):=⟨show (0:Nat) < 2 ^ 1 by decide,show (1:Nat) < 2 ^ 1 by decide⟩
 refine⟨_,rfl,_,rfl,_,rfl,x,CK _,_,_,_,rfl,hx2,T.cl _,T.nG _,eK _ _ _,_,rfl,aN,s',(0,1),_,1,k+1,rfl,fN _,fs2,by decide,ls.pos,b01,bs,by lia,fun v3 H3 s3 e3=>?_⟩;refine⟨D,x,v3,_,as,_,(k0,(uN:Int),(vN:Int),p),w,n+2*(k+1)+4,k+3,vN,_,rfl,mx2.same s3,mb2,rw2.same s3,pt',by lia,Fq.of e3,ln,bn,by lia,fun H4 sx4 mx4=>?_⟩;exact q H4 (s1.sx.trans (sx2.trans (s3.sx.trans sx4))) mx4
abbrev Bc:Stmt:=top 66
theorem Sw:aQ ["right","row"] ["right","row"] (aH Bc):=sK9
theorem Ms (F:aY K "enter_push" "enter_push" Bc dV f fd)(T:RT K mg CR CK)(fN:∀H,Fq K H aN (0,1))(mNO:mI9 mg "NOUGHT" aN)(G1:D9 P w K mg base 4 g1 gd1 ["line","column","amount"] (tO K) "raise_at")(G2:D9 P w K mg base 3 g2 gd2 ["one","other"] (lH K Mq.minus) "minus"):
  aK P w K mg base CX 5 f fd ["right","row"] (Ec K CK):=by
 refine F.ok9 Sw fun _ _ _ s H _ Q E hr h=>?_;obtain⟨R,x,zz,ys,rs,⟨k0,u,v,p⟩,w,n,k,rfl,eR,hF,lb,rw,fp,pt,lp,bp,hn,q⟩:=h;have r3:=hr.mono (by decide:3<=4);refine⟨_,(aC (bX (d9 G1 hr rfl (aA (pv 0) (aA (bZ (pv 1) rfl) (aA (d9 G2 r3 rfl (aA (dM (v:=.ref aN) rfl mNO rfl) (aA (bZ (pv 1) rfl) aD))) aD)))))
  (aF (bX (d9 G1 hr rfl (aA (pv 0) (aA (bZ (pv 1) rfl) (aA (bZ (pv 1) rfl) aD))))))),?_⟩
 have lp:Low p:=lp;have bp:Bd k p:=bp;have fp:Fq K H zz p:=fp;obtain⟨i0,i1,j0,j1⟩:cX (w:Int) u v:=pt;obtain⟨uN,rfl⟩:∃uN:Nat,u=(uN:Int):=⟨u.toNat,by lia⟩
 obtain⟨vN,rfl⟩:∃vN:Nat,v=(vN:Int):=⟨v.toNat,by lia⟩
 obtain⟨ln,bn,_⟩:=mI lp bp;obtain⟨dx,hx⟩:=id rw;obtain⟨_,l1,b1⟩:=lb.at (j:=uN) (by lia);have b01:Bd 1 (0,1):=⟨show (0:Nat) < 2 ^ 1 by decide,show (1:Nat) < 2 ^ 1 by decide⟩
 refine⟨_,rfl,_,rfl,x,CK _,_,_,_,rfl,hx,T.cl _,T.nS _,dI _ _ _,_,rfl,x,CK _,_,_,_,rfl,hx,T.cl _,T.nZ _,gB _ _ _,aN,zz,(0,1),p,1,k,rfl,fN _,fp,by decide,lp.pos,b01,bp,by lia,fun v1 H1 s1 e1=>?_⟩;refine⟨R,v1,uN,ys,rs,_,n,k+2,rfl,s1 _ _ eR,hF.same s1,by rw[lb.w];lia,l1.pos,b1,Fq.of e1,ln.pos,bn,by lia,fun v2 H2 s2 f2=>?_⟩;have s12:=s1.trans s2;have eR2:=s12 _ _ eR;have F3:=(Fqs.set f2 uN (hF.same s12)).upd (o:=.lst (ys.set uN (.ref v2))) eR2;have e3:upd H2 R (.lst (ys.set uN (.ref v2))) R=some (.lst (ys.set uN (.ref v2))):=aB;have sx3:SX [R] H (upd H2 R (.lst (ys.set uN (.ref v2)))):=s12.sx.write (by simp);have fp3:Fq K (upd H2 R (.lst (ys.set uN (.ref v2)))) zz p:=SqT.upd (s12.fq fp) eR2;have rw3:=(rw.same s12).upd (o:=.lst (ys.set uN (.ref v2))) eR2;generalize upd H2 R (.lst (ys.set uN (.ref v2)))=H3 at F3 e3 sx3 fp3 rw3 ⊢;have lb3:=lb.rz (j:=uN) (by lia) ln bn;have F3:Fqs K H3 (ys.set uN (.ref v2)) (rzl rs uN (Mq.minus (0,1) p)):=F3;obtain⟨_,l4,b4⟩:=lb3.at (j:=vN) (by lia);obtain⟨dx3,hx3⟩:=id rw3;refine⟨_,rfl,_,rfl,x,CK _,_,_,_,rfl,hx3,T.cl _,T.nG _,eK _ _ _,_,rfl,x,CK _,_,_,_,rfl,hx3,T.cl _,T.nZ _,gB _ _ _,R,zz,vN,_,_,p,n+(k+2)+1,k,rfl,e3,F3,by rw[lb3.w];lia,l4.pos,b4,fp3,lp.pos,bp,by lia,fun v5 H5 s5 f5=>?_⟩;refine q _ _ (sx3.trans (s5.sx.write (by simp))) aB ?_;exact(Fqs.set f5 vN (F3.same s5)).upd (s5 _ _ e3)
abbrev Ax:Stmt:=top 67
theorem Nw:aQ ["matrix","right","row","column"] ["matrix","right","row","column"] (aH Ax):=sK9
theorem Mb (F:aY K "enter_hold" "enter_hold" Ax dV f fd)(T:RT K mg CR CK)(fN:∀H,Fq K H aN (0,1))(mNO:mI9 mg "NOUGHT" aN)(fO:∀H,Fq K H aO (1,1))(mON:mI9 mg "ONE" aO)(G1:aK P w K mg base CX0 5 g1 gd1 ["matrix","row","column","amount"] (Ap K CK))(b1:aM K gd1 ["matrix","row","column","amount"] [])(k1:kI9 K g1)(m1:mI9 mg "enter_stream" g1)(G2:aK P w K mg base CX0 4 g2 gd2 ["line","column","amount"] (tO K))(b2:aM K gd2 ["line","column","amount"] [])(k2:kI9 K g2)(m2:mI9 mg "raise_at" g2)(G3:aK P w K mg base CX0 3 g3 gd3 ["one","other"] (lH K Mq.minus))(b3:aM K gd3 ["one","other"] [])(k3:kI9 K g3)(m3:mI9 mg "minus" g3):
  aK P w K mg base CX 6 f fd ["matrix","right","row","column"] (Cm K CK):=by
 refine F.ok9 Nw fun _ _ _ s H _ Q E hr h=>?_;obtain⟨D,R,x,zz,as,M,ys,rs,⟨k0,u,v,p⟩,w,n,c,rfl,mx,mb,eR,hFR,lr,nRD,nRa,rw,fp,pt,hc,hn,q⟩:=h;have r3:=hr.mono (by decide:3<=5);have r4:=hr.mono (by decide:4<=5);refine⟨_,(aC (bX (aI G1 hr rfl m1 k1 b1 .nil aR (aA (pv 0) (aA (pv 2) (aA (pv 3) (aA (dM (v:=.ref aO) rfl mON rfl) aD))))))
  (aC (bX (aI G2 r4 rfl m2 k2 b2 .nil aR (aA (aU bU (pv 0) (pv 3) (fun _ _=>rfl)) (aA (bZ (pv 2) rfl) (aA (dM (v:=.ref aO) rfl mON rfl) aD)))))
  (aC (bX (aI G2 r4 rfl m2 k2 b2 .nil aR (aA (aU bU (pv 0) (pv 3) (fun _ _=>rfl)) (aA (bZ (pv 2) rfl) (aA (aI G3 r3 rfl m3 k3 b3 .nil aR (aA (dM (v:=.ref aN) rfl mNO rfl) (aA (dM (v:=.ref aO) rfl mON rfl) aD))) aD)))))
  (aF (Ah (bZ (pv 2) rfl) (zV (pv 1) (pv 3) qT)))))),?_⟩
 have fp:Fq K H zz p:=fp;obtain⟨i0,i1,j0,j1⟩:cX (w:Int) u v:=pt;obtain⟨uN,rfl⟩:∃uN:Nat,u=(uN:Int):=⟨u.toNat,by lia⟩
 obtain⟨vN,rfl⟩:∃vN:Nat,v=(vN:Int):=⟨v.toNat,by lia⟩
 have pt':cX (w:Int) (uN:Int) (vN:Int):=⟨i0,i1,j0,j1⟩
 obtain⟨ln,bn,_⟩:=mI jS jG;have lam:=mx.la;refine⟨_,rfl,_,rfl,_,rfl,D,x,aO,_,as,M,(k0,(uN:Int),(vN:Int),p),w,n,1,c,(1,1),rfl,mx,mb,rw,pt',hc,fO _,jS,jG,by lia,fun H1 sx1 mx1=>?_⟩;have lst:=mx.lsts;have rw1:=sx1.rw lst rw;have fp1:Fq K H1 zz p:=sx1.seqT lst fp;have eR1:=sx1 _ _ eR nRa;have FR1:=SX.fqs lst sx1 hFR;obtain⟨mb1,_⟩:=Dy (d:=(k0,(uN:Int),(vN:Int),p)) mb pt' hc jS jG;generalize hM1:en M (k0,(uN:Int),(vN:Int),p) c (1,1)=M1 at mx1 mb1;obtain⟨ac,hac⟩:∃ac,as[c]?=some ac:=⟨_,getElem?_eq_getElem (by rw[lam,mb.h];exact hc)⟩
 have atc:atI (as.map V.ref) (c:Int)=some (.ref ac):=bY (by rw[getElem?_map,hac];rfl);obtain⟨e1,m1,w1⟩:=mb1.row hc;obtain⟨_,l2,b2⟩:=mb1.at hc (j:=uN) (by lia);obtain⟨xs,hxs,hF⟩:=mx1.r c ac _ hac e1;obtain⟨dx1,hx1⟩:=id rw1;refine⟨_,rfl,_,rfl,D,_,_,_,rfl,rfl,SqL.of mx1.d,atc,_,rfl,x,CK _,_,_,_,rfl,hx1,T.cl _,T.nS _,dI _ _ _,ac,aO,uN,xs,_,(1,1),n+2*1+4,1,rfl,hxs,hF,by rw[w1];lia,l2.pos,b2,fO _,h11,jG,by lia,fun v1 H2 s2 f2=>?_⟩;obtain⟨mx3,sx3⟩:=mx1.set (j:=uN) hac e1 hxs hF s2 f2;have lst1:=mx1.lsts;generalize upd H2 ac (.lst (xs.set uN (.ref v1)))=H3 at mx3 sx3 ⊢;have mb3:=mb1.rz hc (j:=uN) (by lia) jS jG;have mx3:Mx K H3 D as (rz M1 c uN (1,1)):=mx3;have rw3:=sx3.rw lst1 rw1;have fp3:Fq K H3 zz p:=sx3.seqT lst1 fp1;have eR3:=sx3 _ _ eR1 nRa;have FR3:=SX.fqs lst1 sx3 FR1;generalize hM3:rz M1 c uN (1,1)=M3 at mx3 mb3;obtain⟨e3,m3,w3⟩:=mb3.row hc;obtain⟨_,l4,b4⟩:=mb3.at hc (j:=vN) (by lia);obtain⟨xs3,hxs3,hF3⟩:=mx3.r c ac _ hac e3;obtain⟨dx3,hx3⟩:=id rw3;refine⟨_,rfl,_,rfl,D,_,_,_,rfl,rfl,SqL.of mx3.d,atc,_,rfl,x,CK _,_,_,_,rfl,hx3,T.cl _,T.nG _,eK _ _ _,aN,aO,(0,1),(1,1),1,1,rfl,fN _,fO _,by decide,h11,⟨show (0:Nat) < 2 ^ 1 by decide,show (1:Nat) < 2 ^ 1 by decide⟩,jG,by decide,fun v4 H4 s4 e4=>?_⟩;refine⟨ac,v4,vN,xs3,_,_,n+2*1+4+1+1,1+2,rfl,s4 _ _ hxs3,hF3.same s4,by rw[w3];lia,l4.pos,b4,Fq.of e4,ln.pos,bn,by lia,fun v5 H5 s5 f5=>?_⟩;obtain⟨mx6,sx6⟩:=(mx3.same s4).set (j:=vN) hac e3 (s4 _ _ hxs3) (hF3.same s4) s5 f5;have sx36:=(aW.sx (as:=as) s4).trans sx6;have lst3:=mx3.lsts;generalize upd H5 ac (.lst (xs3.set vN (.ref v5)))=H6 at mx6 sx6 sx36 ⊢;have mx6:Mx K H6 D as (rz M3 c vN (Mq.minus (0,1) (1,1))):=mx6;have rw6:=sx36.rw lst3 rw3;have fp6:Fq K H6 zz p:=sx36.seqT lst3 fp3;have eR6:=sx36 _ _ eR3 nRa;have FR6:=SX.fqs lst3 sx36 FR3;obtain⟨dx6,hx6⟩:=id rw6;have ly:=FR6.length;refine⟨_,rfl,x,CK _,_,_,_,rfl,hx6,T.cl _,T.nZ _,gB _ _ _,_,rfl,_,rfl,R,ys,_,c,rfl,rfl,eR6,uC (by lia),?_⟩;have eM:hM M (k0,(uN:Int),(vN:Int),p) c=rz M3 c vN (Mq.minus (0,1) (1,1)):=by rw[<- hM3,<- hM1];rfl
 have mx7:=mx6.other (o:=.lst (ys.set c (.ref zz))) eR6 nRD nRa;rw[<- eM] at mx7;refine q _ _ ?_ mx7 aB ((Fqs.set fp6 c FR6).upd eR6);refine SX.write (SX.mono (sx1.trans (sx3.trans sx36)) fun x hx=>mem_cons_of_mem _ hx) (by simp)
section
theorem uQ (f:Fq K H t p):∀n,Fqs K H (replicate n (.ref t)) (replicate n p)
 |0=>.nil
 |n+1=>.cons f (uQ f n)
theorem uK (x:V):∀n,(replicate n [x]).flatten=replicate n x
 |0=>rfl
 |n+1=>by rw[replicate_succ,flatten_cons,uK x n];rfl
theorem yZ (xs:List V)(k:Nat):qW xs (some (k:Int)) none=xs.drop k:=by
 unfold qW;have h1:HT.sIx xs.length xs.length none=xs.length:=rfl;have h2:HT.sIx xs.length 0 (some (k:Int))=min k xs.length:=by simp[HT.sIx];lia
 rw[h1,h2]
 by_cases h:k<=xs.length
 ·rw[Nat.min_eq_left h,take_of_length_le (by simp)]
 ·rw[Nat.min_eq_right (by lia),drop_of_length_le (Nat.le_refl _),drop_of_length_le (by lia)];simp
theorem Kp (xs:List V):qW xs (some 1) none=xs.drop 1:=yZ xs 1
theorem Lo (h:X.K=K):SlR X (qk7 K):=by subst h;exact jV
theorem wL (R:List Q2)(j:Nat):(R.drop 1).getD j (0,1)=R.getD (j+1) (0,1):=by
 rw[getD_eq_getElem?_getD,getElem?_drop,Nat.add_comm 1 j,getD_eq_getElem?_getD]
theorem Md (M:List (List Q2))(i j:Nat):kB ((M.drop 1).map (List.drop 1)) i j=kB M (i+1) (j+1):=by
 have e:((M.drop 1).map (List.drop 1)).getD i []=(M.getD (i+1) []).drop 1:=by
  rw[getD_eq_getElem?_getD,getElem?_map,getElem?_drop,Nat.add_comm 1 i,getD_eq_getElem?_getD]
  cases M[i+1]?<;>rfl
 unfold kB;rw[e,wL]
theorem Oz {w n:Nat}(b:MxB M w w n):MxB ((M.drop 1).map (List.drop 1)) (w - 1) (w - 1) n:=by
 refine⟨by rw[length_map,length_drop,b.h],fun ps hp=>?_,fun ps hp p hp'=>?_⟩
 ·obtain⟨qs,hq,rfl⟩:=mem_map.mp hp;rw[length_drop,b.w _ (mem_of_mem_drop hq)]
 ·obtain⟨qs,hq,rfl⟩:=mem_map.mp hp;exact b.l _ (mem_of_mem_drop hq) _ (mem_of_mem_drop hp')
theorem Pf {w n:Nat}(b:LnB R w n):LnB (R.drop 1) (w - 1) n:=⟨by rw[length_drop,b.w],fun p hp=>b.l p (mem_of_mem_drop hp)⟩
theorem Vr (w:Nat):MxB (replicate w (replicate w (0,1))) w w 1:=by
 refine⟨length_replicate,fun ps hp=>?_,fun ps hp p hp'=>?_⟩
 ·rw[eq_of_mem_replicate hp,length_replicate]
 ·rw[eq_of_mem_replicate hp] at hp';rw[eq_of_mem_replicate hp'];exact⟨⟨by decide,by decide⟩,⟨show (0:Nat) < 2 ^ 1 by decide,show (1:Nat) < 2 ^ 1 by decide⟩⟩
theorem yH (w j:Nat):(replicate w ((0,1):Q2)).getD j (0,1)=(0,1):=by
 rw[getD_eq_getElem?_getD]
 cases e:(replicate w ((0,1):Q2))[j]? with
 |none=>rfl
 |some p=>exact eq_of_mem_replicate (mem_of_getElem? e)
theorem Nx (w i j:Nat):kB (replicate w (replicate w (0,1))) i j=(0,1):=by
 have e:(replicate w (replicate w ((0,1):Q2))).getD i []=[]\/(replicate w (replicate w ((0,1):Q2))).getD i []=replicate w (0,1):=by
  rw[getD_eq_getElem?_getD]
  cases e:(replicate w (replicate w ((0,1):Q2)))[i]? with
  |none=>exact .inl rfl
  |some ps=>exact .inr (eq_of_mem_replicate (mem_of_getElem? e))
 unfold kB;rcases e with e | e
 ·rw[e];rfl
 ·rw[e];exact yH w j
theorem Uy (w:Nat):LnB (replicate w (0,1)) w 1:=⟨length_replicate,fun p hp=>by
 rw[eq_of_mem_replicate hp];exact⟨⟨by decide,by decide⟩,⟨show (0:Nat) < 2 ^ 1 by decide,show (1:Nat) < 2 ^ 1 by decide⟩⟩⟩
theorem Qn (i:Nat):cC (ds.take i)<=cC ds:=by
 have h:cC ds=cC (ds.take i)+cC (ds.drop i):=by
  unfold cC iK;rw[<- List.length_append,<- filter_append,take_append_drop]
 lia
theorem qa6:(["row"]:List Str).Nodup:=by decide +kernel
theorem xA:(["line","width"]:List Str).Nodup:=by decide +kernel
theorem Vd:(["line"]:List Str).Nodup:=by decide +kernel
theorem Fqs.drop1:∀{xs:List V} {ps:List Q2},Fqs K H xs ps->Fqs K H (xs.drop 1) (ps.drop 1)
 |_,_,.nil=>.nil
 |_,_,.cons _ q=>q
abbrev qb3:Stmt:=top 64
theorem qC:aQ ["net","rows","many","width","matrix","right","held","row"] ["net"] (aH qb3):=sK9
theorem Yr (F:aY K "equations" "equations" qb3 dV f fd)(NTx:NT K mg CN)(T:RT K mg CR CK)(ml:mg "len"=none)(mr:mg "range"=none)(fN:∀H,Fq K H aN (0,1))(mNO:mI9 mg "NOUGHT" aN)(GW:∀k,aK P w K mg base CX0 1 (fW k) (fdW k) ["self"] (lV k))(bW:∀k,aM K (fdW k) ["self"] [])(mW:∀k,gQ K (CK k) "word" (fW k))(GRo:aK P w K mg base CX0 4 gRo gdRo ["self"] (rV CN K CK))(bRo:aM K gdRo ["self"] [])(mRo:gQ K CN "rows" gRo)(GMa:aK P w K mg base CX0 1 gMa gdMa ["self"] (Ab CN K))(bMa:aM K gdMa ["self"] [])(mMa:gQ K CN "many" gMa)(G1:D9 P w K mg base 6 g1 gd1 ["matrix","row"] (Dg K CK) "enter_piece")(G2:D9 P w K mg base 5 g2 gd2 ["right","row"] (Ec K CK) "enter_push")(G3:D9 P w K mg base 6 g3 gd3 ["matrix","right","row","column"] (Cm K CK) "enter_hold"):
  aK P w K mg base CX 7 f fd ["net"] (Py CN K):=by
 refine F.ok9 qC fun _ _ _ s H _ Q E hr h=>?_;obtain⟨n,l,m,kb,ds,rfl,nt,hK,hm1,hm20,h40,hbig,q⟩:=h;have r1:=hr.mono (by decide:1<=6);have r4:=hr.mono (by decide:4<=6);have r5:=hr.mono (by decide:5<=6);refine⟨_,(aC (aS (i:=1) qC.nd rfl (Or.inl rfl) (gH (pv 0) NTx.cl mRo GRo r4 bRo .nil aR))
  (aC (aS (i:=2) qC.nd rfl (Or.inl rfl) (gH (pv 0) NTx.cl mMa GMa r1 bMa .nil aR))
  (aC (aS (i:=3) qC.nd rfl (Or.inr rfl) (aP dL (pv 2) (bV cJ rfl ml PySem.boot_len (aA (dQ (nl:=1) (fr:=[]) (Nc:=["row"]) (cl:=[]) rfl ⟨rfl,rfl,by decide +kernel,by decide +kernel,fun x c h=>(by cases h),dU rfl,rfl,fun i n h=>(by simp at h)⟩
    (cZ (pv 1)) (fun _ _ _ _ _=>(bH (i:=0) qa6 rfl (Or.inl rfl))) (fun _ _ _ _ _=>(kX (bK fZ (gU (pv 0) T.cl mW GW r1 bW .nil aR) dD (bO _))))
    (fun _ _ _ _ _=>(pv 0))) aD))))
  (aC (tZ (i:=4) (nl:=1) (fr:=[3]) (Nc:=["line","width"]) (cl:=[("width",s.heap.objs.size+1)]) qC.nd rfl rfl rfl ⟨rfl,rfl,by decide +kernel,by decide +kernel,fun x c h=>h,dU rfl,rfl,fun i n h=>match i,h with | 0,h=>by cases h;exact⟨3,rfl,rfl,rfl,rfl,.inl rfl⟩ | k+1,h=>by rw[show 1+(k+1)=k+2 by lia] at h;cases h⟩
    (fR rfl mr (aA (pv 3) aD)) (fun _ _ _ _ _=>(bH (i:=0) xA rfl (Or.inl rfl))) (fun _ _ _ _ _=>fL)
    (fun _ _ _ _ _=>(aP Nt (dG (aA (dM (v:=.ref aN) rfl mNO rfl) aD)) (pv 1))) rfl)
  (aC (aS (i:=5) qC.nd rfl (Or.inl rfl) (aP Nt (dG (aA (dM (v:=.ref aN) rfl mNO rfl) aD)) (pv 3)))
  (aC (aS (i:=6) qC.nd rfl (Or.inl rfl) (pv 2))
  (aC (fK PassesOwn.never rfl (cZ (pv 1)) (bH (i:=7) qC.nd rfl (Or.inl rfl))
   (aF (cH (bK fZ (gU (pv 7) T.cl mW GW r1 bW .nil aR) dD (bO _)) (aF (bX (d9 G1 hr rfl (aA (pv 4) (aA (pv 7) aD))))) (aF (cH (bK fZ (gU (pv 7) T.cl mW GW r1 bW .nil aR) dD (bO _)) (aF (bX (d9 G2 r5 rfl (aA (pv 5) (aA (pv 7) aD))))) (aC (bX (d9 G3 hr rfl (aA (pv 4) (aA (pv 5) (aA (pv 7) (aA (pv 6) aD))))))
  (aF (Fh (i:=6) qC.nd rfl (Or.inl rfl) aE Ft))))))))
  (aF (aV (cU (aA (dQ (nl:=1) (fr:=[]) (Nc:=["line"]) (cl:=[]) rfl ⟨rfl,rfl,by decide +kernel,by decide +kernel,fun x c h=>(by cases h),dU rfl,rfl,fun i n h=>(by simp at h)⟩
    (cZ (iI jV (pv 4) (jB aE) kR)) (fun _ _ _ _ _=>(bH (i:=0) Vd rfl (Or.inl rfl))) (fun _ _ _ _ _=>fL)
    (fun _ _ _ _ _=>(iI (Lo (K:=K) rfl) (pv 0) (jB aE) kR))) (aA (iI jV (pv 5) (jB aE) kR) aD)))))))))))),?_⟩
 obtain⟨dx,hn⟩:=nt.ob;refine⟨_,rfl,n,dx,_,rfl,hn,fP _ _ (by decide +kernel) (by decide +kernel),n,l,_,ds,rfl,nt,by lia,fun a xs H1 s1 na ea Rb=>?_⟩;have lxs:=Rb.length;obtain⟨dx1,hn1⟩:=(nt.same s1).ob;refine⟨_,rfl,n,dx1,_,rfl,hn1,fP _ _ (by decide +kernel) (by decide +kernel),n,l,_,ds,rfl,nt.same s1,?_⟩;refine⟨_,rfl,_,rfl,a,rfl,⟨_,SqL.of ea⟩,fun C0 hC0=>?_⟩;have sC0:=aG hC0 (.lst []);refine fC (xs:=xs) (fun i zs H'=>aW H1 H'/\H' C0=some (.lst zs)/\zs.length=cC (ds.take i)) ⟨sC0,aB,rfl⟩ (fun i zs H' h=>h.2.1) (fun i zs H' _ h=>h.1.seq (SqL.of ea)) ?_ ?_
 ·rintro i zs x H2 hx ⟨s2,e2,lz⟩ C hC;have hi:i < ds.length:=by
   have:=(List.getElem?_eq_some_iff.mp hx).1;lia
  obtain⟨⟨k0,u,v,p⟩,hd⟩:∃d,ds[i]?=some d:=⟨_,getElem?_eq_getElem hi⟩
  obtain⟨y,z,ey,rw,fz⟩:=Rb.at hd;have ex:x=.ref y:=by rw[ey] at hx;exact(Option.some.inj hx).symm
  subst ex;obtain⟨dr,hy⟩:=id (rw.same s2);have et:ds.take (i+1)=ds.take i++[(k0,u,v,p)]:=by rw[take_add_one,hd];rfl
  have lh:=Qn (ds:=ds) i;have lh2:cC ds<=ds.length:=length_filter_le _ _;refine⟨dS.1,dS.2,?_⟩;refine⟨_,rfl,k0,y,dr,_,rfl,hy,(eZ _ _ _ (by decide +kernel) (by decide +kernel) (by decide +kernel)),_,rfl,rfl,_,rfl,?_⟩
  by_cases hk:k0=.ho
  ·refine ifT (by show decide (V.str k0.wd=V.str Kd.ho.wd)=true;rw[fM];exact decide_eq_true hk) ⟨_,rfl,e2,aZ (by lia),hC _ _ ⟨s2.change hC0,aB,?_⟩⟩;rw[et,iO,List.length_append,lz];show _+1=_+cN k0;unfold cN;rw[if_pos hk]
  ·refine ifF (by show decide (V.str k0.wd=V.str Kd.ho.wd)=false;rw[fM];exact decide_eq_false hk) (hC _ _ ⟨s2,e2,?_⟩);rw[et,iO,lz];show _=_+cN k0;unfold cN;rw[if_neg hk];rfl
 rintro zs0 H2 ⟨s2,e2,lz0⟩;rw[lxs,take_length] at lz0;refine⟨C0,zs0,rfl,.inl (SqL.of e2),_,_,rfl,rfl,?_⟩;obtain⟨W,hW⟩:∃W:Nat,W=m+cC ds:=⟨_,rfl⟩
 have lh2:cC ds<=ds.length:=length_filter_le _ _;have eW:(m:Int)+(zs0.length:Int)=(W:Int):=by rw[lz0,hW];lia
 show gJ _ _ _ [some (.ref n),some (.ref a),some (.int (m:Int)),some (.int ((m:Int)+(zs0.length:Int))),none,none,none,none] H2;rw[eW];have hW60:W<=60:=by lia
 have hmW:m<=W:=by lia
 have s12:=s2;clear e2 sC0;refine⟨_,rfl,(W:Int),rfl,by lia,by lia,fun D hD=>?_⟩;rw[Int.toNat_natCast];have sD:=aG hD (.lst []);refine iH (n:=W) (fun i zs H'=>aW H2 H'/\H' D=some (.lst zs)/\∃as:List Addr,zs=as.map V.ref/\as.length=i/\as.Nodup/\D∉as/\(∀b∈as,H2 b=none)/\∀b∈as,H' b=some (.lst (replicate W (.ref aN)))) ⟨sD,aB,[],rfl,rfl,nodup_nil,(by simp),(fun b hb=>by cases hb),(fun b hb=>by cases hb)⟩ (fun i zs H' h=>h.2.1) ?_ ?_
 ·rintro i zs H3 hi ⟨s3,e3,as,rfl,la,nd,nD,fr,al⟩ C hC;refine⟨dS.1,dS.2,fH ?_⟩;refine⟨zl9 1,fun l1 hl1=>?_⟩;have s4:=aG hl1 (.lst [.ref aN]);have e4:upd H3 l1 (.lst [.ref aN]) l1=some (.lst [.ref aN]):=aB;generalize upd H3 l1 (.lst [.ref aN])=H4 at s4 e4 ⊢;refine⟨_,rfl,l1,(W:Int),[.ref aN],rfl,rfl,e4,by lia,by lia,?_,fun b hb=>?_⟩
  ·rw[Int.toNat_natCast,sizeLine_eq];simp only[length_cons,length_nil];lia
  rw[Int.toNat_natCast,uK];have s5:=aG hb (.lst (replicate W (.ref aN)));have e5:upd H4 b (.lst (replicate W (.ref aN))) b=some (.lst (replicate W (.ref aN))):=aB;generalize upd H4 b (.lst (replicate W (.ref aN)))=H5 at s5 e5 ⊢;have s35:=s4.trans s5;have e35:=s35 _ _ e3;have nbD:b≠D:=Ne.symm (aX (s4 _ _ e3) hb);have nba:b∉as:=fun z=>by rw[s4 _ _ (al b z)] at hb;cases hb
  refine⟨e35,aZ (by rw[length_map];lia),hC _ _ ⟨(s3.trans s35).change hD,aB,as++[b],by rw[map_append];rfl,by rw[List.length_append,la];rfl,?_,?_,fun c hc=>?_,fun c hc=>?_⟩⟩
  ·rw[nodup_append];refine⟨nd,by simp,fun x hx y hy z=>?_⟩;have:y=b:=by simpa using hy
   exact nba (by rw[<- this,<- z];exact hx)
  ·intro z;rcases mem_append.mp z with z | z
   ·exact nD z
   ·have:D=b:=by simpa using z
    exact nbD this.symm
  ·rcases mem_append.mp hc with z | z
   ·exact fr c z
   ·have:c=b:=by simpa using z
    rw[this];exact(s3.trans s4).free hb
  ·rcases mem_append.mp hc with z | z
   ·rw[aL (fun y=>nD (by rw[<- y];exact z))];exact s35 _ _ (al c z)
   ·have:c=b:=by simpa using z
    rw[this,aL nbD];exact e5
 rintro zs3 H3 ⟨s3,e3,as,rfl,la,nd,nD,fr,al⟩;have mx3:Mx K H3 D as (replicate W (replicate W (0,1))):=⟨e3,nd,nD,by rw[la,length_replicate],fun i b ps h1 h2=>by
  rw[eq_of_mem_replicate (mem_of_getElem? h2)];exact⟨_,al b (mem_of_getElem? h1),uQ (fN _) W⟩⟩
 have nDH:H2 D=none:=hD;refine⟨zl9 1,fun l1 hl1=>?_⟩;have s4:=aG hl1 (.lst [.ref aN]);have e4:upd H3 l1 (.lst [.ref aN]) l1=some (.lst [.ref aN]):=aB;generalize upd H3 l1 (.lst [.ref aN])=H4 at s4 e4 ⊢;refine⟨_,rfl,l1,(W:Int),[.ref aN],rfl,rfl,e4,by lia,by lia,?_,fun R hR=>?_⟩
 ·rw[Int.toNat_natCast,sizeLine_eq];simp only[length_cons,length_nil];lia
 rw[Int.toNat_natCast,uK];have s5:=aG hR (.lst (replicate W (.ref aN)));have e5:upd H4 R (.lst (replicate W (.ref aN))) R=some (.lst (replicate W (.ref aN))):=aB;generalize upd H4 R (.lst (replicate W (.ref aN)))=H5 at s5 e5 ⊢;have s25:=s3.trans (s4.trans s5);have nRH:H2 R=none:=(s3.trans s4).free hR;have nRD:R≠D:=Ne.symm (aX ((s4) _ _ mx3.d) hR);have nRa:R∉as:=fun z=>by rw[s4 _ _ (al R z)] at hR;cases hR
 have mx5:=(mx3.same s4).same s5;have allN:∀b∈R :: as,H2 b=none:=fun b hb=>by
  rcases mem_cons.mp hb with z | z
  ·rw[z];exact nRH
  ·exact fr b z
 have F5:Fqs K H5 (replicate W (.ref aN)) (replicate W (0,1)):=uQ (fN _) W;refine⟨_,rfl,?_⟩;have eaH:=s12 _ _ ea;have Rb2:=Rb.same s12;refine⟨_,rfl,a,rfl,⟨_,SqL.of (s25 _ _ eaH)⟩,?_⟩;refine gC (xs:=xs) (fun i σ H'=>aW H2 H'/\∃(M:List (List Q2)) (ys:List V) (rs:List Q2) (z7:Option V),σ=[some (.ref n),some (.ref a),some (.int (m:Int)),some (.int (W:Int)),some (.ref D),some (.ref R),some (.int ((m+cC (ds.take i):Nat):Int)),z7]/\Mx K H' D as M/\MxB M W W (kS kb i+1)/\H' R=some (.lst ys)/\Fqs K H' ys rs/\LnB rs W (kS kb i+1)/\(∀x y,Mq.val (kB M x y)=eqM m (ds.take i) x y)/\∀x,Mq.val (rs.getD x (0,1))=eqR m (ds.take i) x) ⟨s25,_,_,_,none,rfl,mx5,Vr W,e5,F5,Uy W,fun x y=>by rw[Nx,Jr];rfl,fun x=>by rw[yH,Jr];rfl⟩ (fun i σ H' _ h=>h.1.seq (SqL.of eaH)) ?_ ?_
 ·rintro i x σ H6 hx ⟨s6,M,ys,rs,z7,rfl,mx,mb,eR,FR,lb,vM,vR⟩;have hi:i < ds.length:=by
   have:=(List.getElem?_eq_some_iff.mp hx).1;lia
  obtain⟨⟨k0,u,v,p⟩,hd⟩:∃d,ds[i]?=some d:=⟨_,getElem?_eq_getElem hi⟩
  obtain⟨y,z,ey,rw0,fz0⟩:=Rb2.at hd;have ex:x=.ref y:=by rw[ey] at hx;exact(Option.some.inj hx).symm
  subst ex;obtain⟨rd,bp⟩:=hK i _ hd;have lp:Low p:=rd.2.2.2.2.1;have bp:Bd (kb i) p:=bp;have ptm:cX (m:Int) u v:=⟨rd.1,rd.2.1,rd.2.2.1,rd.2.2.2.1⟩
  have ptW:cX (W:Int) u v:=⟨rd.1,by have:=rd.2.1;show u < (W:Int);have h2:u < (m:Int):=this;lia,rd.2.2.1,by have h2:v < (m:Int):=rd.2.2.2.1;show v < (W:Int);lia⟩
  have rw6:=rw0.same s6;have fz6:Fq K H6 z p:=s6.fq fz0;obtain⟨dr,hy⟩:=id rw6;have et:ds.take (i+1)=ds.take i++[(k0,u,v,p)]:=by rw[take_add_one,hd];rfl
  have hh:=Qn (ds:=ds) (i+1);rw[et,iO] at hh;have hh:cC (ds.take i)+cN k0<=cC ds:=hh;have eN:kS kb (i+1)+1=(kS kb i+1)+(4*kb i+20):=by show kS kb i+(4*kb i+20)+1=_;lia
  have leN:kS kb i+(4*kb i+20)<=kS kb ds.length:=zK kb (i:=i+1) hi;have eM:∀x y,eqM m (ds.take (i+1)) x y=eqM m (ds.take i) x y+cM (k0,u,v,p) (m+cC (ds.take i)) x y:=fun x y=>by rw[et,Dc]
  have eRr:∀x,eqR m (ds.take (i+1)) x=eqR m (ds.take i) x+cR (k0,u,v,p) (m+cC (ds.take i)) x:=fun x=>by rw[et,Ee]
  have eH:cC (ds.take (i+1))=cC (ds.take i)+cN k0:=by rw[et,iO]
  rw[eN,eH];have lst:=mx.lsts
  cases k0 with
  |pc=>
   have p0:0 < p.1:=rd.2.2.2.2.2.1 rfl;refine⟨_,rfl,Kd.pc,y,dr,_,rfl,hy,(eZ _ _ _ (by decide +kernel) (by decide +kernel) (by decide +kernel)),_,rfl,rfl,_,rfl,ifT (by show decide (V.str Kd.pc.wd=V.str Kd.pc.wd)=true;rw[fM];rfl) ?_⟩;refine⟨_,rfl,_,rfl,D,y,z,as,M,(.pc,u,v,p),W,kS kb i+1,kb i,rfl,mx,mb,rw6,fz6,ptW,lp,p0,bp,by lia,fun H7 sx7 mx7=>?_⟩;obtain⟨mb7,v7⟩:=qj7 (d:=(.pc,u,v,p)) (h:=m+cC (ds.take i)) mb ptm hmW rfl lp p0 bp;have eR7:=sx7 _ _ eR nRa;refine⟨SX.same s6 sx7 fr,_,ys,rs,_,rfl,mx7,mb7.mono (by lia),eR7,SX.fqs lst sx7 FR,lb.mono (by lia),fun x y=>by rw[v7,vM,eM],fun x=>?_⟩;rw[vR,eRr];show _=_+(0:Rat)
   rw[Rat.add_zero]
  |pu=>
   refine⟨_,rfl,Kd.pu,y,dr,_,rfl,hy,(eZ _ _ _ (by decide +kernel) (by decide +kernel) (by decide +kernel)),_,rfl,rfl,_,rfl,ifF (by show decide (V.str Kd.pu.wd=V.str Kd.pc.wd)=false;rw[fM];rfl) ?_⟩;refine⟨_,rfl,Kd.pu,y,dr,_,rfl,hy,(eZ _ _ _ (by decide +kernel) (by decide +kernel) (by decide +kernel)),_,rfl,rfl,_,rfl,ifT (by show decide (V.str Kd.pu.wd=V.str Kd.pu.wd)=true;rw[fM];rfl) ?_⟩;refine⟨_,rfl,_,rfl,R,y,z,ys,rs,(.pu,u,v,p),W,kS kb i+1,kb i,rfl,eR,FR,lb,rw6,fz6,ptW,lp,bp,by lia,fun ys' H7 sx7 eR7 F7=>?_⟩;obtain⟨lb7,v7⟩:=qh1 (d:=(.pu,u,v,p)) (h:=m+cC (ds.take i)) lb ptm hmW rfl lp bp;have mx7:Mx K H7 D as M:=⟨sx7 _ _ mx.d (by simp;exact Ne.symm nRD),mx.n,mx.nd,mx.la,fun i' b ps h1 h2=>by
    obtain⟨ws,h,f⟩:=mx.r i' b ps h1 h2;refine⟨ws,sx7 _ _ h (by simp;exact fun z=>nRa (by rw[<- z];exact mem_of_getElem? h1)),SX.fqs (as:=[R]) (fun c hc=>?_) sx7 f⟩;have:c=R:=by simpa using hc
    exact⟨ys,by rw[this];exact eR⟩⟩
   refine⟨SX.same s6 sx7 (fun c hc=>by have:c=R:=(by simpa using hc);rw[this];exact nRH),M,ys',_,_,rfl,mx7,mb.mono (by lia),eR7,F7,lb7.mono (by lia),fun x y=>?_,fun x=>by rw[v7,vR,eRr]⟩;rw[vM,eM];show _=_+(0:Rat)
   rw[Rat.add_zero]
  |ho=>
   have hc1:cN Kd.ho=1:=rfl;rw[hc1] at hh;have hcW:m+cC (ds.take i) < W:=by lia
   refine⟨_,rfl,Kd.ho,y,dr,_,rfl,hy,(eZ _ _ _ (by decide +kernel) (by decide +kernel) (by decide +kernel)),_,rfl,rfl,_,rfl,ifF (by show decide (V.str Kd.ho.wd=V.str Kd.pc.wd)=false;rw[fM];rfl) ?_⟩;refine⟨_,rfl,Kd.ho,y,dr,_,rfl,hy,(eZ _ _ _ (by decide +kernel) (by decide +kernel) (by decide +kernel)),_,rfl,rfl,_,rfl,ifF (by show decide (V.str Kd.ho.wd=V.str Kd.pu.wd)=false;rw[fM];rfl) ?_⟩;refine⟨_,rfl,_,rfl,_,rfl,_,rfl,D,R,y,z,as,M,ys,rs,(.ho,u,v,p),W,kS kb i+1,m+cC (ds.take i),rfl,mx,mb,eR,FR,lb.w,nRD,nRa,rw6,fz6,ptW,hcW,by lia,fun ys' H7 sx7 mx7 eR7 F7=>?_⟩;obtain⟨mb7,v7⟩:=qh0 (d:=(.ho,u,v,p)) mb ptm hmW hcW rfl;have z0:Mq.val (rs.getD (m+cC (ds.take i)) (0,1))=0:=by
    rw[vR];exact yJ (m:=m) _ _ _ (fun d hd'=>by
     obtain⟨i1,hi1⟩:=getElem?_of_mem (mem_of_mem_take hd');have:=(hK i1 d hi1).1;exact⟨this.1,this.2.1,this.2.2.1,this.2.2.2.1⟩) (Nat.le_refl _) (Nat.le_refl _)
   obtain⟨lb7,w7⟩:=qj3 (m:=m) (d:=(.ho,u,v,p)) lb hcW rfl lp bp z0;refine⟨_,rfl,_,_,rfl,rfl,?_⟩;refine⟨SX.same s6 sx7 allN,_,ys',_,some (.ref y),?_,mx7,mb7.mono (by lia),eR7,F7,lb7.mono (by lia),fun x y=>by rw[v7,vM,eM],fun x=>by rw[w7,vR,eRr]⟩;have e1:((m+cC (ds.take i):Nat):Int)+1=((m+(cC (ds.take i)+cN Kd.ho):Nat):Int):=by rw[hc1];lia
   rw[<- e1];rfl
 rintro σ H6 ⟨s6,M,ys,rs,z7,rfl,mx,mb,eR,FR,lb,vM,vR⟩;rw[lxs] at mb lb vM vR;rw[take_length] at vM vR;refine⟨_,rfl,1,rfl,D,_,rfl,SqL.of mx.d,fun C hC=>?_⟩;rw[Kp];have s7:=aG hC (.lst ((as.map V.ref).drop 1));have e7:upd H6 C (.lst ((as.map V.ref).drop 1)) C=some (.lst ((as.map V.ref).drop 1)):=aB;generalize upd H6 C (.lst ((as.map V.ref).drop 1))=H7 at s7 e7 ⊢;have mx7:=mx.same s7;refine⟨C,rfl,⟨_,SqL.of e7⟩,fun P hP=>?_⟩;have sP:=aG hP (.lst []);refine fC (xs:=(as.map V.ref).drop 1) (fun i zs H'=>aW H7 H'/\H' P=some (.lst zs)/\Fms K H7 H' zs (((M.drop 1).map (List.drop 1)).take i)/\∀x∈zs,x≠.ref P) ⟨sP,aB,⟨rfl,fun i x ps h=>by simp at h⟩,fun x hx=>by cases hx⟩ (fun i zs H' h=>h.2.1) (fun i zs H' _ h=>h.1.seq (SqL.of e7)) ?_ ?_
 ·rintro i zs x H8 hx ⟨s8,e8,fm,nP⟩ C' hC';rw[getElem?_drop,getElem?_map] at hx;obtain⟨b,hb,rfl⟩:=Option.map_eq_some_iff.mp hx;have bl':=(List.getElem?_eq_some_iff.mp hb).1;have hM1:1+i < M.length:=by rw[<- mx.la];exact bl'
  obtain⟨ws,hws,fws⟩:=(mx7.same s8).r (1+i) b M[1+i] hb (getElem?_eq_getElem hM1);have lz:=fm.l;rw[length_take,length_map,length_drop] at lz;have hM60:M.length<=60:=by rw[mb.h];exact hW60
  refine⟨dS.1,dS.2,fH ?_⟩;refine⟨_,rfl,1,rfl,b,_,rfl,SqL.of hws,fun c hc=>?_⟩;rw[Kp];have s9:=aG hc (.lst (ws.drop 1));have e9:upd H8 c (.lst (ws.drop 1)) c=some (.lst (ws.drop 1)):=aB;generalize upd H8 c (.lst (ws.drop 1))=H9 at s9 e9 ⊢;have e89:=s9 _ _ e8;have ncP:c≠P:=Ne.symm (aX e8 hc);refine⟨e89,aZ (by lia),hC' _ _ ⟨(s8.trans s9).change hP,aB,⟨?_,fun j y ps h1 h2=>?_⟩,fun y hy=>?_⟩⟩
  ·rw[List.length_append,length_take,length_map,length_drop];simp only[length_cons,length_nil];lia
  ·have ee:((M.drop 1).map (List.drop 1))[i]?=some (M[1+i].drop 1):=by rw[getElem?_map,getElem?_drop,getElem?_eq_getElem hM1];rfl
   rw[take_add_one,ee] at h2
   by_cases hj:j < zs.length
   ·rw[getElem?_append_left hj] at h1;rw[getElem?_append_left (by rw[<- fm.l];exact hj)] at h2;obtain⟨a',xs',q1,q2,q3,q4⟩:=fm.r j y ps h1 h2;have na:a'≠P:=fun z=>nP y (mem_of_getElem? h1) (by rw[q1,z]);exact⟨a',xs',q1,q2,by rw[aL na];exact s9 _ _ q3,(q4.same s9).upd e89⟩
   ·rw[getElem?_append_right (by lia)] at h1;rw[getElem?_append_right (by rw[<- fm.l];lia),<- fm.l] at h2;have j0:j - zs.length=0:=by
     have:=(List.getElem?_eq_some_iff.mp h1).1;simp at this;assumption
    rw[j0] at h1 h2;have h1:V.ref c=y:=by simpa using h1
    have h2:M[1+i].drop 1=ps:=by simpa using h2
    subst h1;rw[<- h2];exact⟨c,_,rfl,s8.free hc,by rw[aL ncP];exact e9,((Fqs.drop1 (fws.same s9))).upd e89⟩
  ·rcases mem_append.mp hy with z | z
   ·exact nP y z
   ·have:y=.ref c:=by simpa using z
    rw[this];exact fun z=>ncP (by injection z)
 rintro us H8 ⟨s8,e8,fm,nP⟩;rw[show ((as.map V.ref).drop 1).length=((M.drop 1).map (List.drop 1)).length by rw[length_drop,length_map,length_map,length_drop,mx.la],take_length] at fm;have s78:=s7.trans s8;have eR8:=s78 _ _ eR;refine⟨_,rfl,1,rfl,R,_,rfl,SqL.of eR8,fun r hr'=>?_⟩;rw[Kp];have s9:=aG hr' (.lst (ys.drop 1));have e9:upd H8 r (.lst (ys.drop 1)) r=some (.lst (ys.drop 1)):=aB;generalize upd H8 r (.lst (ys.drop 1))=H9 at s9 e9 ⊢;refine⟨zl9 2,fun t ht=>?_⟩;have sT:=aG ht (.tup [.ref P,.ref r]);have s9T:=s9.trans sT;have s0:aW H (upd H9 t (.tup [.ref P,.ref r])):=s1.trans (s12.trans (s6.trans (s78.trans s9T)));have s07:aW H H7:=s1.trans (s12.trans (s6.trans s7));have fl:∀c,H7 c=none->H c=none:=fun c h=>s07.free h;refine q t P r us (ys.drop 1) ((M.drop 1).map (List.drop 1)) (rs.drop 1) _ s0 aB (fl P hP) ((s07.trans s8).free hr') (s9T _ _ e8) (sT _ _ e9) ⟨fm.l,fun i x ps h1 h2=>?_⟩ (Fqs.drop1 (FR.same (s78.trans s9T))) (fun x hx=>⟨nP x hx,?_⟩) ⟨?_,?_,?_,?_⟩
 ·obtain⟨a',xs',q1,q2,q3,q4⟩:=fm.r i x ps h1 h2;exact⟨a',xs',q1,fl a' q2,s9T _ _ q3,q4.same s9T⟩
 ·intro z;obtain⟨i,hi⟩:=getElem?_of_mem hx;have il:i < ((M.drop 1).map (List.drop 1)).length:=by rw[<- fm.l];exact(List.getElem?_eq_some_iff.mp hi).1
  obtain⟨a',xs',q1,q2,q3,q4⟩:=fm.r i x _ hi (getElem?_eq_getElem il);rw[q1] at z;have:a'=r:=by injection z
  rw[<- this,q3] at hr'
  cases hr'
 ·have:=Oz mb
  rwa [show W - 1=m - 1+cC ds by lia] at this
 ·have:=Pf lb
  rwa [show W - 1=m - 1+cC ds by lia] at this
 ·intro i j;rw[Md];exact vM _ _
 ·intro i;rw[wL];exact vR _
theorem jT {ec:List (Str × Addr)}:∀(x:Str) (c:Addr),([]:List (Str × Addr)).lookup x=some c->ec.lookup x=some c:=fun _ _ h=>by cases h
theorem dA {ec cl:List (Str × Addr)}(h:ec.lookup a=some d)(r:∀x c,cl.lookup x=some c->ec.lookup x=some c):∀x c,((a,d) :: cl).lookup x=some c->ec.lookup x=some c:=fun x c e=>by
 rw[lookup_cons] at e
 cases q:x == a with
 |true=>rw[q] at e;rw[eq_of_beq q,h];exact e
 |false=>rw[q] at e;exact r x c e
theorem nV (h:X.K=K):IxR X (Uc K):=by subst h;exact bC
theorem kP (h:X.K=K):IxR X (qk8 K):=by subst h;exact bU
abbrev Gd:Stmt:=top 36
theorem tY:aQ ["rows","numbers","point","steps","number","row"] ["rows","numbers","point"] (aH Gd):=sK9
theorem Oo (F:aY K "steps_from" "steps_from" Gd dV f fd)(T:RT K mg CR CK):
  aK P w K mg base CX 1 f fd ["rows","numbers","point"] (Jf K CK):=by
 refine F.ok9 tY fun _ _ _ s H _ Q E hr h=>?_;obtain⟨a,b,xs,ds,es,p,rfl,hA,Rb,hB,hE,h100,q⟩:=h;refine⟨_,(aC (aS (i:=3) tY.nd rfl (Or.inl rfl) (dG aD))
  (aC (fK PassesOwn.never rfl (cZ (pv 1)) (bH (i:=4) tY.nd rfl (Or.inl rfl))
   (aC (aS (i:=5) tY.nd rfl (Or.inl rfl) (aU bU (pv 0) (pv 4) (fun _ _=>rfl)))
  (aF (cH (bK fZ (bZ (pv 5) rfl) (pv 2) (bO _)) (aF (bX (jW PySem.F.plainAttrs_list PySem.F.slot_list_append PySem.F.type_list_append dF (pv 3) (aA (cU (aA (cU (aA (pv 4) (aA aE aD))) (aA (bZ (pv 5) rfl) aD))) aD)))) (aF (cH (bK fZ (bZ (pv 5) rfl) (pv 2) (bO _)) (aF (bX (jW PySem.F.plainAttrs_list PySem.F.slot_list_append PySem.F.type_list_append dF (pv 3) (aA (cU (aA (cU (aA (pv 4) (aA (wH oN aE) aD))) (aA (bZ (pv 5) rfl) aD))) aD)))) bM))))))
  (aF (aV (pv 3))))),?_⟩
 refine⟨zl9 0,fun l hl=>?_⟩;have s1:=aG hl (.lst []);have e1:upd H l (.lst []) l=some (.lst []):=aB;generalize upd H l (.lst [])=H1 at s1 e1 ⊢;refine⟨_,rfl,b,rfl,⟨_,s1.seq hB⟩,?_⟩;refine gC (xs:=es.map fun (e:Br)=>V.int ((e.1:Nat):Int)) (fun i σ H'=>aW H H'/\∃(ys:List V) (z4 z5:Option V),σ=[some (.ref a),some (.ref b),some (.int (p:Int)),some (.ref l),z4,z5]/\H' l=some (.lst ys)/\Sds K H' ys (stF (es.take i) p)) ⟨s1,[],none,none,rfl,e1,.nil⟩ (fun i σ H' _ h=>h.1.seq hB) ?_ ?_
 ·rintro i x σ H2 hx ⟨s2,ys,z4,z5,rfl,e2,S2⟩;rw[getElem?_map] at hx;obtain⟨e,he,rfl⟩:=Option.map_eq_some_iff.mp hx;have hi:i < es.length:=(List.getElem?_eq_some_iff.mp he).1;obtain⟨⟨k,u,v,q'⟩,hd,eu,ev⟩:=hE e (mem_of_getElem? he);have eu:u=(e.2.1:Int):=eu;have ev:v=(e.2.2:Int):=ev;subst eu;subst ev;obtain⟨y,z,ey,rw0,fz⟩:=Rb.at hd;have rw2:=rw0.same s2;obtain⟨dx,hx2⟩:=id rw2;have at_:atI xs (e.1:Int)=some (.ref y):=bY ey;have ly:ys.length<=es.length:=by
   have h1:=S2.length;have h2:(stF (es.take i) p).length<=(es.take i).length:=length_filterMap_le _ _;rw[length_take] at h2;lia
  refine⟨_,rfl,_,rfl,a,xs,_,_,rfl,rfl,s2.seq hA,at_,?_⟩;refine⟨_,rfl,y,CK _,_,_,_,rfl,hx2,T.cl _,T.nS _,dI _ _ _,_,rfl,rfl,_,rfl,?_⟩
  by_cases c1:e.2.1=p
  ·have tk:stF (es.take (i+1)) p=stF (es.take i) p++[((e.1,1),e.2.2)]:=by
    unfold stF;rw[take_add_one,he,filterMap_append];show _++[e].filterMap _=_;rw[filterMap_cons,if_pos c1];rfl
   refine ifT (decide_eq_true (by rw[c1])) ?_;refine⟨_,rfl,.inl ⟨rfl,_,SqL.of e2⟩,_,rfl,zl9 2,fun u hu'=>?_⟩;have su:=aG hu' (.tup [.int (e.1:Int),.int (1)]);have eu:SqT K (upd H2 u (.tup [.int (e.1:Int),.int (1)])) u [.int (e.1:Int),.int (1)]:=SqT.of aB;generalize upd H2 u (.tup [.int (e.1:Int),.int (1)])=H3 at su eu ⊢;obtain⟨dx3,hx3⟩:=id (rw2.same su);refine⟨_,rfl,y,CK _,_,_,_,rfl,hx3,T.cl _,T.nG _,eK _ _ _,zl9 2,fun t ht=>?_⟩;rw[show (k,(e.2.1:Int),(e.2.2:Int),q').2.2.1=(e.2.2:Int) from rfl];have st:=aG ht (.tup [.ref u,.int (e.2.2:Int)]);have et:SqT K (upd H3 t (.tup [.ref u,.int (e.2.2:Int)])) t [.ref u,.int (e.2.2:Int)]:=SqT.of aB;generalize upd H3 t (.tup [.ref u,.int (e.2.2:Int)])=H4 at st et ⊢;have s24:=su.trans st;have e4:=s24 _ _ e2;refine⟨l,_,_,rfl,rfl,e4,aZ (by lia),⟨(s2.trans s24).change hl,_,_,_,rfl,aB,?_⟩⟩;rw[tk];exact Sds.upd e4 ((S2.same s24).app (.cons et (st.seqT eu) .nil))
  ·refine ifF (decide_eq_false (fun z=>c1 (by have:(e.2.1:Int)=(p:Int):=(by injection z);lia))) ?_;refine⟨_,rfl,y,CK _,_,_,_,rfl,hx2,T.cl _,T.nG _,eK _ _ _,_,rfl,rfl,_,rfl,?_⟩
   by_cases c2:e.2.2=p
   ·have tk:stF (es.take (i+1)) p=stF (es.take i) p++[((e.1,-1),e.2.1)]:=by
     unfold stF;rw[take_add_one,he,filterMap_append];show _++[e].filterMap _=_;rw[filterMap_cons,if_neg c1,if_pos c2];rfl
    refine ifT (decide_eq_true (by rw[c2])) ?_;refine⟨_,rfl,.inl ⟨rfl,_,SqL.of e2⟩,_,rfl,_,rfl,zl9 2,fun u hu'=>?_⟩;have su:=aG hu' (.tup [.int (e.1:Int),.int (-1)]);have eu:SqT K (upd H2 u (.tup [.int (e.1:Int),.int (-1)])) u [.int (e.1:Int),.int (-1)]:=SqT.of aB;generalize upd H2 u (.tup [.int (e.1:Int),.int (-1)])=H3 at su eu ⊢;obtain⟨dx3,hx3⟩:=id (rw2.same su);refine⟨_,rfl,y,CK _,_,_,_,rfl,hx3,T.cl _,T.nS _,dI _ _ _,zl9 2,fun t ht=>?_⟩;rw[show (k,(e.2.1:Int),(e.2.2:Int),q').2.1=(e.2.1:Int) from rfl];have st:=aG ht (.tup [.ref u,.int (e.2.1:Int)]);have et:SqT K (upd H3 t (.tup [.ref u,.int (e.2.1:Int)])) t [.ref u,.int (e.2.1:Int)]:=SqT.of aB;generalize upd H3 t (.tup [.ref u,.int (e.2.1:Int)])=H4 at st et ⊢;have s24:=su.trans st;have e4:=s24 _ _ e2;refine⟨l,_,_,rfl,rfl,e4,aZ (by lia),⟨(s2.trans s24).change hl,_,_,_,rfl,aB,?_⟩⟩;rw[tk];exact Sds.upd e4 ((S2.same s24).app (.cons et (st.seqT eu) .nil))
   ·have tk:stF (es.take (i+1)) p=stF (es.take i) p:=by
     unfold stF;rw[take_add_one,he,filterMap_append];show _++[e].filterMap _=_;rw[filterMap_cons,if_neg c1,if_neg c2];simp
    refine ifF (decide_eq_false (fun z=>c2 (by have:(e.2.2:Int)=(p:Int):=(by injection z);lia))) ⟨s2,ys,_,_,rfl,e2,?_⟩;rw[tk];exact S2
 rintro σ H2 ⟨s2,ys,z4,z5,rfl,e2,S2⟩;rw[length_map,take_length] at S2;exact⟨_,rfl,q l ys H2 s2 hl e2 S2⟩
theorem qb0 (hm:Ptm m es)(hb:b < m)(h20:m<=20){w:WS}(nd:(cB w).Nodup)(pt:∀x st,(x,st)∈w->∃pts,Pt es b st x pts/\∀y∈pts,y∈cB w)(p:Pt es b st x pts)(k:∀y∈pts,y∈cB w):st.length<=20:=by
 have l:pts.length=st.length+1:=by
  induction p with
  |nil=>rfl
  |snoc h g n ih=>rw[List.length_append,List.length_append,ih fun y hy=>k y (mem_append_left _ hy)];rfl
 have nd':pts.Nodup:=by
  clear k l
  induction p with
  |nil=>simp
  |snoc h g n ih=>
   rw[nodup_append];refine⟨ih,by simp,fun x hx y hy z=>n ?_⟩;rw[mem_singleton] at hy;rw[<- hy,<- z];exact hx
 have:=zG nd' fun y hy=>Bz hm hb pt y (k y hy);lia
theorem Ys {T:List (Stp × Nat)}(hm:Ptm m es)(hb:b < m)(h20:m<=20)(h:WJ es b p [] s)(g:∀t∈T,qO es t.1 p t.2):((T.take j).foldl (inF p) s).2.length<=muF s:=by
 have:=Ba hm hb h20 (T.take j) [] h fun t ht=>g t (mem_of_mem_take ht);unfold muF at this ⊢;lia
def muW (σ:St)(H:Hp):Nat:=match σ with
 | [_,_,_,_,some (.ref D),some (.ref W),_,_]=>match H D,H W with
  |some (.dK kvs),some (.lst q)=>2*(20 - kvs.length)+q.length
  |_,_=>0
 |_=>0
theorem Qq {a b c d e f:Option V}(h:H D=some (.dK kvs))(g:H W=some (.lst q)):muW [a,b,c,d,some (.ref D),some (.ref W),e,f] H=2*(20 - kvs.length)+q.length:=by
 show (match H D,H W with | some (.dK kvs),some (.lst q)=>2*(20 - kvs.length)+q.length | _,_=>0)=_;rw[h,g]
theorem Sn (h:q≠[]):(q.map fun (p:Nat)=>V.int (p:Int))[((q.map fun (p:Nat)=>V.int (p:Int))).length - 1]?=some (.int ((q.getLastD 0:Nat):Int))/\(q.map fun (p:Nat)=>V.int (p:Int)).dropLast=(q.dropLast.map fun (p:Nat)=>V.int (p:Int)):=by
 obtain⟨_,e⟩:=Kb h;generalize q.getLastD 0=x at e;generalize q.dropLast=r at e;subst e;rw[map_append];simp
abbrev qc9:Stmt:=top 35
theorem Dl:aQ ["rows","numbers","begin","end","ways","waiting","point","step"] ["rows","numbers","begin","end"] (aH qc9):=sK9
theorem Zj (F:aY K "way_along" "way_along" qc9 dV f fd)(ml:mg "len"=none)(G1:D9 P w K mg base 1 g1 gd1 ["rows","numbers","point"] (Jf K CK) "steps_from"):
  aK P w K mg base CX 2 f fd ["rows","numbers","begin","end"] (Yd K CK):=by
 refine F.ok9 Dl fun _ _ _ s H _ Q E hr h=>?_;obtain⟨a,b,xs,ds,es,m,f,t,rfl,hA,Rb,hB,hE,h100,hm,h20,hf,qN,qS⟩:=h;refine⟨_,(aC (aS (i:=4) Dl.nd rfl (Or.inl rfl) (Ju (mL (pv 2) (dG aD) Jz) rfl rfl (by simp) (by decide)))
  (aC (aS (i:=5) Dl.nd rfl (Or.inl rfl) (dG (aA (pv 2) aD)))
  (aC (uT PassesOwn.never (bK Ej (bV cJ rfl ml PySem.boot_len (aA (pv 5) aD)) aE (bO _))
   (aC (aS (i:=6) Dl.nd rfl (Or.inl rfl) (qe3 PySem.F.plainAttrs_list PySem.F.slot_list_pop PySem.F.type_list_pop qd4 (pv 5)))
   (aF (fK PassesOwn.never rfl (cZ (d9 G1 hr rfl (aA (pv 0) (aA (pv 1) (aA (pv 6) aD))))) (bH (i:=7) Dl.nd rfl (Or.inl rfl))
    (aF (cH (sM (Mh (pH hr) (aU bC (pv 7) aE (fun _ _=>rfl)) (pv 4)))
     (aC (zZ (pH hr) (pv 4) (aU bC (pv 7) aE (fun _ _=>rfl)) (aP oV (qA (pH hr) (pv 4) (pv 6) (fun _ _=>rfl)) (dG (aA (aU bC (pv 7) aE (fun _ _=>rfl)) aD))) rfl)
     (aF (bX (jW PySem.F.plainAttrs_list PySem.F.slot_list_append PySem.F.type_list_append dF (pv 5) (aA (aU bC (pv 7) aE (fun _ _=>rfl)) aD)))))
     bM))))))
  (aF (aV (Nq (pH hr) (pv 4) (pv 3) ⟨rfl,rfl,rfl,rfl⟩)))))),?_⟩
 refine fun D hD=>?_;have sD:=aG hD (.dK []);have eD:upd H D (.dK []) D=some (.dK []):=aB;generalize upd H D (.dK [])=H1 at sD eD ⊢;refine⟨_,rfl,zl9 0,fun L hL=>?_⟩;have nLD:L≠D:=Ne.symm (aX eD hL);have nL:H L=none:=sD.free hL;have sL:=aG hL (.lst []);have eL:upd H1 L (.lst []) L=some (.lst []):=aB;generalize upd H1 L (.lst [])=H2 at sL eL ⊢;refine⟨sL _ _ eD,[((Sum.inl (f:Int):Key),V.ref L)],rfl,by show 1<=15;decide,?_⟩;have s3:aW H (upd H2 D (.dK (kE [] [((Sum.inl (f:Int):Key),V.ref L)]))):=(sD.trans sL).change hD;have e3:upd H2 D (.dK (kE [] [((Sum.inl (f:Int):Key),V.ref L)])) D=some (.dK [((Sum.inl (f:Int):Key),V.ref L)]):=aB;have eL3:upd H2 D (.dK (kE [] [((Sum.inl (f:Int):Key),V.ref L)])) L=some (.lst []):=by rw[aL nLD];exact eL
 generalize upd H2 D (.dK (kE [] [((Sum.inl (f:Int):Key),V.ref L)]))=H3 at s3 e3 eL3 ⊢;refine⟨_,rfl,zl9 1,fun W hW=>?_⟩;have nLW:L≠W:=aX eL3 hW;have nDW:D≠W:=aX e3 hW;have nW:H W=none:=s3.free hW;have sW:=aG hW (.lst [.int (f:Int)]);have eW:upd H3 W (.lst [.int (f:Int)]) W=some (.lst [.int (f:Int)]):=aB;generalize upd H3 W (.lst [.int (f:Int)])=H4 at sW eW ⊢;have s4:=s3.trans sW;have w4:Wys K H W H4 [((Sum.inl (f:Int):Key),V.ref L)] (cD es f 0).1:=.cons nL nLW (sW _ _ eL3) .nil .nil;refine vA (fun σ H'=>aW H H'/\∃(i:Nat) (kvs:List (Key × V)) (z6 z7:Option V),σ=[some (.ref a),some (.ref b),some (.int (f:Int)),some (.int (t:Int)),some (.ref D),some (.ref W),z6,z7]/\H' D=some (.dK kvs)/\H' W=some (.lst ((cD es f i).2.map fun (p:Nat)=>V.int (p:Int)))/\Wys K H W H' kvs (cD es f i).1/\i<=40) muW ⟨s4,0,_,none,none,rfl,sW _ _ e3,eW,w4,by decide⟩ ?_ ?_
 ·rintro σ H5 ⟨s5,i,kvs,z6,z7,rfl,e5,q5,w5,hi⟩;have lk:=w5.length;have wi:=kY es f i;have le20:=Nj hm hf wi.nd wi.pt;refine⟨_,rfl,W,_,rfl,.inl (SqL.of q5),_,_,rfl,rfl,_,rfl,?_⟩
  by_cases hq:(cD es f i).2=[]
  ·-- it ends
   rw[hq] at q5;refine ifF (by rw[hq];rfl) ?_;have e60:=Xa hq (by lia);refine⟨_,rfl,D,rfl,.inl ⟨kvs,.inl e5⟩,_,rfl,_,iR.k (k:=Sum.inl (t:Int)) e5,?_⟩
   by_cases c:t∈cB (cD es f i).1
   ·obtain⟨l,ys,st,ev,eg,nl,_,hl,f'⟩:=w5.some_ c;rw[ev];refine qS st ?_ l ys H5 s5 nl hl f';unfold vJ;rw[e60];exact eg
   ·rw[(w5.none_ c).1];refine qN ?_ H5 s5;unfold vJ;rw[e60];exact rY c
  ·have mu0:=Qq (a:=some (.ref a)) (b:=some (.ref b)) (c:=some (.int (f:Int))) (d:=some (.int (t:Int))) (e:=z6) (f:=z7) e5 q5;have hi39:i+muF (cD es f i)<=39:=by
    rcases rW hm hf h20 i with z | z
    ·exact absurd z hq
    ·exact z
   have stp:cD es f (i+1)=(stF es ((cD es f i).2.getLastD 0)).foldl (inF ((cD es f i).2.getLastD 0)) ((cD es f i).1,(cD es f i).2.dropLast):=by
    show lL es (cD es f i)=_;unfold lL;rw[if_neg hq]
   have jO:=Ie hm hf h20 wi hq;have jO:muF (cD es f (i+1))+1<=muF (cD es f i):=jO;have wj0:=uM wi hq;have pk:=wj0.kp;obtain⟨ml1,ml2⟩:=Sn hq;generalize hp:(cD es f i).2.getLastD 0=p at *
   have ll:0 < ((cD es f i).2.map fun (p:Nat)=>V.int (p:Int)).length:=by rw[length_map];exact length_pos_iff.mpr hq
   refine ifT (by show decide (0 < ((((cD es f i).2.map fun (p:Nat)=>V.int (p:Int)).length:Nat):Int))=true;exact decide_eq_true (by lia)) ?_;refine⟨_,rfl,.inl ⟨rfl,_,SqL.of q5⟩,W,_,_,rfl,rfl,q5,ml1,?_⟩;rw[ml2];have s6:aW H (upd H5 W (.lst ((cD es f i).2.dropLast.map fun (p:Nat)=>V.int (p:Int)))):=s5.change nW;have e6:upd H5 W (.lst ((cD es f i).2.dropLast.map fun (p:Nat)=>V.int (p:Int))) D=some (.dK kvs):=by rw[aL nDW];exact e5
   have q6:upd H5 W (.lst ((cD es f i).2.dropLast.map fun (p:Nat)=>V.int (p:Int))) W=some (.lst ((cD es f i).2.dropLast.map fun (p:Nat)=>V.int (p:Int))):=aB;have w6:=w5.updW (o:=.lst ((cD es f i).2.dropLast.map fun (p:Nat)=>V.int (p:Int))) q5;generalize upd H5 W (.lst ((cD es f i).2.dropLast.map fun (p:Nat)=>V.int (p:Int)))=H6 at s6 e6 q6 w6 ⊢;refine⟨_,rfl,_,rfl,_,rfl,a,b,xs,ds,es,p,rfl,s6.seq hA,Rb.same s6,s6.seq hB,hE,h100,fun l ys H7 s7 nl el S7=>?_⟩;have s07:=s6.trans s7;have nlW:l≠W:=Ne.symm (aX q6 nl);have nlD:l≠D:=Ne.symm (aX e6 nl);have nlH:H l=none:=s6.free nl;have lys:=S7.length;refine⟨l,rfl,⟨_,SqL.of el⟩,?_⟩;refine gC (xs:=ys) (fun j σ H'=>aW H H'/\H' l=some (.lst ys)/\Sds K H' ys (stF es p)/\∃(kvs:List (Key × V)) (z7:Option V),σ=[some (.ref a),some (.ref b),some (.int (f:Int)),some (.int (t:Int)),some (.ref D),some (.ref W),some (.int (p:Int)),z7]/\H' D=some (.dK kvs)/\H' W=some (.lst ((((stF es p).take j).foldl (inF p) ((cD es f i).1,(cD es f i).2.dropLast)).2.map fun (p:Nat)=>V.int (p:Int)))/\Wys K H W H' kvs (((stF es p).take j).foldl (inF p) ((cD es f i).1,(cD es f i).2.dropLast)).1) ⟨s07,el,S7,kvs,z7,rfl,s7 _ _ e6,s7 _ _ q6,w6.same s7⟩ (fun j σ H' _ h=>SqL.of h.2.1) ?_ ?_
   ·rintro j x σ H8 hx ⟨s8,el8,S8,kv8,z7',rfl,e8,q8,w8⟩;obtain⟨tt,u,s,rfl,es',hT,hU⟩:=S8.get hx;have hj:j < (stF es p).length:=(List.getElem?_eq_some_iff.mp es').1;have gs:qO es s.1 p s.2:=mU (mem_of_getElem? es');have wj:=An ((stF es p).take j) [] wj0 fun z hz=>mU (mem_of_mem_take hz);have fold1:((stF es p).take (j+1)).foldl (inF p) ((cD es f i).1,(cD es f i).2.dropLast)=inF p (((stF es p).take j).foldl (inF p) ((cD es f i).1,(cD es f i).2.dropLast)) s:=by
     rw[take_add_one,es',foldl_append];rfl
    rw[fold1];have wj':=Jo wj gs;have le8:=Nj hm hf wj.nd wj.pt;have lS:=Ys hm hf h20 wj0 (j:=j) (T:=stF es p) (fun z hz=>mU hz);have mb:=Ef hq;generalize ((stF es p).take j).foldl (inF p) ((cD es f i).1,(cD es f i).2.dropLast)=S at q8 w8 wj wj' le8 lS ⊢;have lS2:S.2.length<=100:=by lia
    have lk8:=w8.length;obtain⟨⟨sn,sw⟩,sx⟩:=s;have hT:SqT K H8 tt [.ref u,.int (sx:Int)]:=hT;refine⟨_,rfl,tt,_,1,_,rfl,rfl,hT,rfl,_,rfl,D,_,rfl,iR.k (k:=Sum.inl (sx:Int)) e8,_,rfl,?_⟩
    by_cases c:sx∈cB S.1
    ·refine ifF (by rw[w8.isSome,decide_eq_true c];rfl) ⟨s8,el8,S8,kv8,_,rfl,e8,?_,?_⟩
     ·show H8 W=some (.lst ((inF p S ((sn,sw),sx)).2.map fun (p:Nat)=>V.int (p:Int)));unfold inF;rw[if_pos c];exact q8
     ·show Wys K H W H8 kv8 (inF p S ((sn,sw),sx)).1;unfold inF;rw[if_pos c];exact w8
    ·refine ifT (by rw[w8.isSome,decide_eq_false c];rfl) ?_;obtain⟨ap,xp,sp,ev,eg,nap,nwp,hap,fp⟩:=w8.some_ wj.kp;have lsp:=fp.length;have lsp2:sp.length<=20:=by
      obtain⟨pts,pt1,pt2⟩:=wj.pt p sp (iG eg);exact qb0 hm hf h20 wj.nd wj.pt pt1 pt2
     refine⟨_,rfl,_,rfl,D,.ref ap,rfl,(by have:=iR.k (k:=Sum.inl (p:Int)) e8;rw[ev] at this;exact this),?_⟩;refine⟨_,rfl,tt,_,0,_,rfl,rfl,hT,rfl,zl9 1,fun L1 hL1=>?_⟩;have s9:=aG hL1 (.lst [.ref u]);have e9:upd H8 L1 (.lst [.ref u]) L1=some (.lst [.ref u]):=aB;generalize upd H8 L1 (.lst [.ref u])=H9 at s9 e9 ⊢;refine⟨ap,L1,_,_,rfl,rfl,s9 _ _ hap,e9,by rw[sizeLine_eq];simp only[length_cons,length_nil];lia,fun C hC=>?_⟩;have nC8:H8 C=none:=s9.free hC;have sA:=aG hC (.lst (xp++[.ref u]));have eA:upd H9 C (.lst (xp++[.ref u])) C=some (.lst (xp++[.ref u])):=aB;generalize upd H9 C (.lst (xp++[.ref u]))=HA at sA eA ⊢;have s8A:=s9.trans sA;have nCW:C≠W:=Ne.symm (aX q8 nC8);have nCD:C≠D:=Ne.symm (aX e8 nC8);have eDA:=s8A _ _ e8;refine⟨_,rfl,_,rfl,tt,_,1,_,rfl,rfl,s8A.seqT hT,rfl,D,_,rfl,Ho.k (k:=Sum.inl (sx:Int)) eDA (by rw[sizeLine_eq];lia),?_⟩;have put:kO kv8 (Sum.inl (sx:Int)) (.ref C)=kv8++[(Sum.inl (sx:Int),.ref C)]:=by unfold kO;rw[if_neg (by rw[(w8.none_ c).2];simp)]
     rw[put];have eB:upd HA D (.dK (kv8++[(Sum.inl (sx:Int),.ref C)])) D=some (.dK (kv8++[(Sum.inl (sx:Int),.ref C)])):=aB;have qB:upd HA D (.dK (kv8++[(Sum.inl (sx:Int),.ref C)])) W=some (.lst (S.2.map fun (p:Nat)=>V.int (p:Int))):=by rw[aL (Ne.symm nDW)];exact s8A _ _ q8
     have sB:aW H (upd HA D (.dK (kv8++[(Sum.inl (sx:Int),.ref C)]))):=(s8.trans s8A).change hD;have wB:Wys K H W (upd HA D (.dK (kv8++[(Sum.inl (sx:Int),.ref C)]))) (kv8++[(Sum.inl (sx:Int),.ref C)]) (S.1++[(sx,sp++[(sn,sw)])]):=
      Wys.snoc (s8.free nC8) nCW (by rw[aL nCD];exact eA) (((fp.same s8A).app (.cons (s8A.seqT hU) .nil)).updD eDA) ((w8.same s8A).updD eDA)
     have elB:upd HA D (.dK (kv8++[(Sum.inl (sx:Int),.ref C)])) l=some (.lst ys):=by rw[aL nlD];exact s8A _ _ el8
     have SB:=(S8.same s8A).updD (o:=.dK (kv8++[(Sum.inl (sx:Int),.ref C)])) eDA;have hTB:=SqT.updD (o:=.dK (kv8++[(Sum.inl (sx:Int),.ref C)])) (s8A.seqT hT) eDA;generalize upd HA D (.dK (kv8++[(Sum.inl (sx:Int),.ref C)]))=HB at eB qB sB wB elB SB hTB ⊢;refine⟨_,rfl,.inl ⟨rfl,_,SqL.of qB⟩,_,rfl,tt,_,1,_,rfl,rfl,hTB,rfl,W,_,_,rfl,rfl,qB,aZ (by rw[length_map];lia),?_⟩;have inE:inF p S ((sn,sw),sx)=(S.1++[(sx,sp++[(sn,sw)])],S.2++[sx]):=by
      unfold inF;rw[if_neg c,eg];rfl
     rw[inE];refine⟨sB.change nW,by rw[aL nlW];exact elB,SB.upd qB,_,_,rfl,by rw[aL nDW];exact eB,?_,wB.updW qB⟩;rw[aB,map_append];rfl
   ·rintro σ H8 ⟨s8,el8,S8,kv8,z7',rfl,e8,q8,w8⟩;rw[lys,take_length,<- stp] at q8 w8;have lk8:=w8.length;refine⟨⟨s8,i+1,kv8,_,_,rfl,e8,q8,w8,by lia⟩,?_⟩;rw[mu0,Qq e8 q8,length_map,length_map,lk,lk8];unfold muF at jO;assumption
 ·rintro σ H Q Q' mono ⟨v,h1,p',ys,h2,h3,i,j,h4,h5,k,h6,h7⟩;exact⟨v,h1,p',ys,h2,h3,i,j,h4,h5,k,h6,mono _ _ h7⟩
theorem Yg {i:Nat}(h:ds[i]?=some d):(skl ds)[i]?=some (d.1,d.2.1.toNat,d.2.2.1.toNat):=by unfold skl;rw[getElem?_map,h];rfl
theorem Gq (ds:List RD):(skl ds).length=ds.length:=by unfold skl;rw[length_map]
theorem Yf {m:Nat}(pt:∀d∈ds,cX (m:Int) d.2.1 d.2.2.1):∀d∈skl ds,d.2.1 < m/\d.2.2 < m:=fun d hd=>by
 obtain⟨e,he,rfl⟩:=mem_map.mp hd;obtain⟨i0,i1,j0,j1⟩:=pt e he;exact⟨by show e.2.1.toNat < m;lia,by show e.2.2.1.toNat < m;lia⟩
theorem Va {m n:Nat}(pt:∀d∈ds,cX (m:Int) d.2.1 d.2.2.1)(h:RI W (skl ds) m n s):qd7 ds s.1:=fun e he=>by
 obtain⟨k,hk⟩:=h.at_ e he;have hl:e.1 < ds.length:=by have:=(List.getElem?_eq_some_iff.mp hk).1;rwa [Gq] at this
 have hd:ds[e.1]?=some ds[e.1]:=getElem?_eq_getElem hl;rw[Yg hd] at hk;obtain⟨i0,i1,j0,j1⟩:=pt _ (mem_of_getElem? hd);refine⟨_,hd,?_,?_⟩
 ·have:ds[e.1].2.1.toNat=e.2.1:=by injection hk with z;injection z with _ z;injection z
  lia
 ·have:ds[e.1].2.2.1.toNat=e.2.2:=by injection hk with z;injection z with _ z;injection z
  lia
theorem Qh:∀n,(eU W sk n).1.length<=n
 |0=>Nat.le_refl _
 |n+1=>by
  have ih:=Qh (W:=W) (sk:=sk) n
  cases h:sk[n]? with
  |none=>show (match sk[n]? with | none=>eU W sk n | some d=>jD W (eU W sk n) n d).1.length<=n+1;rw[h];show (eU W sk n).1.length<=n+1;lia
  |some d=>
   rw[jJ h];generalize eU W sk n=s at ih;unfold jD;split
   ·split
    ·show (s.1++[(n,d.2.1,d.2.2)]).length<=n+1;rw[List.length_append];simp only[length_cons,length_nil];lia
    ·show s.1.length<=n+1;lia
   ·lia
def WdA (K:Frag)(H:Hp)(v:V)(W:Kd->Bool):Prop:=∃(p:Addr) (ws:List V),v=.ref p/\(SqL K H p ws\/SqT K H p ws)/\ws.all mC=true/\∀k:Kd,inV (.str k.wd) ws=W k
theorem WdA.same (e:aW H H')(h:WdA K H v W):WdA K H' v W:=by
 obtain⟨p,ws,h1,h2,h3⟩:=h;refine⟨p,ws,h1,?_,h3⟩;rcases h2 with z | z
 ·exact .inl (e.seq z)
 ·exact .inr (e.seqT z)
theorem qg7 (k:Kd):inV (.str k.wd) [.str "piece",.str "hold"]=decide (k≠.pu):=by cases k<;>decide
abbrev iU:Stmt:=top 34
theorem jY:aQ ["net","words","wanted","rows","branches","found","number","row","back"] ["net","words"] (aH iU):=sK9
theorem Pw (F:aY K "rings" "rings" iU dV f fd)(NTx:NT K mg CN)(T:RT K mg CR CK)(men:mg "enumerate"=none)(fJ:∀H,SqT K H aJ [.str "piece",.str "hold"])(mJO:mI9 mg "JOINING_WORDS" aJ)(GW:∀k,aK P w K mg base CX0 1 (fW k) (fdW k) ["self"] (lV k))(bW:∀k,aM K (fdW k) ["self"] [])(mW:∀k,gQ K (CK k) "word" (fW k))(GRo:aK P w K mg base CX0 4 gRo gdRo ["self"] (rV CN K CK))(bRo:aM K gdRo ["self"] [])(mRo:gQ K CN "rows" gRo)(G1:D9 P w K mg base 2 g1 gd1 ["rows","numbers","begin","end"] (Yd K CK) "way_along"):
  aK P w K mg base CX 5 f fd ["net","words"] (Ke CN K):=by
 refine F.ok9 jY fun _ _ _ s H _ Q E hr h=>?_;obtain⟨n,l,v,m,ds,W,rfl,nt,pt,h20,h40,hW,q⟩:=h;have r1:=hr.mono (by decide:1<=4);have r2:=hr.mono (by decide:2<=4);refine⟨_,(aC (aS (i:=2) jY.nd rfl (Or.inl rfl) (vO (sM (zR (pv 1))) (dM (v:=.ref aJ) rfl mJO rfl) (pv 1)))
  (aC (aS (i:=3) jY.nd rfl (Or.inl rfl) (gH (pv 0) NTx.cl mRo GRo hr bRo .nil aR))
  (aC (aS (i:=4) jY.nd rfl (Or.inl rfl) (dG aD))
  (aC (aS (i:=5) jY.nd rfl (Or.inl rfl) (dG aD))
  (aC (fK PassesOwn.never rfl (Bk rfl men rfl (aA (pv 3) aD)) (mB rfl (dH (bH (i:=6) jY.nd rfl (Or.inl rfl)) (dH (bH (i:=7) jY.nd rfl (Or.inl rfl)) jU)))
   (aF (cH (bK yW (gU (pv 7) T.cl mW GW r1 bW .nil aR) (pv 2) rfl) (aC (aS (i:=8) jY.nd rfl (Or.inl rfl) (d9 G1 r2 rfl (aA (pv 3) (aA (pv 4) (aA (bZ (pv 7) rfl) (aA (bZ (pv 7) rfl) aD))))))
  (aF (cH (sM (zR (pv 8))) (aF (bX (jW PySem.F.plainAttrs_list PySem.F.slot_list_append PySem.F.type_list_append dF (pv 4) (aA (pv 6) aD)))) (aF (bX (jW PySem.F.plainAttrs_list PySem.F.slot_list_append PySem.F.type_list_append dF (pv 5) (aA (aP oV (dG (aA (cU (aA (pv 6) (aA aE aD))) aD)) (pv 8)) aD))))))) bM)))
  (aF (aV (pv 5)))))))),?_⟩
 refine vK (fun σ' H'=>H'=H/\∃wv,σ'=[some (.ref n),some v,some wv,none,none,none,none,none,none]/\WdA K H wv W) (fun X hX=>?_) ?_
 ·cases hW with
  |non=>exact⟨_,rfl,_,rfl,ifT rfl (hX _ _ ⟨rfl,_,rfl,aJ,_,rfl,.inr (fJ H),rfl,qg7⟩)⟩
  | @seq a ws h f=>exact⟨_,rfl,_,rfl,ifF rfl ⟨_,rfl,hX _ _ ⟨rfl,_,rfl,a,_,rfl,.inl h,f,fun _=>rfl⟩⟩⟩
 rintro σ' H' ⟨hH',wv,rfl,hw⟩;subst hH';obtain⟨dx,hn⟩:=nt.ob;refine⟨_,rfl,n,dx,_,rfl,hn,fP _ _ (by decide +kernel) (by decide +kernel),n,l,_,ds,rfl,nt,by lia,fun a xs H1 s1 na ea Rb=>?_⟩;have lxs:=Rb.length;refine⟨zl9 0,fun B hB=>?_⟩;have nB:H' B=none:=s1.free hB;have sB:=aG hB (.lst []);have eB:upd H1 B (.lst []) B=some (.lst []):=aB;generalize upd H1 B (.lst [])=H2 at sB eB ⊢;refine⟨zl9 0,fun F hF=>?_⟩;have nF:H' F=none:=(s1.trans sB).free hF;have nBF:B≠F:=aX eB hF;have sF:=aG hF (.lst []);have eF:upd H2 F (.lst []) F=some (.lst []):=aB;generalize upd H2 F (.lst [])=H3 at sF eF ⊢;have s3:=s1.trans (sB.trans sF);have ea3:=(sB.trans sF) _ _ ea;have naB:a≠B:=aX ea hB;have naF:a≠F:=aX (sB _ _ ea) hF;have sk:=Gq ds;have slt:=Yf pt;have s13:=sB.trans sF;refine⟨_,rfl,a,rfl,⟨_,SqL.of ea3⟩,?_⟩;have nB1:H1 B=none:=hB;have nF1:H1 F=none:=sB.free hF;refine Nl (xs:=xs) (fun i σ HH=>aW H1 HH/\∃(us:List V) (z6 z7 z8:Option V),σ=[some (.ref n),some v,some wv,some (.ref a),some (.ref B),some (.ref F),z6,z7,z8]/\HH B=some (.lst ((eU W (skl ds) i).1.map fun (e:Br)=>V.int ((e.1:Nat):Int)))/\HH F=some (.lst us)/\Rgs K H' HH us ((eU W (skl ds) i).2.map (·.2))/\∀x∈us,x≠.ref F/\x≠.ref B) ⟨s13,[],none,none,none,rfl,sF _ _ eB,eF,.nil,fun x hx=>(by cases hx)⟩ (fun i σ HH _ h=>h.1.seq (SqL.of ea)) ?_ ?_
 ·rintro i x σ H4 T2 hx ⟨s4,us,z6,z7,z8,rfl,eB4,eF4,G4,nx4⟩ hT;have hi:i < ds.length:=by
   have:=(List.getElem?_eq_some_iff.mp hx).1;lia
  obtain⟨⟨k0,u,v0,p0⟩,hd⟩:∃d,ds[i]?=some d:=⟨_,getElem?_eq_getElem hi⟩
  obtain⟨y,z,ey,rw0,fz0⟩:=Rb.at hd;have ex:x=.ref y:=by rw[ey] at hx;exact(Option.some.inj hx).symm
  subst ex;obtain⟨u0,u1,v1,v2⟩:cX (m:Int) u v0:=pt _ (mem_of_getElem? hd);obtain⟨uN,rfl⟩:∃n:Nat,u=(n:Int):=⟨u.toNat,by lia⟩
  obtain⟨vN,rfl⟩:∃n:Nat,v0=(n:Int):=⟨v0.toNat,by lia⟩
  have skd:(skl ds)[i]?=some (k0,uN,vN):=by
   have:=Yg hd
   rwa [show ((k0,(uN:Int),(vN:Int),p0):RD).2.1.toNat=uN from Int.toNat_natCast uN,show ((k0,(uN:Int),(vN:Int),p0):RD).2.2.1.toNat=vN from Int.toNat_natCast vN] at this
  have ri:=qQ (W:=W) slt i (by lia);have bo:=Va pt ri;have bl':=Qh (W:=W) (sk:=skl ds) i;have gl:=G4.l;rw[length_map] at gl;have rl:=ri.rl;have succ:=jJ (W:=W) skd;generalize eU W (skl ds) i=S at eB4 G4 ri bo bl' gl rl succ;have sT:=aG hT (.tup [.int (i:Int),.ref y]);refine⟨T2,_,rfl,SqT.of aB,rfl,_,_,rfl,_,_,rfl,rfl,?_⟩;have nT1:H1 T2=none:=s4.free hT;generalize upd H4 T2 (.tup [.int (i:Int),.ref y])=H5 at sT ⊢;have s5:=s4.trans sT;have eB5:=sT _ _ eB4;have eF5:=sT _ _ eF4;have G5:=G4.same sT;obtain⟨dr,hy⟩:=id (rw0.same s5);obtain⟨pw,ws,ew,hws,fl,hinv⟩:=hw.same (s1.trans s5);refine⟨_,rfl,k0,y,dr,_,rfl,hy,(eZ _ _ _ (by decide +kernel) (by decide +kernel) (by decide +kernel)),_,rfl,_,rfl,pw,ws,ew,hws,rfl,fl,_,rfl,?_⟩;have hin:inV (.str k0.wd) ws=W k0:=hinv k0
  by_cases hk:W k0=true
  ·refine ifT (by show (if false=true then _ else inV (V.str k0.wd) ws)=true;rw[if_neg (by decide),hin];exact hk) ?_;refine⟨_,rfl,_,rfl,_,rfl,y,CK _,_,_,_,rfl,hy,T.cl _,T.nG _,eK _ _ _,_,rfl,y,CK _,_,_,_,rfl,hy,T.cl _,T.nS _,dI _ _ _,a,B,xs,ds,S.1,m,vN,uN,rfl,s5.seq (SqL.of ea),Rb.same s5,SqL.of eB5,bo,by lia,ri.pt,h20,by lia,fun hnone H6 s6=>?_,fun st hst l' ys H6 s6 nl el S6=>?_⟩
   ·refine⟨_,rfl,_,rfl,ifT rfl ?_⟩;have eB6:=s6 _ _ eB5;have s06:=s5.trans s6;refine⟨_,rfl,.inl ⟨rfl,_,SqL.of eB6⟩,_,rfl,B,_,_,rfl,rfl,eB6,aZ (by rw[length_map];lia),?_⟩;have eS:jD W S i (k0,uN,vN)=(S.1++[(i,uN,vN)],S.2):=by
     unfold jD;rw[if_pos hk,hnone]
    rw[succ,eS];refine⟨s06.change nB1,us,_,_,_,rfl,?_,by rw[aL (Ne.symm nBF)];exact s6 _ _ eF5,(G5.same s6).updO eB6 (fun x hx=>(nx4 x hx).2),nx4⟩;rw[aB,map_append];rfl
   ·refine⟨_,rfl,_,rfl,ifF rfl ?_⟩;have eF6:=s6 _ _ eF5;have s06:=s5.trans s6;refine⟨_,rfl,.inl ⟨rfl,_,SqL.of eF6⟩,_,rfl,zl9 2,fun t ht=>?_⟩;have st7:=aG ht (.tup [.int (i:Int),.int 1]);have et:SqT K (upd H6 t (.tup [.int (i:Int),.int 1])) t [.int (i:Int),.int 1]:=SqT.of aB;generalize upd H6 t (.tup [.int (i:Int),.int 1])=H7 at st7 et ⊢;refine⟨zl9 1,fun L1 hL1=>?_⟩;have s8:=aG hL1 (.lst [.ref t]);have e8:upd H7 L1 (.lst [.ref t]) L1=some (.lst [.ref t]):=aB;generalize upd H7 L1 (.lst [.ref t])=H8 at s8 e8 ⊢;have lst':=zI ri.pt (by lia:vN < m) hst;have lys:=S6.length;refine⟨_,rfl,L1,l',_,_,rfl,rfl,e8,(st7.trans s8) _ _ el,by rw[sizeLine_eq];simp only[length_cons,length_nil];lia,fun C hC=>?_⟩;have nC8:H8 C=none:=hC;have s9:=aG hC (.lst ([.ref t]++ys));have e9:upd H8 C (.lst ([.ref t]++ys)) C=some (.lst ([.ref t]++ys)):=aB;generalize upd H8 C (.lst ([.ref t]++ys))=H9 at s9 e9 ⊢;have s69:=st7.trans (s8.trans s9);have eF9:=s69 _ _ eF6;have s09:=s06.trans s69;have nCF:C≠F:=Ne.symm (aX ((st7.trans s8) _ _ eF6) nC8);have nCB:C≠B:=Ne.symm (aX ((st7.trans s8) _ _ (s6 _ _ eB5)) nC8);refine⟨F,_,_,rfl,rfl,eF9,aZ (by lia),?_⟩;have eS:jD W S i (k0,uN,vN)=(S.1,S.2++[(i,(i,1) :: st)]):=by
     unfold jD;rw[if_pos hk,hst]
    rw[succ,eS];have SC:Sts K H9 ([.ref t]++ys) ((i,1) :: st):=.cons ((s8.trans s9).seqT et) (S6.same s69);refine⟨s09.change nF1,us++[.ref C],_,_,_,rfl,by rw[aL nBF];exact s69 _ _ (s6 _ _ eB5),aB,?_,fun x hx=>?_⟩
    ·rw[map_append];have G9:=((G5.same s6).same s69).snoc (((s1.trans s06).trans (st7.trans s8)).free nC8) e9 SC;refine G9.updO eF9 fun x hx=>?_;rcases mem_append.mp hx with z | z
     ·exact(nx4 x z).1
     ·have:x=.ref C:=by simpa using z
      rw[this];exact fun z=>nCF (by injection z)
    ·rcases mem_append.mp hx with z | z
     ·exact nx4 x z
     ·have:x=.ref C:=by simpa using z
      rw[this];exact⟨fun z=>nCF (by injection z),fun z=>nCB (by injection z)⟩
  ·refine ifF (by show (if false=true then _ else inV (V.str k0.wd) ws)=false;rw[if_neg (by decide),hin];simpa using hk) ?_;have eS:jD W S i (k0,uN,vN)=S:=by
    unfold jD;rw[if_neg hk]
   rw[succ,eS];exact⟨s5,us,_,_,_,rfl,eB5,eF5,G5,nx4⟩
 rintro σ H4 ⟨s4,us,z6,z7,z8,rfl,eB4,eF4,G4,nx4⟩;rw[lxs] at G4;exact⟨_,rfl,q F us H4 (s1.trans s4) nF eF4 G4 fun x hx=>(nx4 x hx).1⟩
abbrev rQ:Stmt:=cY (top 40) 1
theorem Hb:aQ ["self"] ["self"] (aH rQ):=sK9
theorem Ch (F:aY K "joins" "Piece.joins" rQ dV f fd):aK P w K mg base CX 1 f fd ["self"] (pC .pc):=by
 refine F.ok9 Hb fun _ _ _ s H _ Q E hr h=>?_;obtain⟨x,rfl,q⟩:=h;exact⟨_,(aF (aV gN)),q⟩
abbrev rD:Stmt:=cY (top 41) 1
theorem Hg:aQ ["self"] ["self"] (aH rD):=sK9
theorem Du (F:aY K "joins" "Push.joins" rD dV f fd):aK P w K mg base CX 1 f fd ["self"] (pC .pu):=by
 refine F.ok9 Hg fun _ _ _ s H _ Q E hr h=>?_;obtain⟨x,rfl,q⟩:=h;exact⟨_,(aF (aV gN)),q⟩
abbrev rM:Stmt:=cY (top 42) 1
theorem Fw:aQ ["self"] ["self"] (aH rM):=sK9
theorem Dx (F:aY K "joins" "Hold.joins" rM dV f fd):aK P w K mg base CX 1 f fd ["self"] (pC .ho):=by
 refine F.ok9 Fw fun cdv A outer s H vs Q E hr h=>?_;obtain⟨x,rfl,q⟩:=h;exact⟨_,(aF (aV gN)),q⟩
def Ei (K:Frag)(CK:Kd->Addr):Sp:=fun vs H Q _=>∃(a x:Addr) (ms:List Int) (k:Kd) (s g:Nat) (z:V),vs=[.ref a,.ref x]/\SqL K H a (ms.map V.int)/\Rw CK H x k (.int (s:Int)) (.int (g:Int)) z/\s < ms.length/\g < ms.length/\ms.length<=100/\∀l H',aW H H'->H l=none->H' l=some (.lst ((jn ms s g).map V.int))->Q (.ref l) H'
def Ik (CN:Addr)(K:Frag):Sp:=fun vs H Q _=>∃(n l:Addr) (m:Nat) (ds:List RD),vs=[.ref n]/\dE CN K H n l (m:Int) ds/\(∀d∈ds,cX (m:Int) d.2.1 d.2.2.1)/\m<=20/\ds.length<=100/\∀l' H',aW H H'->H l'=none->H' l'=some (.lst ((mks m ds).map V.int))->Q (.ref l') H'
def iZ (m:Nat)(ds:List RD):List Int:=((List.range m).filter fun p=>decide (mk m ds p≠mk m ds 0)).map fun (p:Nat)=>(p:Int)
def Kh (CN:Addr)(K:Frag):Sp:=fun vs H Q _=>∃(n l:Addr) (m:Nat) (ds:List RD),vs=[.ref n]/\dE CN K H n l (m:Int) ds/\(∀d∈ds,cX (m:Int) d.2.1 d.2.2.1)/\1<=m/\m<=20/\ds.length<=100/\∀l' H',aW H H'->H l'=none->H' l'=some (.lst ((iZ m ds).map V.int))->Q (.ref l') H'
theorem qU:(["mark","lost","kept"]:List Str).Nodup:=by decide +kernel
abbrev zP:Stmt:=top 33
theorem vE:aQ ["marks","row","kept","lost"] ["marks","row"] (aH zP):=sK9
theorem Mr (F:aY K "joined" "joined" zP dV f fd)(T:RT K mg CR CK):
  aK P w K mg base CX 1 f fd ["marks","row"] (Ei K CK):=by
 refine F.ok9 vE fun _ _ _ s H _ Q E hr h=>?_;obtain⟨a,x,ms,k,s0,g0,z,rfl,hS,rw,hs,hg,h100,q⟩:=h;refine⟨_,(aC (aS (i:=2) vE.nd rfl (Or.inr rfl) (aU bU (pv 0) (bZ (pv 1) rfl) (fun _ _=>rfl)))
  (aC (aS (i:=3) vE.nd rfl (Or.inr rfl) (aU bU (pv 0) (bZ (pv 1) rfl) (fun _ _=>rfl)))
  (aF (aV (dQ (nl:=1) (fr:=[3,2]) (Nc:=["mark","lost","kept"]) (cl:=[("lost",s.heap.objs.size+2),("kept",s.heap.objs.size+1)]) rfl ⟨rfl,rfl,by decide +kernel,by decide +kernel,(dA rfl (dA rfl (jT))),dU rfl,rfl,fun i n h=>match i,h with | 0,h=>by cases h;exact⟨3,rfl,rfl,rfl,rfl,.inl rfl⟩ | 1,h=>by cases h;exact⟨2,rfl,rfl,rfl,rfl,.inl rfl⟩ | k+2,h=>by rw[show 1+(k+2)=k+3 by lia] at h;cases h⟩
    (cZ (pv 0)) (fun _ _ _ _ _=>(bH (i:=0) qU rfl (Or.inl rfl))) (fun _ _ _ _ _=>fL)
    (fun _ _ _ _ _=>(vO (bK fZ (pv 0) (pv 1) (bO _)) (pv 2) (pv 0)))))))),?_⟩
 obtain⟨dx,hx⟩:=id rw;have gi:∀{j:Nat},j < ms.length->atI (ms.map V.int) (j:Int)=some (.int (ms.getD j 0)):=fun h=>bY (by rw[getElem?_map,getElem?_eq_getElem h,getD_eq_getElem?_getD,getElem?_eq_getElem h];rfl);refine⟨_,rfl,_,rfl,x,CK _,_,_,_,rfl,hx,T.cl _,T.nS _,dI _ _ _,a,_,_,_,rfl,rfl,hS,gi hs,?_⟩;refine⟨_,rfl,_,rfl,x,CK _,_,_,_,rfl,hx,T.cl _,T.nG _,eK _ _ _,a,_,_,_,rfl,rfl,hS,gi hg,?_⟩;refine⟨_,rfl,a,rfl,⟨_,hS⟩,fun D hD=>?_⟩;have sD:=aG hD (.lst []);refine fC (xs:=ms.map V.int) (fun i zs H'=>aW H H'/\H' D=some (.lst zs)/\zs=((jn ms s0 g0).take i).map V.int) ⟨sD,aB,rfl⟩ (fun i zs H' h=>h.2.1) (fun i zs H' _ h=>h.1.seq hS) ?_ ?_
 ·rintro i zs x H1 hx' ⟨s1,e1,rfl⟩ C hC;rw[getElem?_map] at hx';obtain⟨c,hc,rfl⟩:=Option.map_eq_some_iff.mp hx';have hi:i < ms.length:=(List.getElem?_eq_some_iff.mp hc).1;have ej:(jn ms s0 g0)[i]?=some (if c=ms.getD g0 0 then ms.getD s0 0 else c):=by unfold jn;rw[getElem?_map,hc];rfl
  have lj:(jn ms s0 g0).length=ms.length:=by unfold jn;rw[length_map]
  refine⟨dS.1,dS.2,fH ?_⟩;refine⟨_,rfl,_,rfl,rfl,_,rfl,?_⟩
  by_cases h:c=ms.getD g0 0
  ·rw[if_pos h] at ej;refine ifT (decide_eq_true (by rw[h])) ⟨_,rfl,e1,aZ (by rw[length_map,length_take];lia),hC _ _ ⟨s1.change hD,aB,?_⟩⟩;rw[take_add_one,ej,map_append];rfl
  ·rw[if_neg h] at ej;refine ifF (decide_eq_false (fun z=>h (by injection z))) ⟨_,rfl,e1,aZ (by rw[length_map,length_take];lia),hC _ _ ⟨s1.change hD,aB,?_⟩⟩;rw[take_add_one,ej,map_append];rfl
 ·rintro zs H1 ⟨s1,e1,rfl⟩;have lj:(jn ms s0 g0).length=ms.length:=by unfold jn;rw[length_map]
  rw[length_map,<- lj,take_length] at e1;exact q D H1 s1 hD e1
abbrev Fv:Stmt:=top 32
theorem uB:aQ ["net","marks","row"] ["net"] (aH Fv):=sK9
theorem Rs (F:aY K "marks_of" "marks_of" Fv dV f fd)(mli:mg "list"=none)(mra:mg "range"=none)(NTx:NT K mg CN)(T:RT K mg CR CK)(GJ:∀k,aK P w K mg base CX0 1 (fJ k) (fdJ k) ["self"] (pC k))(bJ:∀k,aM K (fdJ k) ["self"] [])(mJ:∀k,gQ K (CK k) "joins" (fJ k))(GMa:aK P w K mg base CX0 1 gMa gdMa ["self"] (Ab CN K))(bMa:aM K gdMa ["self"] [])(mMa:gQ K CN "many" gMa)(GRo:aK P w K mg base CX0 4 gRo gdRo ["self"] (rV CN K CK))(bRo:aM K gdRo ["self"] [])(mRo:gQ K CN "rows" gRo)(G1:D9 P w K mg base 1 g1 gd1 ["marks","row"] (Ei K CK) "joined"):
  aK P w K mg base CX 5 f fd ["net"] (Ik CN K):=by
 refine F.ok9 uB fun _ _ _ s H _ Q E hr h=>?_;obtain⟨n,l,m,ds,rfl,nt,pt,hm,h100,q⟩:=h;have r1:=hr.mono (by decide:1<=4);refine⟨_,(aC (aS (i:=1) uB.nd rfl (Or.inl rfl) (Am rfl rfl mli rfl mra (aA (gH (pv 0) NTx.cl mMa GMa r1 bMa .nil aR) aD)))
  (aC (fK PassesOwn.never rfl (cZ (gH (pv 0) NTx.cl mRo GRo hr bRo .nil aR)) (bH (i:=2) uB.nd rfl (Or.inl rfl))
   (aF (cH (cO (gU (pv 2) T.cl mJ GJ r1 bJ .nil aR)) (aF (aS (i:=1) uB.nd rfl (Or.inl rfl) (d9 G1 r1 rfl (aA (pv 1) (aA (pv 2) aD))))) bM)))
  (aF (aV (pv 1))))),?_⟩
 obtain⟨dx,hn⟩:=nt.ob;refine⟨_,rfl,n,dx,_,rfl,hn,fP _ _ (by decide +kernel) (by decide +kernel),n,l,_,ds,rfl,nt,m,rfl,by lia,fun D hD=>?_⟩;have sD:=aG hD (.lst ((List.range m).map fun (i:Nat)=>V.int (i:Int)));have eD:upd H D (.lst ((List.range m).map fun (i:Nat)=>V.int (i:Int))) D=some (.lst ((mks m (ds.take 0)).map V.int)):=by
  rw[aB];show some (HO.lst _)=some (HO.lst ((Ma m).map V.int));unfold Ma;rw[map_map];rfl
 generalize upd H D (.lst ((List.range m).map fun (i:Nat)=>V.int (i:Int)))=H1 at sD eD ⊢;refine⟨_,rfl,n,dx,_,rfl,sD _ _ hn,fP _ _ (by decide +kernel) (by decide +kernel),n,l,_,ds,rfl,nt.same sD,h100,fun a xs H2 s2 na ea Rb=>?_⟩;have lxs:=Rb.length;refine⟨a,rfl,⟨_,SqL.of ea⟩,?_⟩;refine gC (xs:=xs) (fun i σ H'=>aW H2 H'/\∃(c:Addr) (z:Option V),σ=[some (.ref n),some (.ref c),z]/\H c=none/\H' c=some (.lst ((mks m (ds.take i)).map V.int))) ⟨aW.refl _,D,none,rfl,hD,s2 _ _ eD⟩ (fun i σ H' _ h=>h.1.seq (SqL.of ea)) ?_ ?_
 ·rintro i x σ H3 hx ⟨s3,c,z,rfl,nc,ec⟩;have hi:i < ds.length:=by
   have:=(List.getElem?_eq_some_iff.mp hx).1;lia
  obtain⟨⟨k,u,v,p⟩,hd⟩:∃d,ds[i]?=some d:=⟨_,getElem?_eq_getElem hi⟩
  obtain⟨y,z',ey,rw,fz⟩:=Rb.at hd;have ex:x=.ref y:=by rw[ey] at hx;exact(Option.some.inj hx).symm
  subst ex;have rw3:=rw.same s3;obtain⟨dr,hy⟩:=id rw3;have et:ds.take (i+1)=ds.take i++[(k,u,v,p)]:=by rw[take_add_one,hd];rfl
  obtain⟨u0,u1,v0,v1⟩:cX (m:Int) u v:=pt _ (mem_of_getElem? hd);refine⟨_,rfl,k,y,dr,_,rfl,hy,(eZ _ _ _ (by decide +kernel) (by decide +kernel) (by decide +kernel)),_,rfl,_,rfl,?_⟩
  by_cases hk:k=.pu
  ·refine ifF (decide_eq_false (fun z=>z hk)) ⟨s3,c,_,rfl,nc,?_⟩;rw[et,pP];unfold jO;rw[if_pos hk];exact ec
  ·refine ifT (decide_eq_true hk) ⟨_,rfl,_,rfl,c,y,mks m (ds.take i),k,u.toNat,v.toNat,.ref z',rfl,SqL.of ec,?_,by rw[pX];lia,by rw[pX];lia,by rw[pX];lia,fun c' H4 s4 nc' ec'=>⟨s3.trans s4,c',_,rfl,?_,?_⟩⟩
   ·rw[show ((u.toNat:Nat):Int)=u by lia,show ((v.toNat:Nat):Int)=v by lia];exact rw3
   ·exact((sD.trans s2).trans s3).free nc'
   ·rw[et,pP];unfold jO;rw[if_neg hk];exact ec'
 ·rintro σ H3 ⟨s3,c,z,rfl,nc,ec⟩;rw[show ds.take xs.length=ds by rw[lxs,take_length]] at ec;exact⟨_,rfl,q c H3 ((sD.trans s2).trans s3) nc ec⟩
theorem iW:(["point","mark","marks"]:List Str).Nodup:=by decide +kernel
abbrev Ha:Stmt:=top 31
theorem Kc:aQ ["net","marks"] ["net"] (aH Ha):=sK9
theorem Pz (F:aY K "floating" "floating" Ha dV f fd)(men:mg "enumerate"=none)(G1:D9 P w K mg base 5 g1 gd1 ["net"] (Ik CN K) "marks_of"):
  aK P w K mg base CX 6 f fd ["net"] (Kh CN K):=by
 refine F.ok9 Kc fun _ _ _ s H _ Q E hr h=>?_;obtain⟨n,l,m,ds,rfl,nt,pt,h1,hm,h100,q⟩:=h;refine⟨_,(aC (aS (i:=1) Kc.nd rfl (Or.inr rfl) (d9 G1 hr rfl (aA (pv 0) aD)))
  (aF (aV (dQ (nl:=2) (fr:=[1]) (Nc:=["point","mark","marks"]) (cl:=[("marks",s.heap.objs.size+1)]) (g:=(Ce K 2 (jR (iN 0) (jR (iN 1) Dz)))) rfl ⟨rfl,rfl,by decide +kernel,by decide +kernel,fun x c h=>h,dU rfl,rfl,fun i n h=>match i,h with | 0,h=>by cases h;exact⟨1,rfl,rfl,rfl,rfl,.inl rfl⟩ | k+1,h=>by rw[show 2+(k+1)=k+3 by lia] at h;cases h⟩
    (Bk rfl men rfl (aA (pv 1) aD)) (fun _ _ _ _ _=>(mB rfl (dH (bH (i:=0) iW rfl (Or.inl rfl)) (dH (bH (i:=1) iW rfl (Or.inl rfl)) jU)))) (fun _ _ _ _ _=>(kX (bK sZ (pv 1) (aU (kP (K:=K) rfl) (pv 2) aE (fun _ _=>rfl)) (bO _))))
    (fun _ _ _ _ _=>(pv 0)))))),?_⟩
 refine⟨_,rfl,n,l,m,ds,rfl,nt,pt,hm,h100,fun M H1 s1 nM eM=>?_⟩;have mlen:=pX m ds;have hS:SqL K H1 M ((mks m ds).map V.int):=SqL.of eM;refine⟨_,rfl,M,rfl,⟨_,hS⟩,fun D hD=>?_⟩;have sD:=aG hD (.lst []);refine xZ (xs:=(mks m ds).map V.int) (fun i zs H'=>aW H1 H'/\H' D=some (.lst zs)/\zs=(((List.range i).filter fun p=>decide (mk m ds p≠mk m ds 0)).map fun (p:Nat)=>V.int (p:Int))) ⟨sD,aB,rfl⟩ (fun i zs H' h=>h.2.1) (fun i zs H' _ h=>h.1.seq hS) ?_ ?_
 ·rintro i zs x H2 T2 hx ⟨s2,e2,rfl⟩ hT C hC;rw[getElem?_map] at hx;obtain⟨c,hc,rfl⟩:=Option.map_eq_some_iff.mp hx;have hi:i < m:=by have:=(List.getElem?_eq_some_iff.mp hc).1;lia
  have ec:c=mk m ds i:=by unfold mk;rw[getD_eq_getElem?_getD,hc];rfl
  have g0:atI ((mks m ds).map V.int) 0=some (.int (mk m ds 0)):=bY (j:=0) (by unfold mk;rw[getElem?_map,getElem?_eq_getElem (by lia),getD_eq_getElem?_getD,getElem?_eq_getElem (by lia)];rfl);have ll:(((List.range i).filter fun p=>decide (mk m ds p≠mk m ds 0)).map fun (p:Nat)=>V.int (p:Int)).length<=20:=by
   rw[length_map];have:=length_filter_le (fun p=>decide (mk m ds p≠mk m ds 0)) (List.range i);rw[length_range] at this;lia
  have sT:=aG hT (.tup [.int (i:Int),.int c]);refine⟨T2,_,rfl,SqT.of aB,rfl,_,_,rfl,_,_,rfl,rfl,jX.1,jX.2,?_⟩;generalize upd H2 T2 (.tup [.int (i:Int),.int c])=H3 at sT ⊢;have s3:=s2.trans sT;have e3:=sT _ _ e2;refine⟨_,rfl,_,rfl,M,_,_,_,rfl,rfl,s3.seq hS,g0,rfl,_,rfl,?_⟩;subst ec
  by_cases h:mk m ds i=mk m ds 0
  ·refine ifF (by rw[h];simp) (hC _ _ ⟨s3,e3,?_⟩);rw[range_succ,filter_append,filter_cons_of_neg (by simp[h])];simp
  ·refine ifT (by simp[h]) ⟨_,rfl,e3,aZ (by lia),hC _ _ ⟨s3.change hD,aB,?_⟩⟩;rw[range_succ,filter_append,filter_cons_of_pos (by simp[h]),map_append];rfl
 ·rintro zs H2 ⟨s2,e2,rfl⟩;refine q D H2 (s1.trans s2) (s1.free hD) ?_;rw[length_map,mlen] at e2;rw[e2];unfold iZ;rw[map_map];rfl
open Shp
theorem wZ:(["one","bottom"]:List Str).Nodup:=by decide +kernel
abbrev sIW:Stmt:=top 55
theorem To:aQ ["some","bottom","one"] ["some"] (aH sIW):=sK9
theorem qg1 (F:aY K "in_wholes" "in_wholes" sIW dV f fd)(G1:D9 P w K mg base 1 g1 gd1 ["one","other"] Gk "greatest_common"):
  aK P w K mg base CX 2 f fd ["some"] (Xu K):=by
 refine F.ok9 To fun _ _ _ s H _ Q E hr h=>?_;obtain⟨a,xs,ps,n,rfl,hS,hF,hP,hB,h100,hn,q⟩:=h;refine⟨_,(aC (aS (i:=1) To.nd rfl (Or.inr rfl) aE)
  (aC (fK PassesOwn.never rfl (cZ (pv 0)) (bH (i:=2) To.nd rfl (Or.inl rfl))
   (aF (aS (i:=1) To.nd rfl (Or.inr rfl) (aP cP (aP iJ (pv 1) (d9 G1 hr rfl (aA (pv 1) (aA (aU bC (pv 2) aE (fun _ _=>rfl)) aD)))) (aU bC (pv 2) aE (fun _ _=>rfl))))))
  (aF (aV (cU (aA (dQ (nl:=1) (fr:=[1]) (Nc:=["one","bottom"]) (cl:=[("bottom",s.heap.objs.size+1)]) rfl ⟨rfl,rfl,by decide +kernel,by decide +kernel,fun x c h=>h,dU rfl,rfl,fun i n h=>match i,h with | 0,h=>by cases h;exact⟨1,rfl,rfl,rfl,rfl,.inl rfl⟩ | k+1,h=>by rw[show 1+(k+1)=k+2 by lia] at h;cases h⟩
    (cZ (pv 0)) (fun _ _ _ _ _=>(bH (i:=0) wZ rfl (Or.inl rfl))) (fun _ _ _ _ _=>fL)
    (fun _ _ _ _ _=>(aP cP (aU (nV (K:=K) rfl) (pv 0) aE (fun _ _=>rfl)) (aP iJ (pv 1) (aU (nV (K:=K) rfl) (pv 0) aE (fun _ _=>rfl)))))) (aA (pv 1) aD))))))),?_⟩
 have lx:=hF.length;refine⟨_,rfl,a,rfl,⟨_,hS⟩,?_⟩;refine gC (xs:=xs) (fun i σ H'=>H'=H/\i<=ps.length/\∃z,σ=[some (.ref a),some (.int (dX (ps.take i))),z]) ⟨rfl,Nat.zero_le _,none,rfl⟩ (fun i σ H' _ h=>by rw[h.1];exact hS) ?_ ?_
 ·rintro i x σ H' hx ⟨rfl,hi,z,rfl⟩;obtain⟨u,p,rfl,ep,fu⟩:=hF.get hx;have hi':i < ps.length:=(List.getElem?_eq_some_iff.mp ep).1;obtain⟨f1,f2,_⟩:=oY hP hB i hi;have mono:=Nat.mul_le_mul_left n hi;have hp:=hP p (mem_of_getElem? ep);have pb:=(hB p (mem_of_getElem? ep)).b;have g0:gc (dX (ps.take i)) p.2≠0:=by have:=Mq.vH (a:=dX (ps.take i)) (by lia:p.2≠0);lia
  have gb:Mq.B n (gc (dX (ps.take i)) p.2):=by
   have:=Gc (t:=dX (ps.take i)) (by lia:p.2≠0);rw[Ad (by assumption)] at this;exact pb.le this
  have qb:Mq.B (1+n*i) (Int.fdiv (dX (ps.take i)) (gc (dX (ps.take i)) p.2)):=by
   have d1:gc (dX (ps.take i)) p.2 ∣ dX (ps.take i):=by unfold gc;exact Int.gcd_dvd_left ..
   obtain⟨k,hk⟩:=d1;have:=Mq.jL g0 hk;rw[gD g0 hk];exact f2.le this
  refine⟨_,rfl,_,rfl,cW rfl fu ⟨_,_,rfl,hV g0 gb (by lia) (cW rfl fu (cQ qb pb (by lia) (by lia) ?_))⟩⟩;refine⟨rfl,hi',some (.ref u),?_⟩;rw[Mq.nH ep];rfl
 rintro σ H' ⟨rfl,_,z,rfl⟩;rw[lx,take_length];obtain⟨f1,f2,f3⟩:=oY hP hB ps.length (Nat.le_refl _);rw[take_length] at f1 f2 f3;refine⟨_,rfl,a,rfl,⟨_,hS⟩,fun D hD=>?_⟩;have sD:=aG hD (.lst []);refine fC (xs:=xs) (fun i zs H1=>aW H' H1/\H1 D=some (.lst zs)/\zs=((ps.take i).map (Ez (dX ps))).map V.int) ⟨sD,aB,rfl⟩ (fun i zs H1 h=>h.2.1) (fun i zs H1 _ h=>h.1.seq hS) ?_ ?_
 ·rintro i zs x H1 hx ⟨s1,e1,rfl⟩ C hC;obtain⟨u,p,rfl,ep,fu⟩:=hF.get hx;have hi':i < ps.length:=(List.getElem?_eq_some_iff.mp ep).1;have mem:=mem_of_getElem? ep;have hp:=hP p mem;obtain⟨k,hk⟩:=f3 p mem;have fu1:=s1.fq fu;have kb:Mq.B (1+n*ps.length) (Int.fdiv (dX ps) p.2):=by
   have e:=gD (by lia:p.2≠0) (show dX ps=p.2*k by rw[hk,Int.mul_comm]);rw[e];refine f2.le ?_;rw[hk,Int.natAbs_mul];exact Nat.le_mul_of_pos_right _ (by lia)
  refine⟨dS.1,dS.2,fH ?_⟩;refine fU rfl fu1 ⟨_,rfl,cW rfl fu1 (hV (by lia:p.2≠0) (hB p mem).b (by lia) (cQ (hB p mem).a kb (by lia) (by lia) ?_))⟩;refine⟨e1,aZ (by rw[length_map,length_map,length_take];lia),hC _ _ ⟨s1.change hD,aB,?_⟩⟩;rw[take_add_one,ep,map_append,map_append];rfl
 rintro zs H1 ⟨s1,e1,rfl⟩;rw[lx,take_length] at e1;refine⟨_,rfl,zl9 2,fun t ht=>?_⟩;have s2:=aG ht (.tup [.ref D,.int (dX ps)]);exact q t D _ (s1.trans s2) hD (SqT.of aB) (s2 _ _ e1)
abbrev qd5:Stmt:=top 59
theorem Xs:aQ ["rows","rank","column","place"] ["rows","rank","column"] (aH qd5):=sK9
theorem Yo (F:aY K "pivot_place" "pivot_place" qd5 dV f fd)(ml:mg "len"=none)(mr:mg "range"=none):
  aK P w K mg base CX 1 f fd ["rows","rank","column"] (Xo K):=by
 refine F.ok9 Xs fun _ _ _ s H _ Q E hr h=>?_;obtain⟨l,D,zs,R,r,c,m,w',rfl,hS,hI,hm,hw,hc,hr',h100,q1,q2⟩:=h;refine⟨_,(aC (fK PassesOwn.never rfl (rP rfl mr (aA (pv 1) (aA (bV cJ rfl ml PySem.boot_len (aA (pv 0) aD)) aD))) (bH (i:=3) Xs.nd rfl (Or.inl rfl))
   (aF (cH (bK sZ (aU bU (aU bU (pv 0) (pv 3) (fun _ _=>rfl)) (pv 2) (fun _ _=>rfl)) aE (bO _)) (aF (aV (pv 3))) bM)))
  (aF (aV mE))),?_⟩
 have lz:=hI.length;obtain⟨k,hk⟩:∃k,m=r+k:=⟨m - r,by lia⟩
 refine⟨_,rfl,_,rfl,l,zs,rfl,.inl hS,(r:Int),(zs.length:Int),rfl,⟨by lia,by lia,by lia,by lia⟩,?_⟩;rw[show ((zs.length:Int) - (r:Int)).toNat=k by lia];refine iD (lo:=(r:Int)) (n:=k) (fun i σ H'=>H'=H/\(∀j,r<=j->j < r+i->ent R j c=0)/\∃z,σ=[some (.ref l),some (.int (r:Int)),some (.int (c:Int)),z]) ⟨rfl,fun j h1 h2=>absurd h1 (by lia),none,rfl⟩ ?_ ?_
 ·rintro i σ H' hi ⟨rfl,hz,z,rfl⟩;obtain⟨u,eu,nu,hu⟩:=hI.at (i:=r+i) (by lia);have eu':atI zs ((r:Int)+(i:Int))=some (.ref u):=by have:=bY eu;rwa [Int.natCast_add] at this
  have ec:=bY (lB (l:=R.getD (r+i) []) (i:=c) (by rw[hw _ (by lia)];exact hc));refine⟨_,rfl,_,rfl,l,zs,_,_,rfl,rfl,hS,eu',_,rfl,u,_,_,_,rfl,rfl,SqL.of hu,ec,rfl,_,rfl,qK (fun e=>?_) (fun e=>?_)⟩
  ·refine⟨_,rfl,?_⟩;have ne:ent R (r+i) c≠0:=fun z=>by
    have z':(R.getD (r+i) []).getD c 0=0:=z;rw[z'] at e;simp at e
   have:=q1 (r+i) (by lia) (by lia) ne
   rwa [Int.natCast_add] at this
  ·refine⟨rfl,fun j h1 h2=>?_,_,rfl⟩
   by_cases hj:j=r+i
   ·rw[hj];simp at e;exact e
   ·exact hz j h1 (by lia)
 ·rintro σ H' ⟨rfl,hz,z,rfl⟩;exact q2 fun i h1 h2=>hz i h1 (by lia)
theorem eQ:(["here","above","own","other","divisor"]:List Str).Nodup:=by decide +kernel
abbrev qa3:Stmt:=top 61
theorem Oe:aQ ["row","upper","column","divisor","own","other"] ["row","upper","column","divisor"] (aH qa3):=sK9
theorem qa7 (F:aY K "cleared" "cleared" qa3 dV f fd)(mz:mg "zip"=none):
  aK P w K mg base CX 1 f fd ["row","upper","column","divisor"] (yN K):=by
 refine F.ok9 Oe fun _ _ _ s H _ Q E hr h=>?_;obtain⟨u,v,row,upper,c,n,dv,rfl,hu,hv,hl,h100,hc,hd,b1,b2,bd,hn,q⟩:=h;refine⟨_,(aC (aS (i:=4) Oe.nd rfl (Or.inr rfl) (aU bU (pv 1) (pv 2) (fun _ _=>rfl)))
  (aC (aS (i:=5) Oe.nd rfl (Or.inr rfl) (aU bU (pv 0) (pv 2) (fun _ _=>rfl)))
  (aF (aV (dQ (nl:=2) (fr:=[4,5,3]) (Nc:=["here","above","own","other","divisor"]) (cl:=[("own",s.heap.objs.size+2),("other",s.heap.objs.size+3),("divisor",s.heap.objs.size+1)]) (g:=(Ce K 2 (jR (iN 0) (jR (iN 1) Dz)))) rfl ⟨rfl,rfl,by decide +kernel,by decide +kernel,(dA rfl (dA rfl (dA rfl (jT)))),dU rfl,rfl,fun i n h=>match i,h with | 0,h=>by cases h;exact⟨4,rfl,rfl,rfl,rfl,.inl rfl⟩ | 1,h=>by cases h;exact⟨5,rfl,rfl,rfl,rfl,.inl rfl⟩ | 2,h=>by cases h;exact⟨3,rfl,rfl,rfl,rfl,.inl rfl⟩ | k+3,h=>by rw[show 2+(k+3)=k+5 by lia] at h;cases h⟩
    (Gp rfl mz rfl (aA (pv 0) (aA (pv 1) aD))) (fun _ _ _ _ _=>(mB rfl (dH (bH (i:=0) eQ rfl (Or.inl rfl)) (dH (bH (i:=1) eQ rfl (Or.inl rfl)) jU)))) (fun _ _ _ _ _=>fL)
    (fun _ _ _ _ _=>(aP iJ (aP gR (aP cP (pv 2) (pv 0)) (aP cP (pv 3) (pv 1))) (pv 4)))))))),?_⟩
 have e1:=bY (lB (l:=upper) (i:=c) (by lia));have e2:=bY (lB (l:=row) (i:=c) (by assumption));refine⟨_,rfl,_,rfl,v,_,_,_,rfl,rfl,hv,e1,?_⟩;refine⟨_,rfl,_,rfl,u,_,_,_,rfl,rfl,hu,e2,?_⟩;refine⟨_,rfl,_,rfl,u,v,rfl,⟨_,hu⟩,⟨_,hv⟩,fun D hD=>?_⟩;have sD:=aG hD (.lst []);refine vZ (xs:=row.map V.int) (ys:=upper.map V.int) (fun i zs H'=>aW H H'/\H' D=some (.lst zs)/\zs=((gV upper row c dv).take i).map V.int) ⟨sD,aB,rfl⟩ (fun i zs H' h=>h.2.1) (fun i zs H' _ h=>⟨h.1.seq hu,h.1.seq hv⟩) ?_ ?_
 ·rintro i zs x y H1 T1 ex ey ⟨s1,e1',rfl⟩ hT C hC;have hi:i < row.length:=by have:=(List.getElem?_eq_some_iff.mp ex).1;simpa using this
  have ex':x=.int (row.getD i 0):=by rw[lB hi] at ex;cases ex;rfl
  have ey':y=.int (upper.getD i 0):=by rw[lB (by lia)] at ey;cases ey;rfl
  subst ex' ey';have sT:=aG hT (.tup [.int (row.getD i 0),.int (upper.getD i 0)]);refine⟨T1,_,rfl,SqT.of aB,rfl,_,_,rfl,_,_,rfl,rfl,jX.1,jX.2,fH ?_⟩;have mm:Mq.B (n+n+1) (upper.getD c 0*row.getD i 0 - row.getD c 0*upper.getD i 0):=Mq.B.sub ((b2 c).mul (b1 i)) ((b1 c).mul (b2 i));refine⟨_,rfl,_,rfl,cQ (b2 c) (b1 i) (by lia) (by lia) ⟨_,rfl,_,rfl,cQ (b1 c) (b2 i) (by lia) (by lia) ⟨_,_,rfl,rfl,_,rfl,hV hd bd (by assumption) ?_⟩⟩⟩;have ll:(gV upper row c dv).length=row.length:=by unfold gV;rw[length_zipWith];lia
  have eA:=sT _ _ e1';refine⟨eA,aZ (by rw[length_map,length_take];lia),hC _ _ ⟨(s1.trans sT).change hD,aB,?_⟩⟩;have eg:(gV upper row c dv)[i]?=some (Int.fdiv (upper.getD c 0*row.getD i 0 - row.getD c 0*upper.getD i 0) dv):=by
   unfold gV;rw[getElem?_zipWith,mQ hi,mQ (by lia:i < upper.length)]
  rw[take_add_one,eg,map_append];rfl
 rintro zs H1 ⟨s1,e1',rfl⟩;have ll:(gV upper row c dv).length=row.length:=by unfold gV;rw[length_zipWith];lia
 rw[length_map,length_map,take_of_length_le (by rw[ll];lia)] at e1';exact q D H1 s1 hD e1'
theorem dB:(["place","row","upper","rank","divisor","column"]:List Str).Nodup:=by decide +kernel
abbrev vV:Stmt:=top 60
theorem xY:aQ ["rows","rank","column","divisor","upper"] ["rows","rank","column","divisor"] (aH vV):=sK9
theorem Hs (F:aY K "cleared_rows" "cleared_rows" vV dV f fd)(men:mg "enumerate"=none)(G1:D9 P w K mg base 1 g1 gd1 ["row","upper","column","divisor"] (yN K) "cleared"):
  aK P w K mg base CX 2 f fd ["rows","rank","column","divisor"] (yO K):=by
 refine F.ok9 xY fun _ _ _ s H _ Q E hr h=>?_;obtain⟨l,D0,zs,R,r,c,m,w',n,dv,rfl,hS,hI,hm,hw,hc,hw100,hr',h100,hd,hB,bd,hn,q⟩:=h;refine⟨_,(aC (aS (i:=4) xY.nd rfl (Or.inr rfl) (aU bU (pv 0) (pv 1) (fun _ _=>rfl)))
  (aF (aV (dQ (nl:=2) (fr:=[4,1,3,2]) (Nc:=["place","row","upper","rank","divisor","column"]) (cl:=[("upper",s.heap.objs.size+4),("rank",s.heap.objs.size+1),("divisor",s.heap.objs.size+3),("column",s.heap.objs.size+2)]) (g:=(Ce K 2 (jR (iN 0) (jR (iN 1) Dz)))) rfl ⟨rfl,rfl,by decide +kernel,by decide +kernel,(dA rfl (dA rfl (dA rfl (dA rfl (jT))))),dU rfl,rfl,fun i n h=>match i,h with | 0,h=>by cases h;exact⟨4,rfl,rfl,rfl,rfl,.inl rfl⟩ | 1,h=>by cases h;exact⟨1,rfl,rfl,rfl,rfl,.inl rfl⟩ | 2,h=>by cases h;exact⟨3,rfl,rfl,rfl,rfl,.inl rfl⟩ | 3,h=>by cases h;exact⟨2,rfl,rfl,rfl,rfl,.inl rfl⟩ | k+4,h=>by rw[show 2+(k+4)=k+6 by lia] at h;cases h⟩
    (Bk rfl men rfl (aA (pv 0) aD)) (fun _ _ _ _ _=>(mB rfl (dH (bH (i:=0) dB rfl (Or.inl rfl)) (dH (bH (i:=1) dB rfl (Or.inl rfl)) jU)))) (fun _ _ _ _ _=>fL)
    (fun _ _ _ _ _=>(vO (bK fZ (pv 0) (pv 3) (bO _)) (pv 1) (d9 G1 hr rfl (aA (pv 1) (aA (pv 2) (aA (pv 5) (aA (pv 4) aD))))))))))),?_⟩
 have lz:=hI.length;obtain⟨v,ev,nv,hv⟩:=hI.at (i:=r) (by lia);refine⟨_,rfl,_,rfl,l,zs,_,_,rfl,rfl,hS,bY ev,?_⟩;refine⟨_,rfl,l,rfl,⟨_,hS⟩,fun D hD=>?_⟩;have sD:=aG hD (.lst []);have ll:=Mq.Jb R r c dv;refine xZ (xs:=zs) (fun i ys H'=>aW H H'/\H' D=some (.lst ys)/\Imx D H' ys ((cG R r c dv).take i)) ⟨sD,aB,.nil⟩ (fun i ys H' h=>h.2.1) (fun i ys H' _ h=>h.1.seq hS) ?_ ?_
 ·rintro i ys x H1 T1 ex ⟨s1,e1,I1⟩ hT C hC;have hi:i < m:=by have:=(List.getElem?_eq_some_iff.mp ex).1;lia
  obtain⟨u,eu,nu,hu⟩:=hI.at (i:=i) (by lia);have exu:x=.ref u:=by rw[eu] at ex;cases ex;rfl
  subst exu;have lI:=I1.length;rw[length_take] at lI;have cg:=pB (R:=R) (i:=i) (by lia) r c dv;have cs:(cG R r c dv).take (i+1)=(cG R r c dv).take i++[(cG R r c dv).getD i []]:=by
   rw[take_add_one,getD_eq_getElem?_getD,getElem?_eq_getElem (by lia:i < (cG R r c dv).length)];rfl
  have sT:=aG hT (.tup [.int (i:Int),.ref u]);have uD:∀{x:Addr} {o:HO},H x=some o->x≠D:=fun h z=>by rw[z,hD] at h;cases h
  refine⟨T1,_,rfl,SqT.of aB,rfl,_,_,rfl,_,_,rfl,rfl,jX.1,jX.2,fH ?_⟩;generalize upd H1 T1 (.tup [.int (i:Int),.ref u])=H2 at sT ⊢;have sA:=s1.trans sT;have eA:=sT _ _ e1;refine⟨_,rfl,_,rfl,rfl,_,rfl,qK (fun e=>?_) (fun e=>?_)⟩
  ·have ei:i=r:=by simp at e;lia
   refine⟨_,rfl,eA,aZ (by lia),hC _ _ ⟨sA.change hD,aB,?_⟩⟩;rw[cs,cg,if_pos ei];exact((I1.same sT).app (.cons (uD hu) (sA _ _ hu) .nil)).upd
  ·have ei:i≠r:=by simp at e;lia
   refine⟨_,rfl,_,rfl,_,rfl,_,rfl,u,v,R.getD i [],R.getD r [],c,n,dv,rfl,SqL.of (sA _ _ hu),SqL.of (sA _ _ hv),by rw[hw i hi,hw r hr'],by rw[hw i hi];exact hw100,by rw[hw i hi];exact hc,hd,fun j=>hB i j,fun j=>hB r j,bd,hn,fun l3 H3 s3 n3 e3=>?_⟩;have eB:=s3 _ _ eA;have n3':l3≠D:=fun z=>by rw[z,eA] at n3;cases n3
   refine⟨eB,aZ (by lia),hC _ _ ⟨(sA.trans s3).change hD,aB,?_⟩⟩;rw[cs,cg,if_neg ei];exact((I1.same (sT.trans s3)).app (.cons n3' e3 .nil)).upd
 rintro ys H1 ⟨s1,e1,I1⟩;rw[lz,take_of_length_le (by lia)] at I1;exact q D ys H1 s1 hD e1 I1
abbrev Rc:Stmt:=top 58
theorem iT:aQ ["rows","width","rank","pivot","sign","column","place","lifted"] ["rows","width"] (aH Rc):=sK9
theorem Vn (F:aY K "eliminated" "eliminated" Rc dV f fd)(mr:mg "range"=none)(mli:mg "list"=none)(G1:D9 P w K mg base 1 g1 gd1 ["rows","rank","column"] (Xo K) "pivot_place")(G2:D9 P w K mg base 2 g2 gd2 ["rows","rank","column","divisor"] (yO K) "cleared_rows"):
  aK P w K mg base CX 3 f fd ["rows","width"] (Ki K):=by
 refine F.ok9 iT fun _ _ _ s H _ Q E hr h=>?_;obtain⟨l,D0,zs,R,m,w',n,Pr,rfl,hS,hI,hm,hw,hmw,hw100,hB,hn1,hn,hm31,hPr,hSt,q⟩:=h;have r1:=hr.mono (by decide:1<=2);refine⟨_,(aC (aS (i:=0) iT.nd rfl (Or.inl rfl) (iF gW rfl mli PyProof.Rows.boot_list (aA (pv 0) aD)))
  (aC (aS (i:=2) iT.nd rfl (Or.inl rfl) aE)
  (aC (aS (i:=3) iT.nd rfl (Or.inl rfl) aE)
  (aC (aS (i:=4) iT.nd rfl (Or.inl rfl) aE)
  (aC (fK PassesOwn.never rfl (fR rfl mr (aA (pv 1) aD)) (bH (i:=5) iT.nd rfl (Or.inl rfl))
   (aC (aS (i:=6) iT.nd rfl (Or.inl rfl) (d9 G1 r1 rfl (aA (pv 0) (aA (pv 2) (aA (pv 5) aD)))))
  (aC (cH (sM (zR (pv 6))) (aF De) bM)
  (aC (cH (bK sZ (pv 6) (pv 2) (bO _)) (aC (aS (i:=7) iT.nd rfl (Or.inl rfl) (aU bU (pv 0) (pv 6) (fun _ _=>rfl)))
  (aC (Ah (aU bU (pv 0) (pv 2) (fun _ _=>rfl)) (zV (pv 0) (pv 6) qT))
  (aC (Ah (pv 7) (zV (pv 0) (pv 2) qT))
  (aF (aS (i:=4) iT.nd rfl (Or.inl rfl) (wH oN (pv 4))))))) bM)
  (aC (aS (i:=0) iT.nd rfl (Or.inl rfl) (d9 G2 hr rfl (aA (pv 0) (aA (pv 2) (aA (pv 5) (aA (pv 3) aD))))))
  (aC (aS (i:=3) iT.nd rfl (Or.inl rfl) (aU bU (aU bU (pv 0) (pv 2) (fun _ _=>rfl)) (pv 5) (fun _ _=>rfl)))
  (aF (Fh (i:=2) iT.nd rfl (Or.inl rfl) aE Ft))))))))
  (aF (aV (Ju (mL dD (pv 0) (mL dD (pv 2) (mL dD (pv 3) (mL dD (pv 4) Jz)))) rfl rfl (by simp) (by decide))))))))),?_⟩
 refine⟨_,rfl,l,zs,rfl,.inl hS,fun l0 hl0=>?_⟩;have s0:=aG hl0 (.lst zs);have e0:upd H l0 (.lst zs) l0=some (.lst zs):=aB;generalize upd H l0 (.lst zs)=H0 at s0 e0 ⊢;refine⟨_,rfl,(m:Int),rfl,by lia,by lia,?_⟩;rw[Int.toNat_natCast];have b1:Mq.B n 1:=by
  show 1 < 2 ^ n;exact Nat.one_lt_two_pow (by lia)
 refine iD (lo:=0) (n:=m) (fun i σ H'=>aW H H'/\∃(lR:Addr) (zs':List V) (R':List (List Int)) (rank:Nat) (pivot sign:Int) (z5 z6 z7:Option V),σ=[some (.ref lR),some (.int (m:Int)),some (.int (rank:Int)),some (.int pivot),some (.int sign),z5,z6,z7]/\H lR=none/\H' lR=some (.lst zs')/\Imx lR H' zs' R'/\SI m w' (Mq.at2 R) R' rank i pivot sign/\Mq.SB n m R' rank i pivot/\Pr R') ⟨s0,l0,zs,R,0,1,1,none,none,none,rfl,hl0,e0,(hI.other hl0).same s0,.start hm hw,.start hB,hPr⟩ ?_ ?_
 ·rintro i σ H1 hi ⟨s1,lR,zs',R',rank,pivot,sign,z5,z6,z7,rfl,nR,eR,I1,S1,sb,p1⟩;rw[Int.zero_add];obtain⟨bR,bP⟩:=sb.bd5 S1 hm31;obtain⟨A1,c1,B1,_⟩:=S1.bar;have rm:=B1.rm;have rc:=B1.rc;have dn:pivot≠0:=fun z=>B1.dne (by rw[z];simp);clear B1;refine⟨_,rfl,_,rfl,_,rfl,lR,lR,zs',R',rank,i,m,w',rfl,SqL.of eR,I1,S1.len,S1.wid,by lia,rm,by lia,fun p h1 h2 ne=>?_,fun hz=>?_⟩
  ·refine⟨_,rfl,_,rfl,dC ?_⟩;have hrm:rank < m:=by lia
   refine(fun (hrest:∀(sg:Int) (z:Option V) (Hx:Hp) (zs2:List V) (R2:List (List Int)),aW H Hx->Hx lR=some (.lst zs2)->Imx lR Hx zs2 R2->SI m w' (Mq.at2 R) R2 rank i pivot sg->ent R2 rank i≠0->Mq.SB n m R2 rank i pivot->Pr R2->W.KIN.Hid ((?T:Int->Option V->Hp->Prop) sg z Hx))=>?main) ?rest
   case main=>
    refine⟨_,rfl,_,rfl,rfl,_,rfl,qK (fun e=>?c1) (fun e=>?c2)⟩
    case c1=>
     have npr:p≠rank:=by simp at e;lia
     obtain⟨up,eup,nup,hup⟩:=I1.at (i:=p) (by rw[S1.len];assumption);obtain⟨ur,eur,nur,hur⟩:=I1.at (i:=rank) (by rw[S1.len];assumption);have lz:zs'.length=m:=I1.length.trans S1.len;refine⟨_,rfl,_,rfl,lR,zs',_,_,rfl,rfl,SqL.of eR,bY eup,?_⟩;refine⟨_,rfl,_,rfl,lR,zs',_,_,rfl,rfl,SqL.of eR,bY eur,_,rfl,_,rfl,lR,zs',_,p,rfl,rfl,eR,uC (by lia),?_⟩;have e2:upd H1 lR (.lst (zs'.set p (.ref ur))) lR=some (.lst (zs'.set p (.ref ur))):=aB;have I2:=(Imx.set nur hur p I1).upd (o:=.lst (zs'.set p (.ref ur)));have s2:aW H (upd H1 lR (.lst (zs'.set p (.ref ur)))):=s1.change nR;have hup2:upd H1 lR (.lst (zs'.set p (.ref ur))) up=some (.lst ((R'.getD p []).map V.int)):=by rw[aL nup];exact hup
     generalize upd H1 lR (.lst (zs'.set p (.ref ur)))=H2 at e2 I2 s2 hup2 ⊢;refine⟨_,rfl,_,rfl,_,rfl,lR,_,_,rank,rfl,rfl,e2,uC (by rw[length_set];lia),?_⟩;have e3:upd H2 lR (.lst ((zs'.set p (.ref ur)).set rank (.ref up))) lR=some (.lst ((zs'.set p (.ref ur)).set rank (.ref up))):=aB;have I3:=(Imx.set nup hup2 rank I2).upd (o:=.lst ((zs'.set p (.ref ur)).set rank (.ref up)));have s3:aW H (upd H2 lR (.lst ((zs'.set p (.ref ur)).set rank (.ref up)))):=s2.change nR;generalize upd H2 lR (.lst ((zs'.set p (.ref ur)).set rank (.ref up)))=H3 at e3 I3 s3 ⊢;refine⟨_,rfl,_,rfl,?_⟩;show gJ _ _ _ [some (.ref lR),some (.int (m:Int)),some (.int (rank:Int)),some (.int pivot),some (.int (-sign)),some (.int (i:Int)),some (.int (p:Int)),some (.ref up)] H3;have S3:=S1.swap (p:=p) (by lia) h2;have bR3:=sb.swap S1 (p:=p) (by lia) h2;have ne3:ent (fY R' p rank) rank i≠0:=by
      unfold ent;rw[Bg (by rw[S1.len];assumption) (by rw[S1.len];assumption)];have:Mq.sw p rank rank=p:=by unfold Mq.sw;rw[if_pos rfl]
      rw[this];exact ne
     have I3':Imx lR H3 ((zs'.set p (.ref ur)).set rank (.ref up)) (fY R' p rank):=I3;clear I3 hup2;have p3:=hSt.sw _ _ _ _ _ _ S1 (by lia:rank < p) h2 p1;generalize -sign=sg at S3 ⊢;generalize some (V.ref up)=zz at ⊢;exact(hrest sg zz H3 _ _ s3 e3 I3' S3 ne3 bR3 p3).out
    case c2=>
     have epr:p=rank:=by simp at e;lia
     show gJ _ _ _ [some (.ref lR),some (.int (m:Int)),some (.int (rank:Int)),some (.int pivot),some (.int sign),some (.int (i:Int)),some (.int (p:Int)),z7] H1;exact(hrest sign z7 H1 _ _ s1 eR I1 S1 (by rw[<- epr];exact ne) sb p1).out
   case rest=>
   intro sg z Hx zs2 R2 sx ex Ix Sx nx bx px;refine⟨?_⟩;have bxx:=bx.bd5 Sx hm31;refine⟨_,rfl,_,rfl,_,rfl,_,rfl,lR,lR,zs2,R2,rank,i,m,w',bw n m,pivot,rfl,SqL.of ex,Ix,Sx.len,Sx.wid,by lia,hw100,hrm,by lia,dn,bxx.1,bxx.2,hn,fun l3 zs3 H3 s3 n3 e3 I3=>?_⟩;have S3:=Sx.clear hrm (by lia) nx;have b3:=bx.clear Sx hrm (by lia) nx;obtain⟨u,eu,nu,hu⟩:=I3.at (i:=rank) (by rw[S3.len];assumption);have ec:=bY (lB (l:=(cG R2 rank i pivot).getD rank []) (i:=i) (by rw[S3.wid _ hrm];lia));refine⟨_,rfl,_,rfl,l3,zs3,_,_,rfl,rfl,SqL.of e3,bY eu,_,rfl,u,_,_,_,rfl,rfl,SqL.of hu,ec,?_⟩;refine⟨_,rfl,_,_,rfl,rfl,?_⟩;have ev:((cG R2 rank i pivot).getD rank []).getD i 0=ent R2 rank i:=by rw[pB (by rw[Sx.len];assumption),if_pos rfl];rfl
   refine⟨sx.trans s3,l3,zs3,_,rank+1,ent R2 rank i,sg,some (.int (i:Int)),some (.int (p:Int)),z,?_,sx.free n3,e3,I3,S3,b3,hSt.cl _ _ _ _ _ Sx hrm (by lia) nx px⟩;rw[ev];rfl
  ·refine⟨_,rfl,_,rfl,fH ?_⟩;exact⟨s1,lR,zs',R',rank,pivot,sign,_,_,_,rfl,nR,eR,I1,S1.skip hz,sb.skip hz,p1⟩
 ·rintro σ H1 ⟨s1,lR,zs',R',rank,pivot,sign,z5,z6,z7,rfl,nR,eR,I1,S1,sb,p1⟩;obtain⟨bR,bP⟩:=sb.bd5 S1 hm31;obtain⟨A1,c1,B1,_⟩:=S1.bar;have rm:=B1.rm;intro d hd;have nd:lR≠d:=fun z=>by rw[z,hd] at eR;cases eR
  refine⟨_,rfl,_,rfl,_,rfl,_,rfl,aB,[(.inr "rows",.ref lR),(.inr "rank",.int (rank:Int)),(.inr "pivot",.int pivot),(.inr "sign",.int sign)],rfl,by show 4<=15;decide,?_⟩;have sd:aW H1 (upd (upd H1 d (.dK [])) d (Re lR rank pivot sign)):=(aG hd _).change hd;exact q d lR zs' R' rank pivot sign _ (s1.trans sd) (s1.free hd) nR aB (sd _ _ eR) (I1.same sd) S1 bR bP p1
theorem sQ:(["row","side"]:List Str).Nodup:=by decide +kernel
theorem tL:(["row","many","end"]:List Str).Nodup:=by decide +kernel
abbrev Bm:Stmt:=top 54
theorem pL:aQ ["matrix","right","many","rows","end"] ["matrix","right"] (aH Bm):=sK9
theorem Mo (F:aY K "solved" "solved" Bm dV f fd)(ml:mg "len"=none)(mz:mg "zip"=none)(G1:D9 P w K mg base 2 g1 gd1 ["some"] (Xu K) "in_wholes")(G2:D9 P w K mg base 3 g2 gd2 ["rows","width"] (Ki K) "eliminated")(G3:D9 P w K mg base 2 g3 gd3 ["top","bottom"] oP "fraction"):
  aK P w K mg base CX 5 f fd ["matrix","right"] (xM K):=by
 refine F.ok9 pL fun _ _ _ s H _ Q E hr h=>?_;obtain⟨g,bR,D0,H00,us,bs,X,qs,k,n,rfl,hU,hX,hB,hQ,ql,qL,qB,xP,xB,x4,hk,hBd,hn1,hnb,hz0,q⟩:=h;have hu:=pH hr;have r3:=hr.mono (by decide:3<=4);have r2:=hr.mono (by decide:2<=4);refine⟨_,(aC (aS (i:=2) pL.nd rfl (Or.inr rfl) (bV cJ rfl ml PySem.boot_len (aA (pv 0) aD)))
  (aC (tZ (i:=3) (nl:=2) (fr:=[]) (Nc:=["row","side"]) (cl:=[]) (g:=(Ce K 2 (jR (iN 0) (jR (iN 1) Dz)))) pL.nd rfl rfl rfl ⟨rfl,rfl,by decide +kernel,by decide +kernel,fun x c h=>(by cases h),dU rfl,rfl,fun i n h=>(by simp at h)⟩
    (Gp rfl mz rfl (aA (pv 0) (aA (pv 1) aD))) (fun _ _ _ _ _=>(mB rfl (dH (bH (i:=0) sQ rfl (Or.inl rfl)) (dH (bH (i:=1) sQ rfl (Or.inl rfl)) jU)))) (fun _ _ _ _ _=>fL)
    (fun _ _ _ _ _=>(aU (nV (K:=K) rfl) (d9 G1 r2 rfl (aA (aP oV (pv 0) (dG (aA (pv 1) aD))) aD)) aE (fun _ _=>rfl))) rfl)
  (aC (aS (i:=4) pL.nd rfl (Or.inr rfl) (d9 G2 r3 rfl (aA (pv 3) (aA (pv 2) aD))))
  (aC (cH (bK Di (qA hu (pv 4) dD (fun _ _=>rfl)) (pv 2) (bO _)) (aF jK) bM)
  (aF (aV (dQ (nl:=1) (fr:=[2,4]) (Nc:=["row","many","end"]) (cl:=[("many",s.heap.objs.size+1),("end",s.heap.objs.size+2)]) rfl ⟨rfl,rfl,by decide +kernel,by decide +kernel,(dA rfl (dA rfl (jT))),dU rfl,rfl,fun i n h=>match i,h with | 0,h=>by cases h;exact⟨2,rfl,rfl,rfl,rfl,.inl rfl⟩ | 1,h=>by cases h;exact⟨4,rfl,rfl,rfl,rfl,.inl rfl⟩ | k+2,h=>by rw[show 1+(k+2)=k+3 by lia] at h;cases h⟩
    (cZ (qA hu (pv 4) dD (fun _ _=>rfl))) (fun _ _ _ _ _=>(bH (i:=0) tL rfl (Or.inl rfl))) (fun _ _ _ _ _=>fL)
    (fun _ _ _ _ _=>(d9 G3 r2 rfl (aA (aU (kP (K:=K) rfl) (pv 0) (pv 1) (fun _ _=>rfl)) (aA (qA hu (pv 2) dD (fun _ _=>rfl)) aD))))))))))),?_⟩
 have lu:=hX.length;have lb:=hQ.length;have hw:∀row∈X,row.length=X.length:=fun row h=>(xB row h).2;have qP:=qL.pos;have lA:=Eg ql;refine⟨_,rfl,g,us,rfl,.inl hU,?_⟩;refine⟨_,rfl,_,rfl,g,bR,rfl,⟨_,hU⟩,⟨_,hB⟩,fun D hD=>?_⟩;have sD:=aG hD (.lst []);refine vZ (xs:=us) (ys:=bs) (fun i zs H'=>aW H H'/\H' D=some (.lst zs)/\Imx D H' zs ((iP X qs).take i)) ⟨sD,aB,.nil⟩ (fun i zs H' h=>h.2.1) (fun i zs H' _ h=>⟨h.1.seq hU,h.1.seq hB⟩) ?_ ?_
 ·rintro i zs x y H1 T1 ex ey ⟨s1,e1,I1⟩ hT C hC;obtain⟨u,ys,row,rfl,er,_,_,hu',fu⟩:=hX.get ex;obtain⟨v,qv,rfl,eq,fv⟩:=hQ.get ey;have hi:i < X.length:=(List.getElem?_eq_some_iff.mp er).1;have mem:=mem_of_getElem? er;have memq:=mem_of_getElem? eq;obtain⟨rb,rl⟩:=xB row mem;have lys:=fu.length;have sT:=aG hT (.tup [.ref u,.ref v]);refine⟨T1,_,rfl,SqT.of aB,rfl,_,_,rfl,_,_,rfl,rfl,jX.1,jX.2,fH ?_⟩;generalize upd H1 T1 (.tup [.ref u,.ref v])=H2 at sT ⊢;have s2:=s1.trans sT;refine⟨_,rfl,_,rfl,zl9 1,fun lo hlo=>?_⟩;have s3:=aG hlo (.lst [.ref v]);have e3:upd H2 lo (.lst [.ref v]) lo=some (.lst [.ref v]):=aB;generalize upd H2 lo (.lst [.ref v])=H3 at s3 e3 ⊢;have s03:=s2.trans s3;refine⟨u,lo,_,_,rfl,rfl,s03 _ _ hu',e3,Nat.le_of_lt (aZ (by simp only[length_cons,length_nil];lia)),fun p hp=>?_⟩;have s4:=aG hp (.lst (ys++[.ref v]));have e4:upd H3 p (.lst (ys++[.ref v])) p=some (.lst (ys++[.ref v])):=aB;generalize upd H3 p (.lst (ys++[.ref v]))=H4 at s4 e4 ⊢;have s04:=s03.trans s4;have s14:=sT.trans (s3.trans s4);refine⟨p,_,row++[qv],k,rfl,SqL.of e4,(fu.same s04).app (.cons (s04.fq fv) .nil),fun z hz=>?_,fun z hz=>?_,by rw[List.length_append];simp only[length_cons,length_nil];lia,by rw[List.length_append,rl];simp only[length_cons,length_nil];rw[show X.length+(0+1)=X.length+1 by lia];assumption,fun t l H5 s5 nl ht hl=>?_⟩
  ·rcases mem_append.mp hz with z1 | z1
   ·exact xP row mem z z1
   ·have:z=qv:=by simpa using z1
    rw[this];exact qP qv memq
  ·rcases mem_append.mp hz with z1 | z1
   ·exact rb z z1
   ·have:z=qv:=by simpa using z1
    rw[this];exact qB qv memq
  have s15:=s14.trans s5;have e5:=s15 _ _ e1;have ne:l≠D:=fun z=>by rw[z,s14 _ _ e1] at nl;cases nl
  have lz:=I1.length;rw[length_take,lA] at lz;refine⟨t,_,_,_,rfl,rfl,ht,rfl,e5,aZ (by lia),hC _ _ ⟨(s1.trans s15).change hD,aB,?_⟩⟩;have ee:(iP X qs).take (i+1)=(iP X qs).take i++[iw (row++[qv])]:=by
   rw[take_add_one];unfold iP mH;rw[getElem?_map,getElem?_zipWith,er,eq];rfl
  rw[ee];exact((I1.same s15).app (.cons ne hl .nil)).upd
 rintro zs H1 ⟨s1,e1,I1⟩;rw[show min us.length bs.length=(iP X qs).length by lia,take_length] at I1;have bits4:bw n X.length<=9000:=Nat.le_trans hnb (by decide);have wA:∀i,i < X.length->((iP X qs).getD i []).length=X.length+1:=fun i hi=>by
  rw[wQ ql hi,uR,List.length_append,hw _ (mem_of_getElem? (xC hi))];rfl
 refine⟨_,rfl,_,rfl,D,D,zs,iP X qs,X.length,X.length+1,n,fun R=>Mq.KI X.length (Mq.at2 (iP X qs)) R/\Mq.KJ X.length (Mq.at2 (iP X qs)) R,by rw[lu];rfl,SqL.of e1,I1,lA,wA,by lia,by lia,hBd,hn1,by assumption,by lia,⟨fun Φ _ hz=>hz,fun Φ _ hz=>hz⟩,Sa,fun d lE zE R' rank pivot sign H2 s2 nd nlE ed el IE SE bE bp LE=>?_⟩;obtain⟨g1',g2',g3',g4'⟩:=Cf ed;have s02:=s1.trans s2;have wr:=Qj xP qP ql hw SE;refine⟨_,rfl,d,_,rfl,g2',_,rfl,_,_,rfl,rfl,_,rfl,qK (fun e=>?_) (fun e=>?_)⟩
 ·-- lame
  have hr':rank < X.length:=by simp at e;lia
  have hz:wgt X=0:=by
   rcases wr with z | z
   ·exact z.2
   ·lia
  exact absurd hz hz0
 ·-- whole
  have hr':rank=X.length:=by
   rcases wr with z | z
   ·simp at e;lia
   ·exact z.1
  have hz:wgt X≠0:=by
   rcases wr with z | z
   ·assumption
   ·exact z.2
  subst hr';have dn:=SE.dne;have pn:pivot≠0:=fun z=>dn (by rw[z];simp);have lzE:=IE.length;rw[SE.len] at lzE;refine⟨_,rfl,d,_,rfl,g1',lE,rfl,⟨_,SqL.of el⟩,fun D2 hD2=>?_⟩;have sD2:=aG hD2 (.lst []);refine fC (xs:=zE) (fun i ws H'=>aW H2 H'/\H' D2=some (.lst ws)/\Fqs K H' ws ((List.range i).map fun i=>red (ent R' i X.length) pivot)) ⟨sD2,aB,.nil⟩ (fun i ws H' h=>h.2.1) (fun i ws H' _ h=>h.1.seq (SqL.of el)) ?_ ?_
  ·rintro i ws x H3 hx ⟨s3,e3,F3⟩ C hC;have hi:i < X.length:=by have:=(List.getElem?_eq_some_iff.mp hx).1;lia
   obtain⟨u,eu,nu,hu2⟩:=IE.at (i:=i) (by rw[SE.len];exact hi);have exu:x=.ref u:=by rw[eu] at hx;cases hx;rfl
   subst exu;have wid:=SE.wid i hi;have lz:=F3.length;rw[length_map,length_range] at lz;have ea:=bY (lB (l:=R'.getD i []) (i:=X.length) (by lia));rw[<- lu] at ea;refine⟨dS.1,dS.2,fH ?_⟩;refine⟨_,rfl,_,rfl,u,_,_,_,rfl,rfl,SqL.of (s3 _ _ hu2),ea,?_⟩;rw[lu];refine⟨_,rfl,d,_,rfl,Cf (s3 _ _ ed) |>.2.2.1,_,_,bw n X.length,rfl,pn,bp,bits4,fun r H4 s4 e4=>?_⟩;have eD:=s4 _ _ e3;refine⟨eD,aZ (by lia),hC _ _ ⟨(s3.trans s4).change hD2,aB,?_⟩⟩;rw[range_succ,map_append];exact((F3.same s4).app (.cons (Fq.of e4) .nil)).upd eD
  rintro ws H3 ⟨s3,e3,F3⟩;rw[lzE] at F3;have gd:∀j,j < X.length->((List.range X.length).map fun i=>red (ent R' i X.length) pivot).getD j Mq.z0=red (ent R' j X.length) pivot:=fun j hj=>by
   rw[getD_eq_getElem?_getD,getElem?_map,getElem?_range hj];rfl
  refine q D2 ws _ H3 (s02.trans s3) (s02.free hD2) e3 F3 ⟨⟨by simp,fun p hp=>?_,fun p hp=>?_,fun i hi=>?_⟩,fun v hv j hj=>?_⟩ (Vj pn bp fun p hp=>by obtain⟨i,hi,rfl⟩:=mem_map.mp hp;exact⟨_,bE i X.length,rfl⟩)
  ·obtain⟨i,_,rfl⟩:=mem_map.mp hp;exact gK pn
  ·obtain⟨i,hi,rfl⟩:=mem_map.mp hp;have le:=kT (t:=ent R' i X.length) pn;exact⟨((bE i X.length).le le.1).mono bits4,(bp.le le.2).mono bits4⟩
  ·rw[<- Ym xP qP ql hw LE.1 SE hi];refine aT fun j hj=>?_;rw[gd j hj,iY pn];rfl
  ·rw[gd j hj,iY pn,<- Zk xP qP ql hw LE.2 SE hv hj];rfl
abbrev Fe:Stmt:=top 28
theorem tP:aQ ["some","so_far","one"] ["some"] (aH Fe):=sK9
theorem Qr (F:aY K "total" "total" Fe dV f fd)(fN:∀H,Fq K H aN (0,1))(mNO:mI9 mg "NOUGHT" aN)(G2:D9 P w K mg base 3 g2 gd2 ["one","other"] (lH K lW) "plus"):
  aK P w K mg base CX 4 f fd ["some"] (Ni K):=by
 refine F.ok9 tP fun cdv A outer s H vs Q E hr h=>?_;obtain⟨a,xs,ps,w0,rfl,hS,hF,hP,hW,hn,z⟩:=h;refine⟨_,aC (aS (i:=1) tP.nd rfl (Or.inl rfl) (dM (v:=.ref aN) rfl mNO rfl))
  (aC (fK PassesOwn.never rfl (cZ (pv 0)) (bH (i:=2) tP.nd rfl (Or.inl rfl)) (aF (aS (i:=1) tP.nd rfl (Or.inl rfl) (d9 G2 hr rfl (aA (pv 1) (aA (pv 2) aD))))))
  (aF (aV (pv 1)))),?_⟩
 have hl:=hF.length;refine⟨_,rfl,a,rfl,⟨_,hS⟩,?_⟩;refine gC (xs:=xs) (fun i σ H'=>aW H H'/\∃r y,σ=[some (.ref a),some (.ref r),y]/\Fq K H' r (tot (ps.take i))) ⟨aW.refl H,aN,none,rfl,fN H⟩ (fun i σ H' _ h=>h.1.seq hS) ?_ ?_
 ·rintro i x σ H' hx ⟨sH,r,y,rfl,er⟩;obtain⟨ap,p,rfl,hp,fp⟩:=hF.get hx;have hi:i < ps.length:=(List.getElem?_eq_some_iff.mp hp).1;have mem:p∈ps:=mem_of_getElem? hp;have pt:Mq.Pos (ps.take i):=fun f hf=>hP f (mem_of_mem_take hf);obtain⟨w',n,hw',bn,hle⟩:=hW.at hp;have bt:=hw'.tot pt;refine⟨_,rfl,_,rfl,r,ap,tot (ps.take i),p,_,n,rfl,er,sH.fq fp,(Kl pt).pos,hP p mem,bt,bn,by lia,fun a1 H1 s1 e1=>?_⟩;refine⟨sH.trans s1,a1,_,rfl,?_⟩;have ee:ps.take (i+1)=ps.take i++[p]:=by rw[take_add_one,hp];rfl
  have et:tot (ps.take (i+1))=lW (tot (ps.take i)) p:=by
   rw[ee];unfold tot;rw[foldl_append];rfl
  rw[et];exact Fq.of e1
 ·rintro σ H' ⟨sH,r,y,rfl,er⟩;refine⟨_,rfl,?_⟩;refine z r H' sH ?_;rw[hl,take_length] at er;exact er
def dW (ds:List RD)(s:Stp):Q2:=sY (red s.2 1) (ds.getD s.1 (.pc,0,0,(0,1))).2.2.2
def Tk (CN:Addr)(K:Frag):Sp:=fun vs H Q _=>∃(n l b:Addr) (m:Int) (ds:List RD) (xs:List V) (st:List Stp),vs=[.ref n,.ref b]/\dE CN K H n l m ds/\ds.length<=100/\(∀d∈ds,Low d.2.2.2/\Bd 30 d.2.2.2)/\SqL K H b xs/\Sts K H xs st/\st.length<=21/\(∀s∈st,s.1 < ds.length/\(s.2=1\/s.2=-1))/\∀a H',aW H H'->Fq K H' a (tot (st.map (dW ds)))->Q (.ref a) H'
theorem Xk {w:Int}(h:w=1\/w=-1):red w 1=(w,1)/\Low (w,1)/\Bd 1 (w,1):=by
 rcases h with rfl | rfl
 ·exact⟨by decide +kernel,⟨by decide,by decide⟩,⟨show (1:Nat) < 2 ^ 1 by decide,show (1:Nat) < 2 ^ 1 by decide⟩⟩
 ·exact⟨by decide +kernel,⟨by decide,by decide⟩,⟨show (1:Nat) < 2 ^ 1 by decide,show (1:Nat) < 2 ^ 1 by decide⟩⟩
theorem Il (hK:∀d∈ds,Low d.2.2.2/\Bd 30 d.2.2.2)(h:s.1 < ds.length/\(s.2=1\/s.2=-1)):Low (dW ds s)/\Bd 40 (dW ds s):=by
 obtain⟨e,l,b⟩:=Xk h.2;have hd:ds[s.1]?=some ds[s.1]:=getElem?_eq_getElem h.1;have eg:ds.getD s.1 (.pc,0,0,(0,1))=ds[s.1]:=by rw[getD_eq_getElem?_getD,hd];rfl
 obtain⟨l2,b2⟩:=hK _ (mem_of_getElem? hd);unfold dW;rw[e,eg];exact⟨Mq.Kv l.pos l2.pos,(Mq.Ou b b2 l.pos l2.pos).mono (by decide)⟩
theorem Cg (hK:∀d∈ds,Low d.2.2.2/\Bd 30 d.2.2.2):∀{st:List Stp},(∀s∈st,s.1 < ds.length/\(s.2=1\/s.2=-1))->Mq.Wt (st.map (dW ds)) (41*st.length)
 | [],_=>.nil
 |s :: st,h=>by
  have ih:=Cg hK (st:=st) fun x hx=>h x (mem_cons_of_mem _ hx);have:=Mq.Wt.cons (Il hK (h s (by simp))).2 ih;rw[length_cons,show 41*(st.length+1)=40+1+41*st.length by lia];exact this
theorem xX {st:List Stp}(hK:∀d∈ds,Low d.2.2.2/\Bd 30 d.2.2.2)(h:∀s∈st,s.1 < ds.length/\(s.2=1\/s.2=-1)):Mq.Pos (st.map (dW ds)):=fun p hp=>by
 obtain⟨s,hs,rfl⟩:=mem_map.mp hp;exact(Il hK (h s hs)).1.pos
theorem jC:(["number","way","rows"]:List Str).Nodup:=by decide +kernel
abbrev So:Stmt:=top 37
theorem Qz:aQ ["net","ring","rows"] ["net","ring"] (aH So):=sK9
theorem Vt (F:aY K "ring_sum" "ring_sum" So dV f fd)(NTx:NT K mg CN)(T:RT K mg CR CK)(GRo:aK P w K mg base CX0 4 gRo gdRo ["self"] (rV CN K CK))(bRo:aM K gdRo ["self"] [])(mRo:gQ K CN "rows" gRo)(G1:aK P w K mg base CX0 4 g1 gd1 ["some"] (Ni K))(b1:aM K gd1 ["some"] [])(k1:kI9 K g1)(m1:mI9 mg "total" g1)(G2:aK P w K mg base CX0 3 g2 gd2 ["one","other"] (lH K sY))(b2:aM K gd2 ["one","other"] [])(k2:kI9 K g2)(m2:mI9 mg "times" g2)(G3:aK P w K mg base CX0 2 g3 gd3 ["top","bottom"] oP)(bd3:aM K gd3 ["top","bottom"] ds3)(d3:bQ [.int 1] ds3)(k3:kI9 K g3)(m3:mI9 mg "fraction" g3):
  aK P w K mg base CX 5 f fd ["net","ring"] (Tk CN K):=by
 refine F.ok9 Qz fun cdv A outer s H vs Q E hr h=>?_;obtain⟨n,l,b,m,ds,xs,st,rfl,nt,h100,hK,hB,hS,h21,hst,q⟩:=h;have r2:=hr.mono (by decide:2<=4);have r3:=hr.mono (by decide:3<=4);refine⟨_,(aC (aS (i:=2) Qz.nd rfl (Or.inr rfl) (gH (pv 0) NTx.cl mRo GRo hr bRo .nil aR))
  (aF (aV (aI G1 hr rfl m1 k1 b1 .nil aR (aA (dQ (nl:=2) (fr:=[2]) (Nc:=["number","way","rows"]) (cl:=[("rows",s.heap.objs.size+1)]) (g:=(Ce K 2 (jR (iN 0) (jR (iN 1) Dz)))) rfl ⟨rfl,rfl,by decide +kernel,by decide +kernel,fun x c h=>h,dU rfl,rfl,fun i n h=>match i,h with | 0,h=>by cases h;exact⟨2,rfl,rfl,rfl,rfl,.inl rfl⟩ | k+1,h=>by rw[show 2+(k+1)=k+3 by lia] at h;cases h⟩
    (cZ (pv 1)) (fun _ _ _ _ _=>(mB rfl (dH (bH (i:=0) jC rfl (Or.inl rfl)) (dH (bH (i:=1) jC rfl (Or.inl rfl)) jU)))) (fun _ _ _ _ _=>fL)
    (fun _ _ _ _ _=>(aI G2 r3 rfl m2 k2 b2 .nil aR (aA (aI G3 r2 rfl m3 k3 bd3 d3 aR (aA (pv 1) aD)) (aA (Wg (K:=K) rfl (aU (kP (K:=K) rfl) (pv 2) (pv 0) (fun _ _=>rfl)) rfl) aD))))) aD))))),?_⟩
 obtain⟨dx,hn⟩:=nt.ob;refine⟨_,rfl,n,dx,_,rfl,hn,fP _ _ (by decide +kernel) (by decide +kernel),n,l,_,ds,rfl,nt,h100,fun a ys H1 s1 na ea Rb=>?_⟩;have lx:=hS.length;refine⟨_,rfl,b,rfl,⟨_,s1.seq hB⟩,fun D hD=>?_⟩;have sD:=aG hD (.lst []);refine fC (xs:=xs) (fun i zs H'=>aW H1 H'/\H' D=some (.lst zs)/\Fqs K H' zs ((st.take i).map (dW ds))) ⟨sD,aB,.nil⟩ (fun i zs H' h=>h.2.1) (fun i zs H' _ h=>(s1.trans h.1).seq hB) ?_ ?_
 ·rintro i zs x H2 hx ⟨s2,e2,F2⟩ C hC;obtain⟨tt,s,rfl,es,hT⟩:=(hS.same (s1.trans s2)).get hx;have hi:i < st.length:=(List.getElem?_eq_some_iff.mp es).1;obtain⟨hlt,hw⟩:=hst s (mem_of_getElem? es);have hd:ds[s.1]?=some ds[s.1]:=getElem?_eq_getElem hlt;obtain⟨y,z,ey,rw0,fz⟩:=Rb.at hd;obtain⟨dr,hy⟩:=id (rw0.same s2);have at_:atI ys (s.1:Int)=some (.ref y):=bY ey;obtain⟨er,lw,bw⟩:=Xk hw;obtain⟨lp,bp⟩:=hK _ (mem_of_getElem? hd);have lz:=F2.length;rw[length_map,length_take] at lz;refine⟨tt,_,rfl,hT,rfl,_,_,rfl,_,_,rfl,rfl,jX.1,jX.2,fH ?_⟩;refine⟨_,rfl,s.2,1,1,rfl,by decide,by show (1:Nat) < 2 ^ 1;decide,by decide,fun u H3 s3 e3=>?_⟩;rw[er] at e3;refine⟨_,rfl,_,rfl,a,ys,_,_,rfl,rfl,SqL.of ((s2.trans s3) _ _ ea),at_,?_⟩;obtain⟨dr3,hy3⟩:=id (rw0.same (s2.trans s3));refine⟨y,CK _,_,_,_,rfl,hy3,T.cl _,T.nZ _,gB _ _ _,u,z,(s.2,1),_,1,30,rfl,Fq.of e3,(s2.trans s3).fq fz,lw.pos,lp.pos,bw,bp,by decide,fun v H4 s4 e4=>?_⟩;have s24:=s3.trans s4;have e24:=s24 _ _ e2;refine⟨e24,aZ (by lia),hC _ _ ⟨(s2.trans s24).change hD,aB,?_⟩⟩;have ee:(st.take (i+1)).map (dW ds)=(st.take i).map (dW ds)++[sY (s.2,1) ds[s.1].2.2.2]:=by
   rw[take_add_one,es,map_append];show _++[dW ds s]=_;unfold dW;rw[er,getD_eq_getElem?_getD,hd];rfl
  rw[ee];exact((F2.same s24).app (.cons (Fq.of e4) .nil)).upd e24
 rintro zs H2 ⟨s2,e2,F2⟩;rw[lx,take_length] at F2;refine⟨D,zs,_,41*st.length,rfl,SqL.of e2,F2,xX hK hst,Cg hK hst,by lia,fun r H3 s3 f3=>q r H3 (s1.trans (s2.trans s3)) f3⟩
def Jm (K:Frag)(C:Addr):Sp:=fun vs H Q _=>∃(x l:Addr) (xs:List V),vs=[.ref x,.ref l]/\H x=some (gZ x (.ref C) none)/\SqL K H l xs/\xs.length<=1000/\
 ∀dx l2 H',H dx=none->H l2=none->dx≠x->l2≠x->(∀b o,H b=some o->b≠x->H' b=some o)->H' x=some (gZ x (.ref C) (some dx))->H' dx=some (.xd [("points",.ref l2)])->H' l2=some (.lst xs)->Q .non H'
abbrev Hi:Stmt:=cY (top 14) 0
theorem Ww:aQ ["self","points"] ["self","points"] (aH Hi):=sK9
theorem Ox (F:aY K "__init__" "Floats.__init__" Hi dV f fd)(qI:kK K CF C0 f)(cI:Rg K C0)(qF:Ar K CF "points")(mO:mI9 mg "OhmError" C0)(mt:mg "tuple"=none)(mli:mg "list"=none):
  aK P w K mg base CX 1 f fd ["self","points"] (Jm K CF):=by
 refine F.ok9 Ww fun cdv A outer s H vs Q E hr h=>?_;obtain⟨x,l,xs,rfl,hx,hS,h1000,q⟩:=h;refine⟨_,(aC (bX (Gz rfl mO cI (aA (pv 0) (aA (iF oF rfl mt PyProof.Rows.boot_tuple (aA (pv 1) aD)) aD)))) (aF (Xh (pv 0) (iF gW rfl mli PyProof.Rows.boot_list (aA (pv 1) aD)) rfl))),?_⟩;refine⟨_,rfl,_,rfl,l,xs,rfl,.inl ⟨hS,fun t ht=>?_⟩⟩;have s1:=aG ht (.tup xs);have nt:t≠x:=fun z=>by rw[z,hx] at ht;cases ht
 generalize upd H t (.tup xs)=H1 at s1 ⊢;refine⟨x,CF,C0,f,none,_,rfl,s1 _ _ hx,qI,?_⟩;refine⟨_,rfl,l,xs,rfl,.inl (s1.seq hS),fun l2 hl2=>?_⟩;have s2:=aG hl2 (.lst xs);have e2:upd H1 l2 (.lst xs) l2=some (.lst xs):=aB;have x1:=s1 _ _ hx;have n2:l2≠x:=fun z=>by rw[z,x1] at hl2;cases hl2
 generalize upd H1 l2 (.lst xs)=H2 at s2 e2 ⊢;have x2:=s2 _ _ x1;refine⟨_,rfl,x,CF,C0,f,rfl,x2,qI,qF,fun dx hdx=>?_⟩;have nx:dx≠x:=fun z=>by rw[z,x2] at hdx;cases hdx
 have nl:l2≠dx:=fun z=>by rw[z] at e2;rw[e2] at hdx;cases hdx
 have s02:=s1.trans s2;refine q dx l2 _ (s02.free hdx) (s1.free hl2) nx n2 (fun b' o e nb=>?_) aB ?_ ?_
 ·rw[aL nb,aL (fun z=>by rw[z,s02.free hdx] at e;cases e)];exact s02 _ _ e
 ·rw[aL nx,aB]
 ·rw[aL n2,aL nl];exact e2
def Ds (K:Frag)(C:Addr):Sp:=fun vs H Q _=>∃(x l t:Addr) (xs:List V),vs=[.ref x,.ref l,.ref t]/\H x=some (gZ x (.ref C) none)/\SqL K H l xs/\xs.length<=1000/\
 ∀dx l2 H',H dx=none->H l2=none->dx≠x->l2≠x->(∀b o,H b=some o->b≠x->H' b=some o)->H' x=some (gZ x (.ref C) (some dx))->H' dx=some (.xd [("ring",.ref l2),("total",.ref t)])->H' l2=some (.lst xs)->Q .non H'
abbrev Au:Stmt:=cY (top 13) 0
theorem Qi:aQ ["self","ring","total"] ["self","ring","total"] (aH Au):=sK9
theorem Kz (F:aY K "__init__" "Ring.__init__" Au dV f fd)(qI:kK K CF C0 f)(cI:Rg K C0)(qF:Ar K CF "ring")(qG:Ar K CF "total")(mO:mI9 mg "OhmError" C0)(mt:mg "tuple"=none)(mli:mg "list"=none):
  aK P w K mg base CX 1 f fd ["self","ring","total"] (Ds K CF):=by
 refine F.ok9 Qi fun _ _ _ s H _ Q E hr h=>?_;obtain⟨x,l,t0,xs,rfl,hx,hS,h1000,q⟩:=h;refine⟨_,(aC (bX (Ep rfl mO cI (aA (pv 0) (aA (iF oF rfl mt PyProof.Rows.boot_tuple (aA (pv 1) aD)) (aA (pv 2) aD))))) (aC (Tg (pv 0) (iF gW rfl mli PyProof.Rows.boot_list (aA (pv 1) aD)) rfl) (aF (Sm (pv 0) (pv 2) rfl)))),?_⟩;refine⟨_,rfl,_,rfl,l,xs,rfl,.inl ⟨hS,fun t ht=>?_⟩⟩;have s1:=aG ht (.tup xs);have nt:t≠x:=fun z=>by rw[z,hx] at ht;cases ht
 generalize upd H t (.tup xs)=H1 at s1 ⊢;refine⟨_,rfl,x,CF,C0,f,none,_,_,rfl,s1 _ _ hx,qI,?_⟩;refine⟨_,rfl,l,xs,rfl,.inl (s1.seq hS),fun l2 hl2=>?_⟩;have s2:=aG hl2 (.lst xs);have e2:upd H1 l2 (.lst xs) l2=some (.lst xs):=aB;have x1:=s1 _ _ hx;have n2:l2≠x:=fun z=>by rw[z,x1] at hl2;cases hl2
 generalize upd H1 l2 (.lst xs)=H2 at s2 e2 ⊢;have x2:=s2 _ _ x1;refine⟨_,rfl,x,CF,C0,f,rfl,x2,qI,qF,fun dx hdx=>?_⟩;have nx:dx≠x:=fun z=>by rw[z,x2] at hdx;cases hdx
 have nl:l2≠dx:=fun z=>by rw[z] at e2;rw[e2] at hdx;cases hdx
 have s02:=s1.trans s2;refine⟨_,rfl,_,rfl,x,CF,C0,f,dx,"ring",.ref l2,rfl,aB,by rw[aL nx,aB],by decide,qI,qG,?_⟩;refine q dx l2 _ (s02.free hdx) (s1.free hl2) nx n2 (fun b' o e nb=>?_) ?_ aB ?_
 ·have nd:b'≠dx:=fun z=>by rw[z,s02.free hdx] at e;cases e
  rw[aL nd,aL nb,aL nd];exact s02 _ _ e
 ·rw[aL (Ne.symm nx),aB]
 ·rw[aL nl,aL n2,aL nl];exact e2
theorem rS (s:aW H H1)(hx:H1 x=none)(keep:∀b u,(upd H1 x o) b=some u->b≠x->H4 b=some u):aW H (oJ H4 x):=fun b u e=>by
 have nb:b≠x:=fun z=>by rw[z,s.free hx] at e;cases e
 rw[jE nb];exact keep b u (by rw[aL nb];exact s b u e) nb
abbrev wHo:Kd->Bool:=fun k=>inV (.str k.wd) [.str "hold"]
abbrev rgH (ds:List RD):List (Nat × List Stp):=(eU wHo (skl ds) ds.length).2
def ERg (CG:Addr)(K:Frag)(H:Hp)(E:XK)(ds:List RD)(st:List Stp):Prop:=∀dx l t us H',aW H H'->H' dx=some (.xd [("ring",.ref l),("total",.ref t)])->H l=none->H' l=some (.lst us)->Sts K H' us st->Fq K H' t (tot (st.map (dW ds)))->E (.ref CG) (some dx) H'
def EFl (CF:Addr)(H:Hp)(E:XK)(ps:List Int):Prop:=∀dx l H',aW H H'->H' dx=some (.xd [("points",.ref l)])->H l=none->H' l=some (.lst (ps.map V.int))->E (.ref CF) (some dx) H'
structure Rfs (CG CF:Addr) (K:Frag) (H:Hp) (E:XK) (m:Nat) (ds:List RD):Prop where
 rg:∀c r,rgH ds=c :: r->ERg CG K H E ds c.2
 fl:rgH ds=[]->iZ m ds≠[]->EFl CF H E (iZ m ds)
def Tj (CN CG CF:Addr)(K:Frag):Sp:=fun vs H Q E=>∃(n l:Addr) (m:Nat) (ds:List RD),vs=[.ref n]/\dE CN K H n l (m:Int) ds/\(∀d∈ds,cX (m:Int) d.2.1 d.2.2.1)/\1<=m/\m<=20/\ds.length<=40/\(∀d∈ds,Low d.2.2.2/\Bd 30 d.2.2.2)/\Rfs CG CF K H E m ds/\(rgH ds=[]->iZ m ds=[]->∀H',aW H H'->Q .non H')
abbrev qc8:Stmt:=top 70
theorem Qc:aQ ["net","held","points"] ["net"] (aH qc8):=sK9
theorem Zu (F:aY K "refuse_unanswered" "refuse_unanswered" qc8 dV f fd)(ml:mg "len"=none)(mG:mI9 mg "Ring" CG)(qG:kK K CG C0 fG)(GG:aK P w K mg base CX0 1 fG fdG ["self","ring","total"] (Ds K CG))(bG:aM K fdG ["self","ring","total"] [])(mF:mI9 mg "Floats" CF)(qF:kK K CF C0 fF)(GF:aK P w K mg base CX0 1 fF fdF ["self","points"] (Jm K CF))(bF:aM K fdF ["self","points"] [])(G1:D9 P w K mg base 5 g1 gd1 ["net","words"] (Ke CN K) "rings")(G2:D9 P w K mg base 6 g2 gd2 ["net"] (Kh CN K) "floating")(G3:D9 P w K mg base 5 g3 gd3 ["net","ring"] (Tk CN K) "ring_sum"):
  aK P w K mg base (CX1 P w) 7 f fd ["net"] (Tj CN CG CF K):=by
 refine F.okX Qc (fun vs H Q E h=>?_) fun cdv A outer s H vs Q E hr h=>?_
 ·obtain⟨_,_,_,_,rfl,_⟩:=h;rfl
 obtain⟨n,l,m,ds,rfl,nt,pt,mo,m20,h40,hz,rf,q⟩:=h;have r2:=hr.mono (by decide:2<=6);have r5:=hr.mono (by decide:5<=6);refine⟨_,(aC (aS (i:=1) Qc.nd rfl (Or.inl rfl) (d9 G1 r5 rfl (aA (pv 0) (aA (dG (aA dD aD)) aD))))
  (aC (cH (bK Ej (bV cJ rfl ml PySem.boot_len (aA (pv 1) aD)) aE (bO _)) (aF (zN kN qD rfl rfl mG qG GG r2 bG (aA (aU bU (pv 1) aE (fun _ _=>rfl)) (aA (d9 G3 r5 rfl (aA (pv 0) (aA (aU bU (pv 1) aE (fun _ _=>rfl)) aD))) aD)))) bM)
  (aC (aS (i:=2) Qc.nd rfl (Or.inl rfl) (d9 G2 hr rfl (aA (pv 0) aD)))
  (aF (cH (bK Ej (bV cJ rfl ml PySem.boot_len (aA (pv 2) aD)) aE (bO _)) (aF (zN kN qD rfl rfl mF qF GF r2 bF (aA (pv 2) aD))) bM))))),?_⟩
 refine⟨_,rfl,zl9 1,fun L hL=>?_⟩;have s1:=aG hL (.lst [.str "hold"]);have e1:upd H L (.lst [.str "hold"]) L=some (.lst [.str "hold"]):=aB;generalize upd H L (.lst [.str "hold"])=H1 at s1 e1 ⊢;refine⟨n,l,.ref L,m,ds,wHo,rfl,nt.same s1,pt,m20,h40,.seq (SqL.of e1) rfl,fun r us H2 s2 nr er G nx=>?_⟩;have s02:=s1.trans s2;refine⟨_,rfl,r,_,rfl,.inl (SqL.of er),_,_,rfl,rfl,_,rfl,?_⟩;have ri:=qQ (W:=wHo) (Yf pt) ds.length (by rw[Gq];exact Nat.le_refl _)
 cases hR:rgH ds with
 |cons c rr=>
  have gl:us.length=((rgH ds).map (·.2)).length:=G.l;rw[hR] at gl;have lu:0 < us.length:=by rw[gl];simp
  obtain⟨u0,hu0⟩:∃u,us[0]?=some u:=⟨_,getElem?_eq_getElem lu⟩
  obtain⟨ra,xs,rfl,nra,era,sts⟩:=G.r 0 u0 c.2 hu0 (by show ((rgH ds).map (·.2))[0]?=_;rw[hR];rfl);refine L2.ifT (by show decide (((us.length:Nat):Int) > 0)=true;exact decide_eq_true (by lia)) ?_;obtain⟨c1,k',u',v',st,pts,_,ec,hst,ch,stl⟩:=ri.r c (by show c∈rgH ds;rw[hR];exact mem_cons_self ..);have inb:∀t∈c.2,t.1 < ds.length/\(t.2=1\/t.2=-1):=fun t ht=>by
   rw[ec] at ht;rcases mem_cons.mp ht with z | z
   ·subst z;exact⟨c1,.inl rfl⟩
   ·obtain⟨i,hi,e⟩:=getElem_of_mem z;obtain⟨_,_,_,_,u2,v2,hm,w⟩:=ch.g i t (by rw[<- e];exact getElem?_eq_getElem hi);refine⟨ri.lt _ hm,?_⟩;rcases w with ⟨a,_⟩ | ⟨a,_⟩
    ·exact .inl a
    ·exact .inr a
  have l21:c.2.length<=21:=by rw[ec,length_cons];lia
  refine⟨_,rfl,r,us,_,_,rfl,rfl,SqL.of er,bY (j:=0) hu0,_,rfl,_,rfl,r,us,_,_,rfl,rfl,SqL.of er,bY (j:=0) hu0,?_⟩;refine⟨n,l,ra,_,ds,xs,c.2,rfl,nt.same s02,by lia,hz,SqL.of era,sts,l21,inb,fun t0 H3 s3 f3=>?_⟩;refine⟨zl9 2,fun x hx=>?_⟩;have sx:=aG hx (gZ x (.ref CG) none);refine⟨x,ra,t0,xs,rfl,aB,sx.seq (SqL.of (s3 _ _ era)),by rw[sts.length];lia,fun dx l2 H4 ndx nl2 ne1 ne2 keep ex ed el=>⟨rfl,some dx,ex,?_⟩⟩;have sd:=rS (s02.trans s3) hx keep;have sd3:=rS (aW.refl H3) hx keep;refine rf.rg c rr hR dx l2 t0 xs _ sd (by rw[jE ne1];exact ed) ((s02.trans (s3.trans sx)).free nl2) (by rw[jE ne2];exact el) ((sts.same s3).same sd3) (sd3.fq f3)
 |nil=>
  have gl:us.length=((rgH ds).map (·.2)).length:=G.l;rw[hR] at gl;have lu:us=[]:=eq_nil_of_length_eq_zero (by simpa using gl);subst lu;refine L2.ifF rfl ?_;refine⟨_,rfl,n,l,m,ds,rfl,nt.same s02,pt,mo,m20,by lia,fun l' H3 s3 nl e3=>?_⟩;refine⟨_,rfl,l',_,rfl,.inl (SqL.of e3),_,_,rfl,rfl,_,rfl,?_⟩
  by_cases c:iZ m ds=[]
  ·rw[c];exact L2.ifF rfl (q hR c H3 (s02.trans s3))
  ·have l0:0 < (iZ m ds).length:=length_pos_iff.mpr c;have lf:(iZ m ds).length<=20:=by
    unfold iZ;rw[length_map];refine Nat.le_trans (length_filter_le _ _) ?_;rw[length_range];exact m20
   refine L2.ifT (by show decide (((((iZ m ds).map V.int).length:Nat):Int) > 0)=true;rw[length_map];exact decide_eq_true (by lia)) ?_;refine⟨_,rfl,zl9 1,fun x hx=>?_⟩;have sx:=aG hx (gZ x (.ref CF) none);refine⟨x,l',_,rfl,aB,sx.seq (SqL.of e3),by rw[length_map];lia,fun dx l2 H4 ndx nl2 ne1 ne2 keep ex ed el=>⟨rfl,some dx,ex,?_⟩⟩;exact rf.fl hR c dx l2 _ (rS (s02.trans s3) hx keep) (by rw[jE ne1];exact ed) ((s02.trans (s3.trans sx)).free nl2) (by rw[jE ne2];exact el)
def uJ (K:Frag)(CK:Kd->Addr)(k:Kd):Sp:=fun vs H Q _=>∃(x z a h:Addr) (s g:V) (p u v:Q2) (n m:Nat),vs=[.ref x,.ref a,.ref h]/\Rw CK H x k s g (.ref z)/\Fq K H z p/\Fq K H a u/\Fq K H h v/\1<=p.2/\1<=u.2/\Bd n p/\Bd m u/\n+m+1<=9000/\(k=.pc->0 < p.1)/\
 ∀r H',aW H H'->Fq K H' r (Ly k u v p)->Q (.ref r) H'
abbrev oR:Stmt:=cY (top 40) 3
theorem El:aQ ["self","fall","held"] ["self","fall","held"] (aH oR):=sK9
theorem Ak (F:aY K "stream" "Piece.stream" oR dV f fd)(T:RT K mg CR CK)(G1:D9 P w K mg base 3 g1 gd1 ["one","other"] (Hl K) "over"):aK P w K mg base CX 4 f fd ["self","fall","held"] (uJ K CK .pc):=by
 refine F.ok9 El fun _ _ _ s H _ Q E hr h=>?_;obtain⟨x,z,a,h,s,g,p,u,v,n,m,rfl,⟨dx,hx⟩,fz,fa,fh,hp,hu,bp,bu,hn,h0,q⟩:=h;refine⟨_,(aF (aV (d9 G1 hr rfl (aA (pv 1) (aA (bZ (pv 0) rfl) aD))))),?_⟩;exact⟨_,rfl,_,rfl,x,CK .pc,dx,_,_,rfl,hx,T.cl _,T.nZ _,gB _ _ _,a,z,u,p,m,n,rfl,fa,fz,hu,hp,h0 rfl,bu,bp,by lia,fun r H1 s1 e1=>q r H1 s1 (Fq.of e1)⟩
abbrev oM:Stmt:=cY (top 41) 3
theorem Ew:aQ ["self","fall","held"] ["self","fall","held"] (aH oM):=sK9
theorem Bs (F : aY K "stream" "Push.stream" oM dV f fd)(T : RT K mg CR CK): aK P w K mg base CX 4 f fd ["self", "fall", "held"] (uJ K CK .pu) := by
  refine F.ok Ew (fun vs H Q E h => ?_) (fun cdv A outer s H vs Q E hr h => ?_)
  · obtain ⟨x, z, a, h, s, g, p, u, v, n, m, rfl, _⟩ := h
    rfl
  obtain ⟨x, z, a, h, s, g, p, u, v, n, m, rfl, ⟨dx, hx⟩, fz, fa, fh, hp, hu, bp, bu, hn, h0, q⟩ := h;refine ⟨_, (aF (aV (bZ (pv 0) rfl))), ?_⟩;exact ⟨_, rfl, x, CK .pu, dx, _, _, rfl, hx, T.cl _, T.nZ _, gB _ _ _, q z H (aW.refl H) fz⟩
abbrev oO:Stmt:=cY (top 42) 3
theorem Ct:aQ ["self","fall","held"] ["self","fall","held"] (aH oO):=sK9
theorem Bf (F : aY K "stream" "Hold.stream" oO dV f fd)(T : RT K mg CR CK): aK P w K mg base CX 4 f fd ["self", "fall", "held"] (uJ K CK .ho) := by
  refine F.ok Ct (fun vs H Q E h => ?_) (fun cdv A outer s H vs Q E hr h => ?_)
  · obtain ⟨x, z, a, h, s, g, p, u, v, n, m, rfl, _⟩ := h
    rfl
  obtain ⟨x, z, a, h, s, g, p, u, v, n, m, rfl, ⟨dx, hx⟩, fz, fa, fh, hp, hu, bp, bu, hn, h0, q⟩ := h;refine ⟨_, (aF (aV (pv 2))), ?_⟩;exact ⟨_, rfl, q h H (aW.refl H) fh⟩
abbrev Nb:Stmt:=top 44
theorem Yt:aQ ["row","heights"] ["row","heights"] (aH Nb):=sK9
theorem Wp (F:aY K "fall_of" "fall_of" Nb dV f fd)(T:RT K mg CR CK)(G1:D9 P w K mg base 3 g1 gd1 ["one","other"] (lH K Mq.minus) "minus"):
  aK P w K mg base CX 4 f fd ["row","heights"] (Jl K CK):=by
 refine F.ok9 Yt fun cdv A outer s H vs Q E hr h=>?_;obtain⟨x,a,⟨k,i,j,p⟩,z,xs,hp,n,rfl,rw,st,pt,q⟩:=h;refine⟨_,(aF (aV (d9 G1 hr rfl (aA (aU bU (pv 1) (bZ (pv 0) rfl) (fun _ _=>rfl)) (aA (aU bU (pv 1) (bZ (pv 0) rfl) (fun _ _=>rfl)) aD))))),?_⟩;obtain⟨dx,hx⟩:=id rw;obtain⟨i0,i1,j0,j1⟩:cX (n:Int) i j:=pt;have hl:=st.l;have ai:=Do (ps:=hp) (j:=i.toNat) (by lia);have aj:=Do (ps:=hp) (j:=j.toNat) (by lia);obtain⟨u,eu,fu⟩:=st.f.at ai;obtain⟨v,ev,fv⟩:=st.f.at aj;have ti:atI xs i=some (.ref u):=by
  have:=bY eu
  rwa [show ((i.toNat:Nat):Int)=i by lia] at this
 have tj:atI xs j=some (.ref v):=by
  have:=bY ev
  rwa [show ((j.toNat:Nat):Int)=j by lia] at this
 refine⟨_,rfl,_,rfl,x,CK _,_,_,_,rfl,hx,T.cl _,T.nS _,dI _ _ _,a,xs,_,_,rfl,rfl,st.s,ti,?_⟩;refine⟨_,rfl,_,rfl,x,CK _,_,_,_,rfl,hx,T.cl _,T.nG _,eK _ _ _,a,xs,_,_,rfl,rfl,st.s,tj,?_⟩;have bi:=st.b _ (mem_of_getElem? ai);have bj:=st.b _ (mem_of_getElem? aj);exact⟨u,v,_,_,3900,3900,rfl,fu,fv,bi.1.pos,bj.1.pos,bi.2,bj.2,by decide,q⟩
def Kt (K:Frag)(CK:Kd->Addr):Sp:=fun vs H Q _=>∃(a b h:Addr) (xs ls ys:List V) (ds:List RD) (lv hs:List Q2) (m:Nat),vs=[.ref a,.ref b,.ref h]/\H a=some (.lst xs)/\iA CK K H xs ds/\StB K H b ls lv m/\SqL K H h ys/\Fqs K H ys hs/\(∀p∈hs,Low p)/\(∀d∈ds,Cp (m:Int) d)/\cC ds<=hs.length/\ds.length<=40/\∀l zs H',aW H H'->H l=none->H' l=some (.lst zs)->Fqs K H' zs (tF lv hs 0 ds)->Q (.ref l) H'
abbrev Gf:Stmt:=top 72
theorem oA:aQ ["rows","levels","held","flows","taken","row","fall"] ["rows","levels","held"] (aH Gf):=sK9
theorem Nf (F:aY K "flows_of" "flows_of" Gf dV f fd)(T:RT K mg CR CK)(fN:∀H,Fq K H aN (0,1))(mNO:mI9 mg "NOUGHT" aN)(GW:∀k,aK P w K mg base CX0 1 (fW k) (fdW k) ["self"] (lV k))(bW:∀k,aM K (fdW k) ["self"] [])(mW:∀k,gQ K (CK k) "word" (fW k))(GS:∀k,aK P w K mg base CX0 4 (fS k) (fdS k) ["self","fall","held"] (uJ K CK k))(bS:∀k,aM K (fdS k) ["self","fall","held"] [])(mS:∀k,gQ K (CK k) "stream" (fS k))(G1:D9 P w K mg base 4 g1 gd1 ["row","heights"] (Jl K CK) "fall_of"):
  aK P w K mg base CX 5 f fd ["rows","levels","held"] (Kt K CK):=by
 refine F.ok9 oA fun _ _ _ s H _ Q E hr h=>?_;obtain⟨a,b,h,xs,ls,ys,ds,lv,hs,m,rfl,ea,Rb,SA,hS,hF,hlo,hK,hh,h40,q⟩:=h;have r1:=hr.mono (by decide:1<=4);refine⟨_,(aC (aS (i:=3) oA.nd rfl (Or.inl rfl) (dG aD))
  (aC (aS (i:=4) oA.nd rfl (Or.inl rfl) aE)
  (aC (fK PassesOwn.never rfl (cZ (pv 0)) (bH (i:=5) oA.nd rfl (Or.inl rfl))
   (aC (aS (i:=6) oA.nd rfl (Or.inl rfl) (d9 G1 hr rfl (aA (pv 5) (aA (pv 1) aD))))
  (aF (cH (bK fZ (gU (pv 5) T.cl mW GW r1 bW .nil aR) dD (bO _)) (aC (bX (jW PySem.F.plainAttrs_list PySem.F.slot_list_append PySem.F.type_list_append dF (pv 3) (aA (Da (pv 5) T.cl mS GS hr bS .nil aR (aA (pv 6) (aA (aU bU (pv 2) (pv 4) (fun _ _=>rfl)) aD))) aD)))
  (aF (Fh (i:=4) oA.nd rfl (Or.inl rfl) aE Ft))) (aF (bX (jW PySem.F.plainAttrs_list PySem.F.slot_list_append PySem.F.type_list_append dF (pv 3) (aA (Da (pv 5) T.cl mS GS hr bS .nil aR (aA (pv 6) (aA (dM (v:=.ref aN) rfl mNO rfl) aD))) aD))))))))
  (aF (aV (pv 3)))))),?_⟩
 have lxs:=Rb.length;have lys:=hF.length;refine⟨zl9 0,fun l hl=>?_⟩;have s1:=aG hl (.lst []);have e1:upd H l (.lst []) l=some (.lst []):=aB;generalize upd H l (.lst [])=H1 at s1 e1 ⊢;refine⟨_,rfl,a,rfl,⟨_,SqL.of (s1 _ _ ea)⟩,?_⟩;refine gC (xs:=xs) (fun i σ H'=>aW H H'/\∃(zs:List V) (ti:Int) (z5 z6:Option V),σ=[some (.ref a),some (.ref b),some (.ref h),some (.ref l),some (.int ti),z5,z6]/\ti=((cC (ds.take i):Nat):Int)/\H' l=some (.lst zs)/\Fqs K H' zs (tF lv hs 0 (ds.take i))) ⟨s1,[],0,none,none,rfl,rfl,e1,.nil⟩ (fun i σ H' _ h=>h.1.seq (SqL.of ea)) ?_ ?_
 ·rintro i x σ H2 hx ⟨s2,zs,ti,z5,z6,rfl,hti,e2,F2⟩;have hi:i < ds.length:=by have:=(List.getElem?_eq_some_iff.mp hx).1;lia
  obtain⟨⟨k0,u,v,p⟩,hd⟩:∃d,ds[i]?=some d:=⟨_,getElem?_eq_getElem hi⟩
  obtain⟨y,z,ey,rw0,fz0⟩:=Rb.at hd;have ex:x=.ref y:=by rw[ey] at hx;exact(Option.some.inj hx).symm
  subst ex;have rd:=hK _ (mem_of_getElem? hd);have pt:cX (m:Int) u v:=⟨rd.1,rd.2.1,rd.2.2.1,rd.2.2.2.1⟩
  have lp:Low p:=rd.2.2.2.2.1;have p0:k0=.pc->0 < p.1:=rd.2.2.2.2.2.1;have bp:Bd 1000 p:=rd.2.2.2.2.2.2;have et:ds.take (i+1)=ds.take i++[(k0,u,v,p)]:=by rw[take_add_one,hd];rfl
  have hcnt:cC (ds.take i)+cN k0+cC (ds.drop (i+1))=cC ds:=by
   have h1:ds=ds.take (i+1)++ds.drop (i+1):=(take_append_drop _ _).symm;have h2:cC ds=cC (ds.take (i+1))+cC (ds.drop (i+1)):=by
    unfold cC iK;rw[<- List.length_append,<- filter_append,take_append_drop]
   rw[h2,et,iO]
  have rw2:=rw0.same s2;obtain⟨dr,hy⟩:=id rw2;refine⟨_,rfl,_,rfl,y,b,(k0,u,v,p),.ref z,ls,lv,m,rfl,rw2,SA.same s2,pt,fun fa H3 s3 e3=>?_⟩;have flow:Low (flF lv (k0,u,v,p))/\Bd 7801 (flF lv (k0,u,v,p)):=by
   have hb:=SA.b;have hn:=SA.l;have g1:lv.getD u.toNat (0,1)∈lv:=mem_of_getElem? (Mq.On (by have:=pt.1;have:=pt.2.1;lia));have g2:lv.getD v.toNat (0,1)∈lv:=mem_of_getElem? (Mq.On (by have:=pt.2.2.1;have:=pt.2.2.2;lia));exact⟨Mq.rL (hb _ g1).1.pos (hb _ g2).1.pos,(Mq.Ey (hb _ g1).2 (hb _ g2).2 (hb _ g1).1.pos (hb _ g2).1.pos).mono (by decide)⟩
  have fa3:Fq K H3 fa (flF lv (k0,u,v,p)):=Fq.of e3;have s23:=s2.trans s3;have rw3:=rw0.same s23;obtain⟨dr3,hy3⟩:=id rw3;have fz3:=s23.fq fz0;have e23:=s3 _ _ e2;have lzs:=F2.length;rw[uI,length_take] at lzs;rw[et,yF,Nat.zero_add];refine⟨_,rfl,k0,y,dr3,_,rfl,hy3,(eZ _ _ _ (by decide +kernel) (by decide +kernel) (by decide +kernel)),_,rfl,rfl,_,rfl,?_⟩
  by_cases hk:k0=.ho
  ·refine L2.ifT (by show decide (V.str k0.wd=V.str Kd.ho.wd)=true;rw[fM];exact decide_eq_true hk) ?_;have hc:cN k0=1:=by unfold cN;rw[if_pos hk]
   obtain⟨w1,ew,fw⟩:=hF.at (Mq.On (by lia:cC (ds.take i) < hs.length));refine⟨_,rfl,.inl ⟨rfl,_,SqL.of e23⟩,_,rfl,k0,y,dr3,_,rfl,hy3,(eZ _ _ _ (by decide +kernel) (by decide +kernel) (by decide +kernel)),?_⟩;refine⟨_,rfl,_,rfl,_,rfl,h,ys,_,_,rfl,rfl,s23.seq hS,by rw[hti];exact bY ew,y,z,fa,w1,.int u,.int v,p,_,_,1000,7801,rfl,rw3,fz3,fa3,s23.fq fw,lp.pos,flow.1.pos,bp,flow.2,by decide,p0,fun r H4 s4 f4=>?_⟩;have e4:=s4 _ _ e23;refine⟨l,_,_,rfl,rfl,e4,aZ (by lia),?_⟩;refine⟨_,rfl,_,_,rfl,rfl,?_⟩;refine⟨(s23.trans s4).change hl,_,ti+1,_,_,rfl,by rw[iO,hti,hc];lia,aB,?_⟩;have fl:Mz lv hs (cC (ds.take i)) (k0,u,v,p)=Ly k0 (flF lv (k0,u,v,p)) (hs.getD (cC (ds.take i)) Mq.z0) p:=by
    show Ly k0 _ (if k0=.ho then _ else _) _=_;rw[if_pos hk]
   rw[fl];exact((F2.same (s3.trans s4)).app (.cons f4 .nil)).upd e4
  ·refine L2.ifF (by show decide (V.str k0.wd=V.str Kd.ho.wd)=false;rw[fM];exact decide_eq_false hk) ?_;have hc:cN k0=0:=by unfold cN;rw[if_neg hk]
   refine⟨_,rfl,.inl ⟨rfl,_,SqL.of e23⟩,_,rfl,k0,y,dr3,_,rfl,hy3,(eZ _ _ _ (by decide +kernel) (by decide +kernel) (by decide +kernel)),_,rfl,y,z,fa,aN,.int u,.int v,p,_,(0,1),1000,7801,rfl,rw3,fz3,fa3,fN _,lp.pos,flow.1.pos,bp,flow.2,by decide,p0,fun r H4 s4 f4=>?_⟩;have e4:=s4 _ _ e23;refine⟨l,_,_,rfl,rfl,e4,aZ (by lia),?_⟩;refine⟨(s23.trans s4).change hl,_,ti,_,_,rfl,by rw[iO,hti,hc];rfl,aB,?_⟩;have fl:Mz lv hs (cC (ds.take i)) (k0,u,v,p)=Ly k0 (flF lv (k0,u,v,p)) (0,1) p:=by
    show Ly k0 _ (if k0=.ho then _ else _) _=_;rw[if_neg hk]
   rw[fl];exact((F2.same (s3.trans s4)).app (.cons f4 .nil)).upd e4
 rintro σ H2 ⟨s2,zs,ti,z5,z6,rfl,hti,e2,F2⟩;rw[lxs,take_length] at F2;exact⟨_,rfl,q l zs H2 s2 hl e2 F2⟩
abbrev Si:Stmt:=cY (top 71) 2
theorem Zh:aQ ["self"] ["self"] (aH Si):=sK9
theorem Vu (F:aY K "streams" "Answer.streams" Si dV f fd)(ABx:AB K mg CA)(mli:mg "list"=none):aK P w K mg base CX 1 f fd ["self"] (xV CA K):=by
 refine F.ok9 Zh fun _ _ _ s H _ Q E hr h=>?_;obtain⟨a,lv,fl,rfl,⟨⟨dx,li,le,fo,xs,ys,ha,hle,Fle,hfo,Ffo⟩⟩,q⟩:=h;refine⟨_,(aF (aV (iF gW rfl mli PyProof.Rows.boot_list (aA (bZ (pv 0) rfl) aD)))),?_⟩;refine⟨_,rfl,a,CA,_,_,_,rfl,ha,ABx.cl,ABx.nO,Xf _ _ _,fo,_,rfl,.inl hfo,fun l hl=>?_⟩;have sl:=aG hl (.lst ys);exact q l _ _ sl hl aB (Ffo.same sl)
theorem Iz:∀{us:List V} {X:List (List Q2)},Fms K H0 H us X->(∀x∈us,x≠.ref D)->Fmd K H0 D H us X
 | [],[],_,_=>.nil
 | [],_ :: _,h,_=>by have:=h.l;simp at this
 |_ :: _,[],h,_=>by have:=h.l;simp at this
 |x :: us,ps :: X,h,n=>by
  obtain⟨a,xs,rfl,n0,h1,h2⟩:=h.r 0 x ps rfl rfl;exact .cons n0 (fun z=>n _ (mem_cons_self ..) (by rw[z])) h1 h2 (Iz ⟨by have:=h.l;simpa using this,fun i y qs e1 e2=>h.r (i+1) y qs (by simpa using e1) (by simpa using e2)⟩ fun y hy=>n y (mem_cons_of_mem _ hy))
theorem Zy (xs:List V)(k:Nat):qW xs none (some (k:Int))=xs.take k:=by
 unfold qW;have h1:HT.sIx xs.length 0 none=0:=rfl;have h2:HT.sIx xs.length xs.length (some (k:Int))=min k xs.length:=by simp[HT.sIx];lia
 rw[h1,h2,drop_zero,Nat.sub_zero,take_eq_take_iff];lia
theorem cV.rtsI (ht:H t=some (.ins C dx fs))(e:cV t H H'):∀{xs:List V} {ds:List RD},Rts K H xs ds->Rts K H' xs ds
 |_,_,.nil=>.nil
 |_,_,.cons h f q=>.cons (cV.seqTI ht e h) (cV.seqTI ht e f) (cV.rtsI ht e q)
theorem dE.xI (hq:H q=some (.ins C dx fs))(e:cV q H H')(ne:n≠q)(h:dE CN K H n l m ds):dE CN K H' n l m ds:=
 let ⟨⟨dx,a⟩,ts,b,c⟩:=h;⟨⟨dx,e _ _ a ne⟩,ts,e _ _ b (gL b hq (fun z=>by cases z)),cV.rtsI hq e c⟩
theorem Zn (hq:H q=some (.ins C dx []))(h:dE CN K H n l m ds):n≠q:=fun z=>by
 obtain⟨dn,a⟩:=h.ob;rw[z,hq] at a;injection a with a
 injection a with _ _ a
 unfold oH at a;have:=bN ("kept":Str) "kept" (.ref l) (fD "point_count" (.int m) []);rw[<- a,if_pos rfl] at this
 cases this
theorem Fqs.drop:∀(k:Nat) {xs:List V} {ps:List Q2},Fqs K H xs ps->Fqs K H (xs.drop k) (ps.drop k)
 |0,_,_,h=>h
 |_+1,_,_,.nil=>.nil
 |k+1,_,_,.cons _ q=>Fqs.drop k q
theorem Fqs.take:∀(k:Nat) {xs:List V} {ps:List Q2},Fqs K H xs ps->Fqs K H (xs.take k) (ps.take k)
 |0,_,_,h=>.nil
 |_+1,_,_,.nil=>.nil
 |k+1,_,_,.cons f q=>.cons f (Fqs.take k q)
def pK (CN CA CG CF:Addr)(K:Frag):Sp:=fun vs H Q E=>∃(x dx n l:Addr) (m:Nat) (ds:List RD),vs=[.ref x,.ref n]/\H x=some (.ins CA dx [])/\dE CN K H n l (m:Int) ds/\(∀d∈ds,cX (m:Int) d.2.1 d.2.2.1)/\1<=m/\m<=20/\ds.length<=40/\(∀d∈ds,Low d.2.2.2/\Bd 30 d.2.2.2)/\Rfs CG CF K H E m ds/\(rgH ds=[]->iZ m ds=[]->∃(b:Nat) (kb:Nat->Nat) (L:Int),qo6 CN K H n l m b kb L ds/\bw b (wd m ds)<=3900/\(∀i,∃a:Int,Mq.B b a/\eqR m ds (i+1)=(a:Rat) / (L:Rat))/\
 ∀ps H',cV x H H'->qo0 CA K H H' x (lvS m ps) (tF (lvS m ps) (ps.drop (m - 1)) 0 ds)->ps.length=wd m ds->oW ps->Ovr (bw b (wd m ds)) ps->Sv m ds (eqR m ds) (uP ps)->Q .non H')
abbrev Ff:Stmt:=cY (top 71) 0
theorem tX:aQ ["self","net","both","known","inner"] ["self","net"] (aH Ff):=sK9
theorem Ri (F:aY K "__init__" "Answer.__init__" Ff dV f fd)(ABx:AB K mg CA)(NTx:NT K mg CN)(fN:∀H,Fq K H aN (0,1))(mNO:mI9 mg "NOUGHT" aN)(GRo:aK P w K mg base CX0 4 gRo gdRo ["self"] (rV CN K CK))(bRo:aM K gdRo ["self"] [])(mRo:gQ K CN "rows" gRo)(GMa:aK P w K mg base CX0 1 gMa gdMa ["self"] (Ab CN K))(bMa:aM K gdMa ["self"] [])(mMa:gQ K CN "many" gMa)(G1:aK P w K mg base (CX1 P w) 7 g1 gd1 ["net"] (Tj CN CG CF K))(b1:aM K gd1 ["net"] [])(k1:kI9 K g1)(m1:mI9 mg "refuse_unanswered" g1)(G2:aK P w K mg base CX0 7 g2 gd2 ["net"] (Py CN K))(b2:aM K gd2 ["net"] [])(k2:kI9 K g2)(m2:mI9 mg "equations" g2)(G3:aK P w K mg base CX0 5 g3 gd3 ["matrix","right"] (xM K))(b3:aM K gd3 ["matrix","right"] [])(k3:kI9 K g3)(m3:mI9 mg "solved" g3)(G4:aK P w K mg base CX0 5 g4 gd4 ["rows","levels","held"] (Kt K CK))(b4:aM K gd4 ["rows","levels","held"] [])(k4:kI9 K g4)(m4:mI9 mg "flows_of" g4):aK P w K mg base (CX1 P w) 8 f fd ["self","net"] (pK CN CA CG CF K):=by
 refine F.okX tX (fun vs H Q E h=>?_) fun cdv A outer s H vs Q E hr h=>?_
 ·obtain⟨_,_,_,_,_,_,rfl,_⟩:=h;rfl
 obtain⟨x,dx,n,l,m,ds,rfl,hx,nt,pt,mo,m20,h40,hz,rf,qq⟩:=h;have r1:=hr.mono (by decide:1<=7);have r4:=hr.mono (by decide:4<=7);have r5:=hr.mono (by decide:5<=7);have r7:=hr;refine⟨_,(aC (bX (aI G1 r7 rfl m1 k1 b1 .nil (yP kN qD) (aA (pv 1) aD)))
  (aC (aS (i:=2) tX.nd rfl (Or.inl rfl) (aI G2 r7 rfl m2 k2 b2 .nil aR (aA (pv 1) aD)))
  (aC (aS (i:=3) tX.nd rfl (Or.inl rfl) (aI G3 r5 rfl m3 k3 b3 .nil aR (aA (aU bC (pv 2) aE (fun _ _=>rfl)) (aA (aU bC (pv 2) aE (fun _ _=>rfl)) aD))))
  (aC (aS (i:=4) tX.nd rfl (Or.inl rfl) (aP gR (gH (pv 1) NTx.cl mMa GMa r1 bMa .nil aR) aE))
  (aC (lZ (pv 0) (aU bC (pv 2) aE (fun _ _=>rfl)) rfl)
  (aC (lZ (pv 0) (aP oV (dG (aA (dM (v:=.ref aN) rfl mNO rfl) aD)) (iI jV (pv 3) kR (jB (pv 4)))) rfl)
  (aF (lZ (pv 0) (aI G4 r5 rfl m4 k4 b4 .nil aR (aA (gH (pv 1) NTx.cl mRo GRo r4 bRo .nil aR) (aA (bZ (pv 0) rfl) (aA (iI jV (pv 3) (jB (pv 4)) kR) aD)))) rfl)))))))),?_⟩
 refine⟨_,rfl,n,l,m,ds,rfl,nt,pt,mo,m20,h40,hz,rf,fun hR hF H1 s1=>?_⟩;obtain⟨b,kb,L,NB,hw39,h01,q⟩:=qq hR hF;have nt:=NB.nt;have hK:=NB.ok;have m20:=NB.m20;have h40:=NB.h40;have hbig:=NB.cu;have EB:=NB.eb;have mo:=EB.o.m1;refine⟨_,rfl,n,l,m,kb,ds,rfl,nt.same s1,hK,mo,m20,h40,hbig,fun tt p r us ys X Y H2 s2 et np nr ep er FM FY nx EO=>?_⟩;have s02:=s1.trans s2;have lX:X.length=m - 1+cC ds:=EO.x.h;have lY:Y.length=X.length:=by rw[EO.y.w,lX]
 have w26:=EB.w26;have lw:wd m ds=m - 1+cC ds:=rfl;have yq:∀p∈Y,(Bd b p/\p.2 ∣ L)/\∃a:Int,Mq.B b a/\Mq.val p=(a:Rat) / (L:Rat):=fun p hp=>by
  obtain⟨i,hi⟩:=getElem?_of_mem hp;have ep:p=Y.getD i (0,1):=by rw[getD_eq_getElem?_getD,hi];rfl
  obtain⟨z,hz,ez⟩:=h01 i;have hv:Mq.val p=(z:Rat) / (L:Rat):=by rw[ep,EO.vy,ez]
  exact⟨vD (EO.y.l p hp).1 EB.L1 EB.LB hz hv,z,hz,hv⟩
 refine⟨_,rfl,tt,_,0,_,rfl,rfl,SqT.of et,rfl,_,rfl,tt,_,1,_,rfl,rfl,SqT.of et,rfl,?_⟩;refine⟨p,r,p,H1,us,ys,X,Y,b,b,rfl,SqL.of ep,Iz FM (fun x hx=>(nx x hx).1),SqL.of er,FY,lY,fun p hp=>(EO.y.l p hp).1,fun p hp=>(yq p hp).1.1,EqB.pos EO,fun row hr=>⟨fun p hp=>((EB.cell EO row hr).1 p hp).1,(EB.cell EO row hr).2⟩,by lia,by rw[lX];exact EB.hb,Wi (EqB.pos EO) (fun p hp=>(EO.y.l p hp).1.pos) lY (fun row hr p hp=>((EB.cell EO row hr).1 p hp).2) (fun p hp=>⟨(yq p hp).1.2,(yq p hp).2⟩) EB.L1,EB.b1,by rw[lX];exact Nat.le_trans EB.hbw (by decide),EB.wgt EO,fun kn zk ps H3 s3 nkn ekn Fk SU OV=>?_⟩;rw[lX] at OV;have lps:ps.length=wd m ds:=by rw[SU.len,lX]
 have lo:=SU.low;have b39:=qc3 (n:=bw b (wd m ds)) OV lo hw39;have s03:=s02.trans s3;obtain⟨dn,hn⟩:=(nt.same s03).ob;refine⟨_,rfl,n,dn,_,rfl,hn,fP _ _ (by decide +kernel) (by decide +kernel),n,l,_,ds,rfl,nt.same s03,_,_,rfl,rfl,?_⟩;have et3:=s3 _ _ et;have hx3:=s03 _ _ hx;have em:(m:Int) - 1=((m - 1:Nat):Int):=by lia
 show gJ _ _ _ [some (.ref x),some (.ref n),some (.ref tt),some (.ref kn),some (.int ((m:Int) - 1))] H3;rw[em];refine⟨_,rfl,tt,_,0,_,rfl,rfl,SqT.of et3,rfl,_,rfl,x,CA,dx,[],rfl,hx3,ABx.cl,ABx.nI,(by show 0 < 1000;decide),?_⟩;have x4:cV x H (upd H3 x (.ins CA dx (fD "lines" (.ref p) []))):=fun b o h nb=>by rw[aL nb];exact s03 _ _ h
 have x34:cV x H3 (upd H3 x (.ins CA dx (fD "lines" (.ref p) []))):=fun b o h nb=>by rw[aL nb];exact h
 have hx4:upd H3 x (.ins CA dx (fD "lines" (.ref p) [])) x=some (.ins CA dx (fD "lines" (.ref p) [])):=aB;have ek4:=cV.seqI hx3 x34 (SqL.of (K:=K) ekn);have Fk4:=cV.fqsI hx3 x34 Fk;generalize upd H3 x (.ins CA dx (fD "lines" (.ref p) []))=H4 at x4 x34 hx4 ek4 Fk4 ⊢;refine⟨zl9 1,fun L1 hL1=>?_⟩;have s5:=aG hL1 (.lst [.ref aN]);have e5:upd H4 L1 (.lst [.ref aN]) L1=some (.lst [.ref aN]):=aB;generalize upd H4 L1 (.lst [.ref aN])=H5 at s5 e5 ⊢;refine⟨_,rfl,_,rfl,_,rfl,kn,zk,rfl,s5.seq ek4,fun S hS=>?_⟩;rw[Zy];have s6:=aG hS (.lst (zk.take (m - 1)));have e6:upd H5 S (.lst (zk.take (m - 1))) S=some (.lst (zk.take (m - 1))):=aB;generalize upd H5 S (.lst (zk.take (m - 1)))=H6 at s6 e6 ⊢;have lzk:=Fk.length;refine⟨L1,S,_,_,rfl,rfl,s6 _ _ e5,e6,Nat.le_of_lt (aZ (by rw[length_take];simp only[length_cons,length_nil];lia)),fun V1 hV1=>?_⟩;have s7:=aG hV1 (.lst ([.ref aN]++zk.take (m - 1)));have e7:upd H6 V1 (.lst ([.ref aN]++zk.take (m - 1))) V1=some (.lst ([.ref aN]++zk.take (m - 1))):=aB;generalize upd H6 V1 (.lst ([.ref aN]++zk.take (m - 1)))=H7 at s7 e7 ⊢;have s47:=s5.trans (s6.trans s7);have hx7:=s47 _ _ hx4;refine⟨_,rfl,x,CA,dx,_,rfl,hx7,ABx.cl,ABx.nE,(by have:=fE ("lines":Str) (.ref p) [];simp only[length_nil] at this;lia),?_⟩;have x78:cV x H7 (upd H7 x (.ins CA dx (fD "levels" (.ref V1) (fD "lines" (.ref p) [])))):=fun b o h nb=>by rw[aL nb];exact h
 have hx8:upd H7 x (.ins CA dx (fD "levels" (.ref V1) (fD "lines" (.ref p) []))) x=some (.ins CA dx (fD "levels" (.ref V1) (fD "lines" (.ref p) []))):=aB;generalize upd H7 x (.ins CA dx (fD "levels" (.ref V1) (fD "lines" (.ref p) [])))=H8 at x78 hx8 ⊢;have nn:=Zn hx nt;have nt4:=dE.xI hx3 x34 nn (nt.same s03);have nt8:=dE.xI hx7 x78 nn (nt4.same s47);have ek8:=cV.seqI hx7 x78 (s47.seq ek4);have Fk8:=cV.fqsI hx7 x78 (Fk4.same s47);have nV1x:V1≠x:=gL e7 hx7 (fun z=>by cases z);have ev8:=cV.seqI hx7 x78 (SqL.of (K:=K) e7);have Fv8:Fqs K H8 ([.ref aN]++zk.take (m - 1)) (lvS m ps):=.cons (fN _) (Fqs.take _ Fk8);obtain⟨dn8,hn8⟩:=nt8.ob;refine⟨_,rfl,n,dn8,_,rfl,hn8,fP _ _ (by decide +kernel) (by decide +kernel),n,l,_,ds,rfl,nt8,by lia,fun ro xr H9 s9 nro ero Rb=>?_⟩;have hx9:=s9 _ _ hx8;have ek9:=s9.seq ek8;refine⟨_,rfl,x,CA,dx,_,_,rfl,hx9,ABx.cl,ABx.nE,(by rw[bN,if_pos rfl]),_,rfl,_,rfl,_,rfl,kn,zk,rfl,ek9,fun S2 hS2=>?_⟩;rw[yZ];have s10:=aG hS2 (.lst (zk.drop (m - 1)));have e10:upd H9 S2 (.lst (zk.drop (m - 1))) S2=some (.lst (zk.drop (m - 1))):=aB;generalize upd H9 S2 (.lst (zk.drop (m - 1)))=H10 at s10 e10 ⊢;have s80:=s9.trans s10;have lLv:(lvS m ps).length=m:=by
  unfold lvS;rw[length_cons,length_take];lia
 refine⟨ro,V1,S2,xr,_,_,ds,lvS m ps,ps.drop (m - 1),m,rfl,s10 _ _ ero,Rb.same s10,⟨s80.seq ev8,Fv8.same s80,lLv,fun s hs=>?_⟩,SqL.of e10,Fqs.drop _ (Fk8.same s80),fun p hp=>lo p (mem_of_mem_drop hp),fun d hd=>?_,by rw[length_drop];lia,h40,fun fo zf H11 s11 nfo efo Ffo=>?_⟩
 ·rcases mem_cons.mp hs with z | z
  ·rw[z];exact⟨⟨by decide,by decide⟩,qn0 (n:=3899)⟩
  ·exact b39 s (mem_of_mem_take z)
 ·obtain⟨i,hi⟩:=getElem?_of_mem hd;exact(hK i d hi).1
 have s81:=s80.trans s11;have hx11:=s81 _ _ hx8;refine⟨_,rfl,x,CA,dx,_,rfl,hx11,ABx.cl,ABx.nO,(by have:=fE ("lines":Str) (.ref p) [];have:=fE ("levels":Str) (.ref V1) (fD "lines" (.ref p) []);simp only[length_nil] at *;lia),?_⟩;have x12:cV x H11 (upd H11 x (.ins CA dx (kH p V1 fo))):=fun b o h nb=>by rw[aL nb];exact h
 have hx12:upd H11 x (.ins CA dx (kH p V1 fo)) x=some (.ins CA dx (kH p V1 fo)):=aB;show Q .non (upd H11 x (.ins CA dx (kH p V1 fo)));generalize upd H11 x (.ins CA dx (kH p V1 fo))=H12 at x12 hx12 ⊢;refine q ps H12 (fun b o h nb=>x12 _ _ (s81 _ _ (x78 _ _ (s47 _ _ (x4 _ _ h nb)) nb)) nb) ⟨dx,p,V1,fo,_,zf,hx12,x12 _ _ (s81 _ _ (x78 _ _ e7 nV1x)) nV1x,cV.fqsI hx11 x12 (Fv8.same s81),x12 _ _ efo (gL efo hx11 (fun z=>by cases z)),cV.fqsI hx11 x12 Ffo,fun l0 o0 h0 n0=>⟨fun z=>?_,fun z=>?_⟩⟩ lps lo OV (EqB.sol EO SU fun i _=>EO.vy i)
 ·rw[z,(s5.trans s6) _ _ (x4 _ _ h0 n0)] at hV1;cases hV1
 ·rw[z,s80 _ _ (x78 _ _ (s47 _ _ (x4 _ _ h0 n0)) n0)] at nfo;cases nfo
def Ev (K:Frag)(H:Hp)(x:V):Prop:=(∃i,x=.int i)\/NW K H x
theorem Ev.same (s:aW H H')(h:Ev K H x):Ev K H' x:=h.imp id fun ⟨t,a,b⟩=>⟨t,a.same s,b⟩
def pN (m:Int):V->Bool
 | .int i=>decide (0<=i/\i < m)
 |_=>false
theorem qg4 (h:NW K H x)(m:Int):pN m x=false:=by
 obtain⟨t,a,b⟩:=h
 cases x with
 |int i=>cases a;rcases b with b | b | b | b | b<;>(injection b with b;exact absurd b (by decide))
 |_=>rfl
def Xy (K:Frag):Sp:=fun vs H Q _=>∃(x:V) (b:Int),vs=[x,.int b]/\Ev K H x/\Q (.bl (pN b x)) H
def Se (K:Frag)(CP:Addr):Sp:=fun vs H Q E=>∃(l:Addr) (xs:List V) (m:Int),vs=[.ref l,.int m]/\SqL K H l xs/\xs.length<=100/\(∀x∈xs,Ev K H x)/\(xs.all (pN m)=true->∀H',aW H H'->Q .non H')/\(xs.all (pN m)=false->∀H',aW H H'->E (.ref CP) none H')
theorem Zr (F:aY K "is_number_below" "is_number_below" sNB dV f fd)(G1:D9 P w K mg base 1 g1 gd1 ["thing"] (pZ K) "is_whole"):
  aK P w K mg base CX 2 f fd ["thing","bound"] (Xy K):=by
 refine F.ok9 qn5 fun _ _ _ s H _ Q E hr h=>?_;obtain⟨x,b',rfl,hx,q⟩:=h;refine⟨_,(aF (aV (iV (d9 G1 hr rfl (aA (pv 0) aD)) (iV (gP Ol (pv 0) aE (bO _)) (kA (gP Di (pv 0) (pv 1) (bO _))))))),?_⟩;rcases hx with ⟨i,rfl⟩ | hw
 ·have q:Q (.bl (decide (0<=i/\i < b'))) H:=q;refine⟨_,rfl,_,rfl,.inl ⟨i,rfl,_,rfl,fH ⟨_,rfl,_,_,rfl,rfl,_,rfl,?_⟩⟩⟩
  by_cases h0:0<=i
  ·refine L2.ifT (decide_eq_true h0) ⟨_,rfl,_,rfl,_,_,rfl,rfl,?_⟩;show Q (.bl (decide (i < b'))) H;have e:decide (0<=i/\i < b')=decide (i < b'):=by simp[h0]
   rw[<- e];exact q
  ·have e:decide (0<=i/\i < b')=false:=decide_eq_false fun z=>h0 z.1;rw[e] at q;exact L2.ifF (decide_eq_false h0) q
 ·rw[qg4 hw] at q;obtain⟨t,h1,h2⟩:=hw;exact⟨_,rfl,_,rfl,.inr ⟨t,h1,h2,_,rfl,dC q⟩⟩
theorem Zt (F:aY K "refuse_points" "refuse_points" sRP dV f fd)(ma:mg "all"=none)(G1:D9 P w K mg base 2 g1 gd1 ["thing","bound"] (Xy K) "is_number_below")(mN:mI9 mg "NoPoint" CP)(xN:Wo K CP):
  aK P w K mg base (CX1 P w) 3 f fd ["some","many"] (Se K CP):=by
 refine F.okX ql9 (fun vs H Q E h=>?_) fun cdv A outer s H vs Q E hr h=>?_
 ·obtain⟨_,_,_,rfl,_⟩:=h;rfl
 obtain⟨l,xs,m,rfl,hl,h100,hA,q,qE⟩:=h;refine⟨_,(aF (cH (eJ (cO (bV (vB rfl) rfl ma PyProof.Rows.boot_all (aA (dQ (nl:=1) (fr:=[1]) (Nc:=["point","many"]) (cl:=[("many",s.heap.objs.size+1)]) rfl ⟨rfl,rfl,by decide +kernel,by decide +kernel,fun x c h=>h,dU rfl,rfl,fun i n h=>match i,h with | 0,h=>by cases h;exact⟨1,rfl,rfl,rfl,rfl,.inl rfl⟩ | k+1,h=>by rw[show 1+(k+1)=k+2 by lia] at h;cases h⟩
    (cZ (pv 0)) (fun _ _ _ _ _=>(bH (i:=0) xE rfl (Or.inl rfl))) (fun _ _ _ _ _=>fL)
    (fun _ _ _ _ _=>(d9 G1 hr rfl (aA (pv 0) (aA (pv 1) aD))))) aD)))) (aF (Pa kN qD rfl rfl mN xN (aA dD aD))) bM)),?_⟩
 refine⟨_,rfl,l,rfl,⟨_,hl⟩,fun D hD=>?_⟩;have sD:=aG hD (.lst []);refine fC (xs:=xs) (fun k zs H'=>aW H H'/\H' D=some (.lst zs)/\zs=((xs.take k).map (pN m)).map V.bl) ⟨sD,aB,rfl⟩ (fun k zs H' h=>h.2.1) (fun k zs H' _ h=>h.1.seq hl) ?_ ?_
 ·rintro k zs x H1 hx ⟨s1,e1,rfl⟩ C hC;have hk:k < xs.length:=(List.getElem?_eq_some_iff.mp hx).1;refine⟨dS.1,dS.2,fH ?_⟩;refine⟨_,rfl,_,rfl,x,m,rfl,(hA x (mem_of_getElem? hx)).same s1,e1,aZ (by rw[length_map,length_map,length_take];lia),hC _ _ ⟨s1.change hD,aB,?_⟩⟩;rw[take_add_one,hx,map_append,map_append];rfl
 ·rintro zs H1 ⟨s1,e1,rfl⟩;rw[take_length] at e1;have ea:(xs.map (pN m)).all id=xs.all (pN m):=by rw[all_map];rfl
  refine⟨D,_,rfl,SqL.of e1,_,rfl,?_⟩;rw[ea]
  cases c:xs.all (pN m) with
  |true=>exact L2.ifF rfl (q c _ s1)
  |false=>exact L2.ifT rfl ⟨zl9 1,qE c _ s1⟩
def Cv (CA CP:Addr)(K:Frag):Sp:=fun vs H _ E=>∃(a:Addr) (lv fl:List Q2) (u v:V),vs=[.ref a,u,v]/\vU CA K H a lv fl/\lv.length<=20/\Ev K H u/\Ev K H v/\(pN (lv.length:Int) u && pN (lv.length:Int) v)=false/\∀H',aW H H'->E (.ref CP) none H'
abbrev Hk:Stmt:=cY (top 71) 3
theorem Wu:aQ ["self","a","b"] ["self","a","b"] (aH Hk):=sK9
theorem Ln (F:aY K "fall" "Answer.fall" Hk dV f fd)(ABx:AB K mg CA)(ml:mg "len"=none)(G1:aK P w K mg base (CX1 P w) 3 g1 gd1 ["some","many"] (Se K CP))(b1:aM K gd1 ["some","many"] [])(k1:kI9 K g1)(m1:mI9 mg "refuse_points" g1)(G2:aK P w K mg base CX0 3 g2 gd2 ["one","other"] (lH K Mq.minus))(b2:aM K gd2 ["one","other"] [])(k2:kI9 K g2)(m2:mI9 mg "minus" g2):aK P w K mg base (CX1 P w) 4 f fd ["self","a","b"] (Cv CA CP K):=by
 refine F.okX Wu (fun vs H Q E h=>?_) fun cdv A outer s H vs Q E hr h=>?_
 ·obtain⟨_,_,_,_,_,rfl,_⟩:=h;rfl
 obtain⟨a,lv,fl,u,v,rfl,⟨⟨dx,li,le,fo,xs,ys,ha,hle,Fle,hfo,Ffo⟩⟩,h20,hu,hv,hb,q⟩:=h;refine⟨_,(aC (bX (aI G1 hr rfl m1 k1 b1 .nil (yP kN qD) (aA (dG (aA (pv 1) (aA (pv 2) aD))) (aA (bV cJ rfl ml PySem.boot_len (aA (bZ (pv 0) rfl) aD)) aD))))
  (aF (aV (aI G2 hr rfl m2 k2 b2 .nil aR (aA (aU bU (bZ (pv 0) rfl) (pv 1) (fun _ _=>rfl)) (aA (aU bU (bZ (pv 0) rfl) (pv 2) (fun _ _=>rfl)) aD)))))),?_⟩
 have lxs:=Fle.length;refine⟨_,rfl,_,rfl,zl9 2,fun l hl=>?_⟩;have sl:=aG hl (.lst [u,v]);have el:upd H l (.lst [u,v]) l=some (.lst [u,v]):=aB;generalize upd H l (.lst [u,v])=H1 at sl el ⊢;refine⟨_,rfl,a,CA,_,_,_,rfl,sl _ _ ha,ABx.cl,ABx.nE,Tp _ _ _,le,xs,rfl,.inl (sl.seq hle),?_⟩;rw[lxs];refine⟨l,[u,v],_,rfl,SqL.of el,by show 2<=100;decide,fun x hx=>?_,fun z=>?_,fun _ H' s'=>q H' (sl.trans s')⟩
 ·rcases mem_cons.mp hx with z | z
  ·rw[z];exact hu.same sl
  ·rw[mem_singleton.mp z];exact hv.same sl
 ·exfalso
  have z:(pN (lv.length:Int) u && (pN (lv.length:Int) v && true))=true:=z;rw[Bool.and_true] at z;rw[z] at hb;cases hb
def qX:Sp:=fun vs H Q _=>∃(t b:Int) (n:Nat),vs=[.int t,.int b]/\0 < b/\Mq.B n b/\n<=9000/\tI H Q (red t b)
theorem Ad {t b:Int}(h:0 < b):dvr t b=gc t b:=by unfold dvr;rw[if_neg (by lia)]
def Be (ns:List Int)(k:Nat):Int:=match ns.drop k with
 |c :: _=>c
 | []=>16807*(k:Int)*(k:Int) % 1009
theorem Ub (ns:List Int)(k:Nat):qW (ns.map V.int) (some (k:Int)) (some ((k:Int)+1))=((ns.drop k).take 1).map V.int:=by
 unfold qW;have h2:HT.sIx (ns.map V.int).length 0 (some (k:Int))=min k ns.length:=by simp[HT.sIx];lia
 have h1:HT.sIx (ns.map V.int).length (ns.map V.int).length (some ((k:Int)+1))=min (k+1) ns.length:=by simp[HT.sIx];lia
 rw[h1,h2]
 by_cases h:k < ns.length
 ·rw[Nat.min_eq_left (by assumption),Nat.min_eq_left (by lia),Nat.add_sub_cancel_left,map_take,map_drop]
 ·rw[Nat.min_eq_right (by lia),Nat.min_eq_right (by lia),drop_of_length_le (by simp),drop_of_length_le (l:=ns) (by lia)];simp
def wW (K:Frag):Sp:=fun vs H Q _=>∃(a:Addr) (ns:List Int) (j:Int) (k:Nat),vs=[.ref a,.int j]/\j=(k:Int)/\SqL K H a (ns.map V.int)/\ns.length<=63/\k<=1000/\∀H',aW H H'->Q (.int (Be ns k)) H'
abbrev qa9:Stmt:=top 74
theorem Ya:aQ ["_law_script","_law_k","_law_cell"] ["_law_script","_law_k"] (aH qa9):=sK9
theorem qa1 (F:aY K "_law_nth" "_law_nth" qa9 dV f fd):
  aK P w K mg base CX 1 f fd ["_law_script","_law_k"] (wW K):=by
 refine F.ok9 Ya fun _ _ _ s H _ Q E hr h=>?_;obtain⟨a,ns,j,k,rfl,hj,hS,h63,hk,q⟩:=h;subst hj;refine⟨_,(aC (fK PassesOwn.never rfl (cZ (iI jV (pv 0) (jB (pv 1)) (jB (aP dL (pv 1) aE)))) (bH (i:=2) Ya.nd rfl (Or.inl rfl))
   (aF (aV (pv 2))))
  (aF (aV (aP cT (aP cP (aP hG aE (pv 1)) (pv 1)) aE)))),?_⟩
 refine⟨_,rfl,_,rfl,(k:Int),rfl,_,rfl,_,_,rfl,rfl,(k:Int)+1,rfl,a,_,rfl,hS,fun l hl=>?_⟩;rw[Ub];have s1:=aG hl (.lst (((ns.drop k).take 1).map V.int));have e1:upd H l (.lst (((ns.drop k).take 1).map V.int)) l=some (.lst (((ns.drop k).take 1).map V.int)):=aB;generalize upd H l (.lst (((ns.drop k).take 1).map V.int))=H1 at e1 s1 ⊢;refine⟨l,rfl,⟨_,SqL.of e1⟩,?_⟩;have q1:=q H1 s1;unfold Be at q1
 cases hd:ns.drop k with
 |nil=>
  rw[hd] at e1 q1;refine gC (xs:=[]) (fun i σ H'=>H'=H1/\σ=[some (.ref a),some (.int (k:Int)),none]) ⟨rfl,rfl⟩ (fun i σ H' _ h=>by rw[h.1];exact SqL.of e1) ?_ ?_
  ·rintro i x σ H' hx _;simp at hx
  ·rintro σ H' ⟨rfl,rfl⟩;exact⟨_,rfl,_,_,rfl,rfl,Or.inl ⟨by decide,by decide⟩,_,rfl,cQ (n:=40) (m:=40) (Lg (by lia) (by lia)) (Lg (by lia) (by lia)) (by decide) (by decide) ⟨_,_,rfl,rfl,(by decide:(0:Int) < 1009),q1⟩⟩
 |cons c r=>
  rw[hd] at e1 q1;refine gC (xs:=[.int c]) (fun i σ H'=>H'=H1/\i=0/\σ=[some (.ref a),some (.int (k:Int)),none]) ⟨rfl,rfl,rfl⟩ (fun i σ H' _ h=>by rw[h.1];exact SqL.of e1) ?_ ?_
  ·rintro i x σ H' hx ⟨rfl,rfl,rfl⟩;have ex:x=.int c:=by simpa using hx.symm
   subst ex;exact⟨_,rfl,q1⟩
  ·rintro σ H' ⟨rfl,h0,rfl⟩;simp at h0
abbrev Zl:Stmt:=top 75
theorem Xl:aQ ["_law_one","_law_other"] ["_law_one","_law_other"] (aH Zl):=sK9
theorem Zo (F:aY K "_law_divisor" "_law_divisor" Zl dV f fd)(b:Bl mg):
  aK P w K mg base CX 1 f fd ["_law_one","_law_other"] Gk:=by
 refine F.ok9 Xl fun _ _ _ s H _ Q E hr h=>?_;obtain⟨x,y,rfl,q⟩:=h;refine⟨_,(aC (uT PassesOwn.never (bK sZ (pv 1) aE (bO _)) (aF (qa5 (i:=0) (j:=1) rfl Xl.nd rfl rfl (by decide) rfl rfl (aA (pv 1) (aA (aP kW (pv 0) (pv 1)) aD)) rfl)))
  (aF (aV (bV Ed rfl b.abs PyProof.Rows.boot_abs (aA (pv 0) aD))))),?_⟩
 refine vA (fun σ H'=>H'=H/\∃u v,σ=[some (.int u),some (.int v)]/\gc u v=gc x y) (fun σ _=>match σ with | [_,some (.int v)]=>v.natAbs | _=>0) ⟨rfl,x,y,rfl,rfl⟩ ?_ ?_
 ·rintro σ H' ⟨rfl,u,v,rfl,e⟩;refine⟨_,rfl,rfl,_,rfl,?_⟩;refine qK (fun c=>?_) (fun c=>?_)
  ·have hv:v≠0:=by intro q;subst q;simp at c
   refine⟨_,rfl,_,rfl,_,rfl,_,_,rfl,rfl,hv,_,_,rfl,⟨rfl,v,Int.fmod u v,rfl,(Ic u v).trans e⟩,yR hv⟩
  ·have hv:v=0:=by
    simp at c;exact c
   subst hv;refine⟨_,rfl,_,rfl,?_⟩;rw[<- Ii,e];exact q
 ·rintro σ H Q Q' m ⟨v,h1,h2,k,h3,h4⟩;exact⟨v,h1,h2,k,h3,m _ _ h4⟩
abbrev Bp:Stmt:=top 76
theorem Dt:aQ ["_law_top","_law_bottom","_law_part"] ["_law_top","_law_bottom"] (aH Bp):=sK9
theorem Lj (F:aY K "_law_lowest" "_law_lowest" Bp dV f fd)(G1:D9 P w K mg base 1 g1 gd1 ["_law_one","_law_other"] Gk "_law_divisor"):
  aK P w K mg base CX 2 f fd ["_law_top","_law_bottom"] qX:=by
 refine F.ok9 Dt fun cdv A outer s H vs Q E hr h=>?_;obtain⟨t,b',n,rfl,hb,hB,hn,q⟩:=h;refine⟨_,(aC (aS (i:=2) Dt.nd rfl (Or.inl rfl) (d9 G1 hr rfl (aA (pv 0) (aA (pv 1) aD))))
  (aF (aV (cU (aA (aP iJ (pv 0) (pv 2)) (aA (aP iJ (pv 1) (pv 2)) aD)))))),?_⟩
 have hd:=rH (t:=t) (by lia:b'≠0);have hdB:Mq.B n (dvr t b'):=hB.le (Gc (by lia));have e:=Ad (t:=t) hb;rw[e] at hd hdB;have q':tI H Q (t.fdiv (gc t b'),b'.fdiv (gc t b')):=by
  have z:=q;unfold red at z;rw[e] at z;exact z
 refine⟨_,rfl,_,rfl,t,b',rfl,?_⟩;refine⟨_,rfl,_,rfl,hV hd hdB hn ⟨_,rfl,_,rfl,hV hd hdB hn ⟨zl9 2,fun p hp=>?_⟩⟩⟩;exact q' p _ (aG hp _) aB
def Vq (K:Frag):Sp:=fun vs H Q _=>∃(a:Addr) (p:Q2),vs=[.ref a]/\Fq K H a p/\Low p/\Q (.bl true) H
abbrev sIs:Stmt:=top 77
theorem qg0:aQ ["_law_found","_law_number"] ["_law_found"] (aH sIs):=sK9
theorem qf2 (F:aY K "_law_is" "_law_is" sIs dV f fd)(b:Bl mg)(ml:mg "len"=none)(mt:mg "tuple"=none)(G1:D9 P w K mg base 1 g1 gd1 ["_law_one","_law_other"] Gk "_law_divisor"):
  aK P w K mg base CX 2 f fd ["_law_found"] (Vq K):=by
 refine F.ok9 qg0 fun _ _ _ s H _ Q E hr h=>?_;obtain⟨a,p,rfl,fa,hp,q⟩:=h;refine⟨_,(aC (cH (PW.pt (iB (eJ (cO (hJ (i:=0) rfl (Or.inl rfl) b.isi mt rfl rfl PyProof.Rows.boot_tuple))) (iC (bK sZ (bV cJ rfl ml PySem.boot_len (aA (pv 0) aD)) aE (bO _))))) (aF (aV gN)) bM)
  (aC (fK PassesOwn.never rfl (qa2 (pv 0)) (bH (i:=1) qg0.nd rfl (Or.inl rfl))
   (aF (cH (PW.pt (iB (eJ (cO (hJ (i:=1) rfl (Or.inl rfl) b.isi b.int rfl rfl PyProof.Rows.boot_int))) (iC (cO (hJ (i:=1) rfl (Or.inl rfl) b.isi b.bool rfl rfl PyProof.Rows.boot_bool))))) (aF (aV gN)) bM)))
  (aF (aV (iV (gP Ej (aU bC (pv 0) aE (fun _ _=>rfl)) aE (bO _)) (kA (gP fZ (d9 G1 hr rfl (aA (aU bC (pv 0) aE (fun _ _=>rfl)) (aA (aU bC (pv 0) aE (fun _ _=>rfl)) aD))) aE (bO _)))))))),?_⟩
 refine⟨_,_,true,rfl,.tup fa,rfl,_,rfl,dC ⟨_,rfl,a,_,rfl,.inr fa,rfl,_,rfl,dC ?_⟩⟩;refine⟨_,rfl,a,rfl,⟨_,fa⟩,?_⟩;refine Vm (xs:=[.int p.1,.int p.2]) (fun i σ H'=>H'=H/\∃z,σ=[some (.ref a),z]) ⟨rfl,none,rfl⟩ (fun i σ H' _ h=>by rw[h.1];exact fa) ?_ ?_
 ·rintro i x σ H' hx ⟨rfl,z,rfl⟩;have hint:∃j,x=.int j:=by
   match i,hx with
   |0,h=>exact⟨p.1,by simpa using h.symm⟩
   |1,h=>exact⟨p.2,by simpa using h.symm⟩
   |n+2,h=>simp at h
  obtain⟨j,rfl⟩:=hint;exact⟨_,_,true,rfl,.of (.int j),rfl,_,rfl,dC ⟨_,_,false,rfl,.of (.int j),(by with_unfolding_all rfl),_,rfl,dC ⟨rfl,_,rfl⟩⟩⟩
 ·rintro σ H' ⟨rfl,z,rfl⟩;have h1:=hp.pos;refine cW rfl fa ⟨_,_,rfl,rfl,_,rfl,L2.ifT (decide_eq_true (by assumption:p.2 > 0)) (fU rfl fa (cW rfl fa ⟨_,_,rfl,rfl,?_⟩))⟩;rw[hp.one];exact q
theorem sV (x:Int)(h:0 < m):0<=x % m:=Int.emod_nonneg x (by lia)
theorem tD (x:Int)(h:0 < m):x % m < m:=Int.emod_lt_of_pos x h
def kJ (fr:Bool):Nat:=if fr then 30 else 4
def Rh:Sp:=fun vs H Q _=>∃(c:Int) (fr:Bool),vs=[.int c,.bl fr]/\∀p,Ps p->Bd (kJ fr) p->tI H Q p
def pF:Sp:=fun vs H Q _=>∃(c:Int) (fr:Bool),vs=[.int c,.bl fr]/\∀p,Low p->Bd (kJ fr) p->tI H Q p
theorem Co (q:∀p,Ps p->Bd (kJ fr) p->tI H Q p)(h1:0 < t)(h2:t < 2 ^ kJ fr)(h3:0 < b)(h4:b < 2 ^ kJ fr):qX [.int t,.int b] H Q E0:=by
 have bT:Mq.B (kJ fr) t:=Lg (by have:(0:Int) < 2 ^ kJ fr:=Int.pow_pos (by decide);lia) h2;have bB:Mq.B (kJ fr) b:=Lg (by have:(0:Int) < 2 ^ kJ fr:=Int.pow_pos (by decide);lia) h4;have le:=kT (t:=t) (by lia:b≠0);exact⟨t,b,kJ fr,rfl,h3,bB,by unfold kJ;split<;>decide,q _ (Mq.qc6 h1 h3) ⟨bT.le le.1,bB.le le.2⟩⟩
theorem uX (q:∀p,Low p->Bd (kJ fr) p->tI H Q p)(h1:-(2 ^ kJ fr) < t)(h2:t < 2 ^ kJ fr)(h3:0 < b)(h4:b < 2 ^ kJ fr):qX [.int t,.int b] H Q E0:=by
 have bT:Mq.B (kJ fr) t:=Lg h1 h2;have bB:Mq.B (kJ fr) b:=Lg (by have:(0:Int) < 2 ^ kJ fr:=Int.pow_pos (by decide);lia) h4;have le:=kT (t:=t) (by lia:b≠0);exact⟨t,b,kJ fr,rfl,h3,bB,by unfold kJ;split<;>decide,q _ (gK (by lia)) ⟨bT.le le.1,bB.le le.2⟩⟩
abbrev Nv:Stmt:=top 81
theorem Zs:aQ ["_law_cell","_law_far"] ["_law_cell","_law_far"] (aH Nv):=sK9
theorem Vz (F:aY K "_law_size" "_law_size" Nv dV f fd)(G1:D9 P w K mg base 2 g1 gd1 ["_law_top","_law_bottom"] qX "_law_lowest"):
  aK P w K mg base CX 3 f fd ["_law_cell","_law_far"] Rh:=by
 refine F.ok9 Zs fun _ _ _ s H _ Q E hr h=>?_;obtain⟨c,fr,rfl,q⟩:=h;refine⟨_,(aC (cH (cO (pv 1)) (aF (aV (d9 G1 hr rfl (aA (aP dL aE (aP cT (aP hG (pv 0) aE) aE)) (aA (aP dL aE (aP cT (aP hG (pv 0) aE) aE)) aD))))) bM)
  (aF (aV (d9 G1 hr rfl (aA (aP dL aE (aP cT (aP cT (aP hG (pv 0) aE) aE) aE)) (aA (aP dL aE (aP cT (aP cT (aP hG (pv 0) aE) aE) aE)) aD)))))),?_⟩
 refine⟨_,rfl,_,rfl,?_⟩
 cases fr
 ·refine dC ⟨_,rfl,_,_,rfl,rfl,Or.inr ⟨by decide,by decide⟩,_,_,rfl,rfl,(by decide:(0:Int) < 10007),_,_,rfl,rfl,(by decide:(0:Int) < 9),_,_,rfl,rfl,_,rfl,_,_,rfl,rfl,Or.inr ⟨by decide,by decide⟩,_,_,rfl,rfl,(by decide:(0:Int) < 31),_,_,rfl,rfl,(by decide:(0:Int) < 4),_,_,rfl,rfl,?_⟩;have a1:=sV (c*48271 % 10007) (by decide:(0:Int) < 9);have a2:=tD (c*48271 % 10007) (by decide:(0:Int) < 9);have b1:=sV (c*16807 % 31) (by decide:(0:Int) < 4);have b2:=tD (c*16807 % 31) (by decide:(0:Int) < 4);exact Co q (by lia) (by show _ < (16:Int);lia) (by lia) (by show _ < (16:Int);lia)
 ·refine fH ⟨_,rfl,_,_,rfl,rfl,Or.inr ⟨by decide,by decide⟩,_,_,rfl,rfl,(by decide:(0:Int) < 999999937),_,_,rfl,rfl,_,rfl,_,_,rfl,rfl,Or.inr ⟨by decide,by decide⟩,_,_,rfl,rfl,(by decide:(0:Int) < 999999929),_,_,rfl,rfl,?_⟩;have a1:=sV (c*48271) (by decide:(0:Int) < 999999937);have a2:=tD (c*48271) (by decide:(0:Int) < 999999937);have b1:=sV (c*69621) (by decide:(0:Int) < 999999929);have b2:=tD (c*69621) (by decide:(0:Int) < 999999929);exact Co q (by lia) (by show _ < (1073741824:Int);lia) (by lia) (by show _ < (1073741824:Int);lia)
abbrev Ay:Stmt:=top 82
theorem Px:aQ ["_law_cell","_law_far"] ["_law_cell","_law_far"] (aH Ay):=sK9
theorem Lh (F:aY K "_law_amount" "_law_amount" Ay dV f fd)(G1:D9 P w K mg base 2 g1 gd1 ["_law_top","_law_bottom"] qX "_law_lowest"):
  aK P w K mg base CX 3 f fd ["_law_cell","_law_far"] pF:=by
 refine F.ok9 Px fun cdv A outer s H vs Q E hr h=>?_;obtain⟨c,fr,rfl,q⟩:=h;refine⟨_,(aC (cH (cO (pv 1)) (aF (aV (d9 G1 hr rfl (aA (aP gR (aP cT (aP hG (pv 0) aE) aE) aE) (aA (aP dL aE (aP cT (aP hG (pv 0) aE) aE)) aD))))) bM)
  (aF (aV (d9 G1 hr rfl (aA (aP gR (aP cT (aP cT (aP hG (pv 0) aE) aE) aE) aE) (aA (aP dL aE (aP cT (aP cT (aP hG (pv 0) aE) aE) aE)) aD)))))),?_⟩
 refine⟨_,rfl,_,rfl,?_⟩
 cases fr
 ·refine dC ⟨_,rfl,_,_,rfl,rfl,Or.inr ⟨by decide,by decide⟩,_,_,rfl,rfl,(by decide:(0:Int) < 10009),_,_,rfl,rfl,(by decide:(0:Int) < 19),_,_,rfl,rfl,_,rfl,_,_,rfl,rfl,Or.inr ⟨by decide,by decide⟩,_,_,rfl,rfl,(by decide:(0:Int) < 37),_,_,rfl,rfl,(by decide:(0:Int) < 3),_,_,rfl,rfl,?_⟩;have a1:=sV (c*69621 % 10009) (by decide:(0:Int) < 19);have a2:=tD (c*69621 % 10009) (by decide:(0:Int) < 19);have b1:=sV (c*16807 % 37) (by decide:(0:Int) < 3);have b2:=tD (c*16807 % 37) (by decide:(0:Int) < 3);exact uX q (by show -(16:Int) < _;lia) (by show _ < (16:Int);lia) (by lia) (by show _ < (16:Int);lia)
 ·refine fH ⟨_,rfl,_,_,rfl,rfl,Or.inr ⟨by decide,by decide⟩,_,_,rfl,rfl,(by decide:(0:Int) < 1999999973),_,_,rfl,rfl,_,rfl,_,_,rfl,rfl,Or.inr ⟨by decide,by decide⟩,_,_,rfl,rfl,(by decide:(0:Int) < 999999893),_,_,rfl,rfl,?_⟩;have a1:=sV (c*69621) (by decide:(0:Int) < 1999999973);have a2:=tD (c*69621) (by decide:(0:Int) < 1999999973);have b1:=sV (c*48271) (by decide:(0:Int) < 999999893);have b2:=tD (c*48271) (by decide:(0:Int) < 999999893);exact uX q (by show -(1073741824:Int) < _;lia) (by show _ < (1073741824:Int);lia) (by lia) (by show _ < (1073741824:Int);lia)
def As (CN:Addr)(K:Frag):Sp:=fun vs H Q _=>∃(m:Int) (r:Addr) (us:List V) (ds:List RD),vs=[.int m,.ref r]/\1<=m/\m<=20/\SqL K H r us/\Rts K H us ds/\(∀d∈ds,Cp m d)/\ds.length<=40/\∀n l H',aW H H'->H l=none->dE CN K H' n l m ds->Q (.ref n) H'
abbrev Ht:Stmt:=top 80
theorem zS:aQ ["_law_many","_law_rows","_law_net_here","_law_row"] ["_law_many","_law_rows"] (aH Ht):=sK9
theorem Qx (F:aY K "_law_net" "_law_net" Ht dV f fd)(NTx:NT K mg CN)(GAd:aK P w K mg base CX0 5 gAd gdAd ["self","row"] (Od CN K CK))(bAd:aM K gdAd ["self","row"] [])(mAd:gQ K CN "add" gAd)(GNI:aK P w K mg base CX0 2 gNI gdNI ["self","many"] (Je CN))(bNI:aM K gdNI ["self","many"] [])(MN:Mk K CN gNI)(G1:D9 P w K mg base 3 g1 gd1 ["told"] (pY K CK) "row_of"):
  aK P w K mg base CX 6 f fd ["_law_many","_law_rows"] (As CN K):=by
 refine F.ok9 zS fun cdv A outer s H vs Q E hr h=>?_;obtain⟨m,r,us,ds,rfl,hm1,hm20,hU,hR,hK,h40,q⟩:=h;have r3:=hr.mono (by decide:3<=5);refine⟨_,(aC (aS (i:=2) zS.nd rfl (Or.inl rfl) (qR MN GNI r3 rfl NTx.mN bNI .nil aR (aA (pv 0) aD)))
  (aC (fK PassesOwn.never rfl (cZ (pv 1)) (bH (i:=3) zS.nd rfl (Or.inl rfl))
   (aF (bX (Ji (pv 2) NTx.cl mAd GAd hr bAd .nil aR (aA (d9 G1 r3 rfl (aA (pv 3) aD)) aD)))))
  (aF (aV (pv 2))))),?_⟩
 have lus:=hR.length;refine⟨_,rfl,fun n dx h1 h2 ne=>⟨n,dx,m,rfl,aB,hm1,hm20,fun l H2 nl keep hn hl=>⟨rfl,?_⟩⟩⟩;have s2:aW H H2:=fun b o e=>keep b o (by rw[aL (aX e h1),aL (aX e h2)];exact e) (aX e h1);have hl0:H l=none:=by
  cases o:H l with
  |none=>rfl
  |some o'=>
   have:(upd (upd H dx (.own n)) n (.ins CN dx [])) l=some o':=by rw[aL (aX o h1),aL (aX o h2)];exact o
   rw[this] at nl;cases nl
 refine⟨_,rfl,r,rfl,⟨_,s2.seq hU⟩,?_⟩;refine gC (xs:=us) (fun i σ H'=>aW H H'/\dE CN K H' n l m (ds.take i)/\∃z,σ=[some (.int m),some (.ref r),some (.ref n),z]) ⟨s2,⟨⟨dx,hn⟩,[],hl,.nil⟩,none,rfl⟩ (fun i σ H' _ h=>h.1.seq hU) ?_ ?_
 ·rintro i x σ H3 hx ⟨s3,N3,z,rfl⟩;have hi:i < ds.length:=by
   have:=(List.getElem?_eq_some_iff.mp hx).1;lia
  obtain⟨⟨k,u,v,p⟩,hd⟩:∃d,ds[i]?=some d:=⟨_,getElem?_eq_getElem hi⟩
  obtain⟨t,z',et,hT,fz⟩:=hR.at hd;have ex:x=.ref t:=by rw[et] at hx;exact(Option.some.inj hx).symm
  subst ex;obtain⟨dn,hn3⟩:=N3.ob;have lt:(ds.take i).length<=ds.length:=by rw[length_take];lia
  refine⟨_,rfl,n,dn,_,rfl,hn3,fP _ _ (by decide +kernel) (by decide +kernel),_,rfl,t,_,_,_,_,rfl,s3.seqT hT,k,rfl,fun y H4 s4 ny rw=>?_⟩;refine⟨n,l,y,z',m,ds.take i,k,u,v,p,rfl,N3.same s4,rw,(s3.trans s4).fq fz,hK _ (mem_of_getElem? hd),by rw[length_take];lia,fun H5 x5 N5=>?_⟩;refine⟨fun b o e=>x5 _ _ ((s3.trans s4) _ _ e) (aX e hl0),?_,_,rfl⟩;rw[take_add_one,hd];exact N5
 ·rintro σ H3 ⟨s3,N3,z,rfl⟩;rw[lus,take_length] at N3;exact⟨_,rfl,q n l H3 s3 hl0 N3⟩
def Bw:Sp:=fun vs H Q _=>∃i:Int,vs=[.int i]/\Q (.bl true) H
abbrev Gv:Stmt:=top 79
theorem Wn:aQ ["_law_found"] ["_law_found"] (aH Gv):=sK9
theorem Ru (F:aY K "_law_an_int" "_law_an_int" Gv dV f fd)(b:Bl mg):
  aK P w K mg base CX 1 f fd ["_law_found"] Bw:=by
 refine F.ok9 Wn fun cdv A outer s H vs Q E hr h=>?_;obtain⟨i,rfl,q⟩:=h;refine⟨_,(aF (aV (iV (hJ (i:=0) rfl (Or.inl rfl) b.isi b.int rfl rfl PyProof.Rows.boot_int) (iV (gP zA (pv 0) gN (bO _)) (kA (gP zA (pv 0) gN (bO _))))))),?_⟩;exact⟨_,_,true,rfl,.of (.int i),rfl,_,rfl,fH ⟨_,rfl,i,_,rfl,rfl,_,rfl,fH ⟨_,rfl,i,_,rfl,rfl,q⟩⟩⟩
end
structure RfC (K:Frag) (mg:Str->Option Value) (CG CF:Addr):Prop where
 ex:∀C∈[CG,CF],Cl K C/\W.hasDictIn K C=true
 no:W.findIn K (.ref CF) "points"=some none/\W.findIn K (.ref CG) "ring"=some none/\W.findIn K (.ref CG) "total"=some none
 ve:mg "ValueError"=none/\∀C∈[CG,CF],W.kitOne K (.ref C) (.type "ValueError")=some true
 oe:∃CO,mg "OhmError"=some (.ref CO)/\∀C∈[CG,CF],W.exmOne K (.ref C) (.ref CO)=some true
 mG:mg "Ring"=some (.ref CG)
 mF:mg "Floats"=some (.ref CF)
 gf:W.kitOne K (.ref CG) (.ref CF)=some false/\W.kitOne K (.ref CF) (.ref CG)=some false
 t1:∃c0 c1 c2 c3 c4 c5,mg "Held"=some (.ref c0)/\mg "Lame"=some (.ref c1)/\mg "NoName"=some (.ref c2)/\mg "NoNumber"=some (.ref c3)/\mg "NoPoint"=some (.ref c4)/\mg "NoRoad"=some (.ref c5)/\∀C∈[CG,CF],W.kitAny K (.ref C) [.ref c0,.ref c1,.ref c2,.ref c3,.ref c4,.ref c5]=some false
 t2:∃d0 d1 d2 d3 d4,mg "NoRow"=some (.ref d0)/\mg "NoSize"=some (.ref d1)/\mg "NoStreams"=some (.ref d2)/\mg "NoWord"=some (.ref d3)/\mg "TooMany"=some (.ref d4)/\∀C∈[CG,CF],W.kitAny K (.ref C) [.ref d0,.ref d1,.ref d2,.ref d3,.ref d4]=some false
def Hf (CG CF:Addr):Sp:=fun vs H Q _=>∃(a C dx:Addr) (fs:List (Str × V)),vs=[.ref a]/\H a=some (lM a (.ref C) (some dx))/\H dx=some (.xd fs)/\C∈[CG,CF]/\∀H',aW H H'->Q (.bl true) H'
abbrev Rf:Stmt:=top 83
theorem Zz:aQ ["_law_kept"] ["_law_kept"] (aH Rf):=sK9
theorem Uj (F:aY K "_law_lone" "_law_lone" Rf dV f fd)(b:Bl mg)(c:RfC K mg CG CF):
  aK P w K mg base CX 1 f fd ["_law_kept"] (Hf CG CF):=by
 refine F.ok9 Zz fun cdv A outer s H vs Q E hr h=>?_;obtain⟨a,C,dx,fs,rfl,ea,ed,hC,q⟩:=h;obtain⟨mV,eV⟩:=c.ve;obtain⟨c0,c1,c2,c3,c4,c5,n0,n1,n2,n3,n4,n5,k1'⟩:=c.t1;obtain⟨d0,d1,d2,d3,d4,o0,o1,o2,o3,o4,k2'⟩:=c.t2;have ex:=(c.ex C hC).1;refine⟨_,(aC (cH (PW.pt (iB (eJ (cO (bV jM rfl b.isi PyProof.Rows.boot_isinstance (aA (pv 0) (aA (Ae (v:=.ty "ValueError") rfl mV PyProof.Rows.Boot.«ValueError» rfl) aD))))) (iC (cO (bV sS rfl b.isi PyProof.Rows.boot_isinstance (aA (pv 0) (aA (cU (aA (gS rfl n0) (aA (gS rfl n1) (aA (gS rfl n2) (aA (gS rfl n3) (aA (gS rfl n4) (aA (gS rfl n5) aD))))))) aD))))))) (aF (aV gN)) bM)
  (aF (aV (Rm (bV sS rfl b.isi PyProof.Rows.boot_isinstance (aA (pv 0) (aA (cU (aA (gS rfl o0) (aA (gS rfl o1) (aA (gS rfl o2) (aA (gS rfl o3) (aA (gS rfl o4) aD)))))) aD))))))),?_⟩
 refine⟨_,rfl,a,C,dx,_,_,_,true,rfl,ea,ed,ex,rfl,fun _ h=>h,eV C hC,_,rfl,dC ?_⟩;refine⟨_,rfl,zl9 6,fun p hp=>?_⟩;have s2:=aG hp (.tup [.ref c0,.ref c1,.ref c2,.ref c3,.ref c4,.ref c5]);refine⟨a,C,dx,_,p,[c0,c1,c2,c3,c4,c5],false,rfl,s2 _ _ ea,s2 _ _ ed,ex,aB,k1' C hC,_,rfl,dC ?_⟩;refine⟨_,rfl,zl9 5,fun p' hp'=>?_⟩;have s3:=aG hp' (.tup [.ref d0,.ref d1,.ref d2,.ref d3,.ref d4]);refine⟨a,C,dx,_,p',[d0,d1,d2,d3,d4],false,rfl,s3 _ _ (s2 _ _ ea),s3 _ _ (s2 _ _ ed),ex,aB,k2' C hC,_,rfl,?_⟩;exact q _ (s2.trans s3)
def Eo (CN:Addr)(K:Frag):Sp:=fun vs H Q _=>∃(n l:Addr) (m:Nat) (ds:List RD),vs=[.ref n]/\dE CN K H n l (m:Int) ds/\(∀d∈ds,cX (m:Int) d.2.1 d.2.2.1)/\1<=m/\m<=20/\ds.length<=40/\(∀d∈ds,Low d.2.2.2/\Bd 30 d.2.2.2)/\rgH ds=[]/\iZ m ds≠[]/\(iZ m ds).length<=100/\∀p H',aW H H'->H p=none->H' p=some (.lst ((iZ m ds).map V.int))->Q (.ref p) H'
def mZ (CN:Addr)(K:Frag):Sp:=fun vs H Q _=>∃(n l:Addr) (m:Nat) (ds:List RD) (c:Nat × List Stp) (r:List (Nat × List Stp)),vs=[.ref n]/\dE CN K H n l (m:Int) ds/\(∀d∈ds,cX (m:Int) d.2.1 d.2.2.1)/\1<=m/\m<=20/\ds.length<=40/\(∀d∈ds,Low d.2.2.2/\Bd 30 d.2.2.2)/\rgH ds=c :: r/\Low (tot (c.2.map (dW ds)))/\Bd 1000 (tot (c.2.map (dW ds)))/\
 ∀t g z us H',aW H H'->H g=none->SqT K H' t [.ref g,.ref z]->H' g=some (.lst us)->Sts K H' us c.2->Fq K H' z (tot (c.2.map (dW ds)))->Q (.ref t) H'
theorem Zm:(["_law_one"]:List Str).Nodup:=by decide +kernel
abbrev qd9:Stmt:=top 84
theorem Eb:aQ ["_law_net_here","_law_kept","e","_law_points"] ["_law_net_here"] (aH qd9):=sK9
theorem qb5 (F:aY K "_law_floats" "_law_floats" qd9 dV f fd)(b:Bl mg)(mli:mg "list"=none)(ma:mg "all"=none)(c:RfC K mg CG CF)(ABx:AB K mg CA)(GA:aK P w K mg base (CX1 P w) 8 gA gdA ["self","net"] (pK CN CA CG CF K))(bA:aM K gdA ["self","net"] [])(MA:Mk K CA gA)(G1:D9 P w K mg base 1 g1 gd1 ["_law_kept"] (Hf CG CF) "_law_lone")(G2:D9 P w K mg base 1 g2 gd2 ["_law_found"] Bw "_law_an_int"):
  aK P w K mg base CX 10 f fd ["_law_net_here"] (Eo CN K):=by
 refine F.ok9 Eb fun _ _ _ s H _ Q E hr h=>?_;obtain⟨n,l,m,ds,rfl,nt,pt,mo,m20,h40,hz,rg,fl,hL,q⟩:=h;have r1:=hr.mono (by decide:1<=9);obtain⟨CO,mO,eO⟩:=c.oe;obtain⟨ex,hd⟩:=c.ex CF (by simp);refine⟨_,(aC (aS (i:=1) Eb.nd rfl (Or.inl rfl) mE) (aC (zY ⟨rfl,rfl,rfl⟩ (pJ (pV (Jv MA GA ⟨rfl,rfl,rfl⟩ hr rfl ABx.mA bA .nil (aA (pv 0) aD)))) bM (Xm (j:=2) ⟨rfl,rfl,rfl⟩ Eb.nd rfl rfl rfl (.inl mO) (fun a=>aF (aS (i:=1) Eb.nd rfl (Or.inl rfl) (pv 2))) pU))
  (aC (cH (PW.pt (iB (eJ (cO (d9 G1 r1 rfl (aA (pv 1) aD)))) (iB (eJ (cO (bV jM rfl b.isi PyProof.Rows.boot_isinstance (aA (pv 1) (aA (gS rfl c.mF) aD))))) (iC (cO (bV jM rfl b.isi PyProof.Rows.boot_isinstance (aA (pv 1) (aA (gS rfl c.mG) aD)))))))) (aF (aV mE)) bM)
  (aC (aS (i:=3) Eb.nd rfl (Or.inl rfl) (pD (pv 1) rfl))
  (aC (cH (PW.pt (iB (eJ (cO (hJ (i:=3) rfl (Or.inl rfl) b.isi mli rfl rfl PyProof.Rows.boot_list))) (iC (eJ (cO (bV (vB rfl) rfl ma PyProof.Rows.boot_all (aA (dQ (nl:=1) (fr:=[]) (Nc:=["_law_one"]) (cl:=[]) rfl ⟨rfl,rfl,by decide +kernel,by decide +kernel,fun x c h=>(by cases h),dU rfl,rfl,fun i n h=>(by simp at h)⟩
    (cZ (pv 3)) (fun _ _ _ _ _=>(bH (i:=0) Zm rfl (Or.inl rfl))) (fun _ _ _ _ _=>fL)
    (fun _ _ _ _ _=>(d9 G2 r1 rfl (aA (pv 0) aD)))) aD))))))) (aF (aV mE)) bM)
  (aF (aV (pv 3)))))))),?_⟩
 refine⟨_,rfl,fun x dx0 h1 h2 ne=>⟨x,dx0,n,l,m,ds,rfl,aB,?_⟩⟩;have s1:aW H (upd (upd H dx0 (.own x)) x (.ins CA dx0 [])):=fun b o e=>by rw[aL (aX e h1),aL (aX e h2)];exact e
 generalize upd (upd H dx0 (.own x)) x (.ins CA dx0 [])=H1 at s1 ⊢;refine⟨nt.same s1,pt,mo,m20,h40,hz,⟨fun cc rr e=>absurd (rg.symm.trans e) (by simp),fun _ _ dx p H2 s2 ed np ep=>?_⟩,fun _ e=>absurd e fl⟩;intro a ha;refine⟨true,eO CF (by simp),?_⟩;rw[if_pos rfl];refine⟨_,rfl,?_⟩;have sa:=aG ha (lM a (.ref CF) (some dx));have ea:upd H2 a (lM a (.ref CF) (some dx)) a=some (lM a (.ref CF) (some dx)):=aB;generalize upd H2 a (lM a (.ref CF) (some dx))=H3 at sa ea ⊢;have ed3:=sa _ _ ed;refine⟨_,rfl,a,CF,dx,_,rfl,ea,ed3,by simp,fun H4 s4=>⟨_,rfl,dC ?_⟩⟩;have ea4:=s4 _ _ ea;have ed4:=s4 _ _ ed3;refine⟨_,rfl,a,CF,dx,_,_,_,true,rfl,ea4,ed4,ex,rfl,fun _ h=>h,mM K (.ref CF),_,rfl,dC ?_⟩;refine⟨_,rfl,a,CF,dx,_,_,_,false,rfl,ea4,ed4,ex,rfl,fun _ h=>h,c.gf.2,_,rfl,dC ?_⟩;have s14:=(s1.trans s2).trans (sa.trans s4);have ep4:=s4 _ _ (sa _ _ ep);generalize iZ m ds=ps at hL q ep4;have np0:H p=none:=s1.free np;have hS:=SqL.of (K:=K) ep4;refine⟨_,rfl,a,CF,dx,_,.ref p,rfl,ea4,ed4,ex,hd,c.no.1,rfl,?_⟩;refine⟨_,_,true,rfl,.lst hS,rfl,_,rfl,dC ?_⟩;refine⟨_,rfl,p,rfl,⟨_,hS⟩,fun D hD=>?_⟩;have sD:=aG hD (.lst []);refine fC (xs:=ps.map V.int) (fun i zs H'=>aW H4 H'/\H' D=some (.lst zs)/\zs=(replicate i true).map V.bl) ⟨sD,aB,rfl⟩ (fun i zs H' h=>h.2.1) (fun i zs H' _ h=>h.1.seq hS) ?_ ?_
 ·rintro i zs x H1 hx ⟨s1,e1,rfl⟩ C hC;rw[getElem?_map] at hx;obtain⟨w,hw,rfl⟩:=Option.map_eq_some_iff.mp hx;have hi:i < ps.length:=(List.getElem?_eq_some_iff.mp hw).1;refine⟨dS.1,dS.2,fH ?_⟩;refine⟨_,rfl,w,rfl,?_⟩;refine⟨e1,aZ (by rw[length_map,length_replicate];lia),hC _ _ ⟨s1.change hD,aB,?_⟩⟩;rw[replicate_succ',map_append];rfl
 ·rintro zs H5 ⟨s5,e5,rfl⟩;refine⟨D,_,rfl,SqL.of e5,?_⟩;rw[show (replicate (ps.map V.int).length true).all id=true by simp];exact⟨_,rfl,dC ⟨_,rfl,q p H5 (s14.trans s5) np0 (s5 _ _ ep4)⟩⟩
abbrev qa8:Stmt:=top 89
theorem Kr:aQ ["_law_net_here","_law_kept","e"] ["_law_net_here"] (aH qa8):=sK9
theorem Zw (F:aY K "_law_ring_told" "_law_ring_told" qa8 dV f fd)(b:Bl mg)(mli:mg "list"=none)(c:RfC K mg CG CF)(ABx:AB K mg CA)(GA:aK P w K mg base (CX1 P w) 8 gA gdA ["self","net"] (pK CN CA CG CF K))(bA:aM K gdA ["self","net"] [])(MA:Mk K CA gA)(G1:D9 P w K mg base 1 g1 gd1 ["_law_kept"] (Hf CG CF) "_law_lone")(G2:D9 P w K mg base 4 g2 gd2 ["_law_found"] (Vq K) "_law_is"):
  aK P w K mg base CX 10 f fd ["_law_net_here"] (mZ CN K):=by
 refine F.ok9 Kr fun cdv A outer s H vs Q E hr h=>?_;obtain⟨n,l,m,ds,cc,rr,rfl,nt,pt,mo,m20,h40,hz,rg,hLo,hBd,q⟩:=h;have r1:=hr.mono (by decide:1<=9);have r4:=hr.mono (by decide:4<=9);obtain⟨CO,mO,eO⟩:=c.oe;obtain⟨ex,hd⟩:=c.ex CG (by simp);refine⟨_,(aC (aS (i:=1) Kr.nd rfl (Or.inl rfl) mE) (aC (zY ⟨rfl,rfl,rfl⟩ (pJ (pV (Jv MA GA ⟨rfl,rfl,rfl⟩ hr rfl ABx.mA bA .nil (aA (pv 0) aD)))) bM (Xm (j:=2) ⟨rfl,rfl,rfl⟩ Kr.nd rfl rfl rfl (.inl mO) (fun a=>aF (aS (i:=1) Kr.nd rfl (Or.inl rfl) (pv 2))) pU))
  (aC (cH (PW.pt (iB (eJ (cO (d9 G1 r1 rfl (aA (pv 1) aD)))) (iB (eJ (cO (bV jM rfl b.isi PyProof.Rows.boot_isinstance (aA (pv 1) (aA (gS rfl c.mG) aD))))) (iC (cO (bV jM rfl b.isi PyProof.Rows.boot_isinstance (aA (pv 1) (aA (gS rfl c.mF) aD)))))))) (aF (aV mE)) bM)
  (aC (cH (PW.pt (iB (eJ (cO (d9 G2 r4 rfl (aA (pD (pv 1) rfl) aD)))) (iC (eJ (cO (bV yM rfl b.isi PyProof.Rows.boot_isinstance (aA (pD (pv 1) rfl) (aA (Ae (v:=.ty "list") rfl mli PyProof.Rows.boot_list rfl) aD)))))))) (aF (aV mE)) bM)
  (aF (aV (cU (aA (pD (pv 1) rfl) (aA (pD (pv 1) rfl) aD))))))))),?_⟩
 refine⟨_,rfl,fun x dx0 h1 h2 ne=>⟨x,dx0,n,l,m,ds,rfl,aB,?_⟩⟩;have s1:aW H (upd (upd H dx0 (.own x)) x (.ins CA dx0 [])):=fun b o e=>by rw[aL (aX e h1),aL (aX e h2)];exact e
 generalize upd (upd H dx0 (.own x)) x (.ins CA dx0 [])=H1 at s1 ⊢;refine⟨nt.same s1,pt,mo,m20,h40,hz,⟨fun cc' rr' e dx g z us H2 s2 ed ng eg St Fz=>?_,fun e=>absurd (rg.symm.trans e) (by simp)⟩,fun e=>absurd (rg.symm.trans e) (by simp)⟩;obtain rfl:cc=cc':=by rw[rg] at e;exact(List.cons.inj e).1
 intro a ha;refine⟨true,eO CG (by simp),?_⟩;rw[if_pos rfl];refine⟨_,rfl,?_⟩;have sa:=aG ha (lM a (.ref CG) (some dx));have ea:upd H2 a (lM a (.ref CG) (some dx)) a=some (lM a (.ref CG) (some dx)):=aB;generalize upd H2 a (lM a (.ref CG) (some dx))=H3 at sa ea ⊢;have ed3:=sa _ _ ed;refine⟨_,rfl,a,CG,dx,_,rfl,ea,ed3,by simp,fun H4 s4=>⟨_,rfl,dC ?_⟩⟩;have ea4:=s4 _ _ ea;have ed4:=s4 _ _ ed3;refine⟨_,rfl,a,CG,dx,_,_,_,true,rfl,ea4,ed4,ex,rfl,fun _ h=>h,mM K (.ref CG),_,rfl,dC ?_⟩;refine⟨_,rfl,a,CG,dx,_,_,_,false,rfl,ea4,ed4,ex,rfl,fun _ h=>h,c.gf.1,_,rfl,dC ?_⟩;have s14:=(s1.trans s2).trans (sa.trans s4);have eg4:=s4 _ _ (sa _ _ eg);have St4:=St.same (sa.trans s4);have Fz4:=(sa.trans s4).fq Fz;have ng0:H g=none:=s1.free ng;refine⟨_,rfl,a,CG,dx,_,.ref z,rfl,ea4,ed4,ex,hd,c.no.2.2,rfl,z,_,rfl,Fz4,hLo,_,rfl,dC ?_⟩;refine⟨_,rfl,a,CG,dx,_,.ref g,rfl,ea4,ed4,ex,hd,c.no.2.1,rfl,_,_,_,true,rfl,.lst (SqL.of eg4),rfl,_,rfl,dC ?_⟩;refine⟨_,rfl,a,CG,dx,_,.ref g,rfl,ea4,ed4,ex,hd,c.no.2.1,rfl,_,rfl,a,CG,dx,_,.ref z,rfl,ea4,ed4,ex,hd,c.no.2.2,rfl,zl9 2,fun t ht=>?_⟩;have s5:=aG ht (.tup [.ref g,.ref z]);exact q t g z us _ (s14.trans s5) ng0 (SqT.of aB) (s5 _ _ eg4) (St4.same s5) (s5.fq Fz4)
structure TRw (k:Nat) (d:RD):Prop where
 np:d.1≠.pu
 en:∃o:Nat,o < k/\((d.2.1=(k:Int)/\d.2.2.1=(o:Int))\/(d.2.1=(o:Int)/\d.2.2.1=(k:Int)))
 ps:d.1=.pc->Ps d.2.2.2
 lo:Low d.2.2.2
 bd:Bd 4 d.2.2.2
def Sr (K:Frag):Sp:=fun vs H Q _=>∃(a:Addr) (ns:List Int) (k:Nat),vs=[.ref a,.int (k:Int)]/\SqL K H a (ns.map V.int)/\ns.length<=63/\1<=k/\k<=20/\
 ∀t z d H',aW H H'->SqT K H' t [.str (Kd.wd d.1),.int d.2.1,.int d.2.2.1,.ref z]->Fq K H' z d.2.2.2->TRw k d->Q (.ref t) H'
abbrev Oc:Stmt:=top 86
theorem Aw:aQ ["_law_script","_law_point","_law_cell","_law_other","_law_ends"] ["_law_script","_law_point"] (aH Oc):=sK9
theorem Vh (F:aY K "_law_tree_row" "_law_tree_row" Oc dV f fd)(G1:D9 P w K mg base 1 g1 gd1 ["_law_script","_law_k"] (wW K) "_law_nth")(G2:D9 P w K mg base 3 g2 gd2 ["_law_cell","_law_far"] pF "_law_amount")(G3:D9 P w K mg base 3 g3 gd3 ["_law_cell","_law_far"] Rh "_law_size"):
  aK P w K mg base CX 4 f fd ["_law_script","_law_point"] (Sr K):=by
 refine F.ok9 Aw fun cdv A outer s H vs Q E hr h=>?_;obtain⟨a,ns,k,rfl,hS,h63,kk1,k20,q⟩:=h;have r1:=hr.mono (by decide:1<=3);refine⟨_,(aC (aS (i:=2) Aw.nd rfl (Or.inl rfl) (d9 G1 r1 rfl (aA (pv 0) (aA (aP dL aE (pv 1)) aD))))
  (aC (aS (i:=3) Aw.nd rfl (Or.inl rfl) (aP kW (aP cT (aP hG (pv 2) aE) aE) (pv 1)))
  (aC (aS (i:=4) Aw.nd rfl (Or.inl rfl) (aU bU (dG (aA (cU (aA (pv 1) (aA (pv 3) aD))) (aA (cU (aA (pv 3) (aA (pv 1) aD))) aD))) (aP cT (pv 2) aE) (fun _ _=>rfl)))
  (aC (cH (bK fZ (aP cT (aP zT (pv 2) aE) aE) aE (bO _)) (aF (aV (aP nU (aP nU (cU (aA dD aD)) (pv 4)) (cU (aA (d9 G2 hr rfl (aA (pv 2) (aA gN aD))) aD))))) bM)
  (aF (aV (aP nU (aP nU (cU (aA dD aD)) (pv 4)) (cU (aA (d9 G3 hr rfl (aA (pv 2) (aA gN aD))) aD))))))))),?_⟩
 refine⟨_,rfl,_,rfl,_,_,rfl,rfl,a,ns,_,2+k,rfl,by lia,hS,h63,by lia,fun H1 s1=>?_⟩;generalize Be ns (2+k)=c;refine⟨_,rfl,_,_,rfl,rfl,Or.inr ⟨by decide,by decide⟩,_,_,rfl,rfl,(by decide:(0:Int) < 10037),_,rfl,_,_,rfl,rfl,(by lia:(k:Int)≠0),?_⟩;obtain⟨pr,pl,pe⟩:∃pr:Nat,pr < k/\Int.fmod (c*40692 % 10037) (k:Int)=(pr:Int):=by
  have a:=Int.fmod_nonneg_of_pos (a:=c*40692 % 10037) (by lia:0 < (k:Int));have b:=Int.fmod_lt_of_pos (c*40692 % 10037) (by lia:0 < (k:Int));exact⟨(Int.fmod (c*40692 % 10037) (k:Int)).toNat,by lia,by lia⟩
 show gJ _ _ _ [some (.ref a),some (.int (k:Int)),some (.int c),some (.int (Int.fmod (c*40692 % 10037) (k:Int))),none] H1;rw[pe];have c2:=Int.emod_nonneg c (by decide:(2:Int)≠0);have c3:=Int.emod_lt_of_pos c (by decide:(0:Int) < 2);refine⟨_,rfl,_,rfl,zl9 2,fun t1 ht1=>?_⟩;have s2:=aG ht1 (.tup [.int (k:Int),.int (pr:Int)]);have e2:upd H1 t1 (.tup [.int (k:Int),.int (pr:Int)]) t1=some (.tup [.int (k:Int),.int (pr:Int)]):=aB;generalize upd H1 t1 (.tup [.int (k:Int),.int (pr:Int)])=H2 at s2 e2 ⊢;refine⟨_,rfl,_,rfl,zl9 2,fun t2 ht2=>?_⟩;have s3:=aG ht2 (.tup [.int (pr:Int),.int (k:Int)]);have e3:upd H2 t2 (.tup [.int (pr:Int),.int (k:Int)]) t2=some (.tup [.int (pr:Int),.int (k:Int)]):=aB;generalize upd H2 t2 (.tup [.int (pr:Int),.int (k:Int)])=H3 at s3 e3 ⊢;refine⟨zl9 2,fun L hL=>?_⟩;have s4:=aG hL (.lst [.ref t1,.ref t2]);have e4:upd H3 L (.lst [.ref t1,.ref t2]) L=some (.lst [.ref t1,.ref t2]):=aB;generalize upd H3 L (.lst [.ref t1,.ref t2])=H4 at s4 e4 ⊢;have e24:=(s3.trans s4) _ _ e2;have e34:=s4 _ _ e3;obtain⟨tt,i,j,ett,ht,hij⟩:∃(tt:Addr) (i j:Int),atI [V.ref t1,.ref t2] (c % 2)=some (.ref tt)/\H4 tt=some (.tup [.int i,.int j])/\((i=(k:Int)/\j=(pr:Int))\/(i=(pr:Int)/\j=(k:Int))):=by
  have:c % 2=0\/c % 2=1:=by lia
  rcases this with z | z
  ·rw[z];exact⟨t1,_,_,rfl,e24,.inl ⟨rfl,rfl⟩⟩
  ·rw[z];exact⟨t2,_,_,rfl,e34,.inr ⟨rfl,rfl⟩⟩
 refine⟨_,rfl,_,_,rfl,rfl,(by decide:(0:Int) < 2),L,_,_,_,rfl,rfl,SqL.of e4,ett,?_⟩;have s04:=s1.trans (s2.trans (s3.trans s4));refine⟨_,rfl,_,_,rfl,rfl,⟨by decide,by decide⟩,_,_,rfl,rfl,(by decide:(0:Int) < 4),rfl,_,rfl,qK (fun _=>?_) (fun _=>?_)⟩
 ·refine⟨zl9 1,fun A1 hA1=>?_⟩;have s5:=aG hA1 (.tup [.str "hold"]);have e5:upd H4 A1 (.tup [.str "hold"]) A1=some (.tup [.str "hold"]):=aB;generalize upd H4 A1 (.tup [.str "hold"])=H5 at s5 e5 ⊢;have ht5:=s5 _ _ ht;refine⟨_,rfl,A1,tt,_,_,rfl,rfl,SqT.of e5,SqT.of ht5,(by simp),(zl9 3),(fun z=>by cases z),fun _ A2 hA2=>?_⟩;have s6:=aG hA2 (.tup ([.str "hold"]++[.int i,.int j]));have e6:upd H5 A2 (.tup ([.str "hold"]++[.int i,.int j])) A2=some (.tup ([.str "hold"]++[.int i,.int j])):=aB;generalize upd H5 A2 (.tup ([.str "hold"]++[.int i,.int j]))=H6 at s6 e6 ⊢;have s06:=s04.trans (s5.trans s6);refine⟨_,rfl,c,false,rfl,fun p hp bp f0 H7 s7 e7=>?_⟩;have f7:Fq K H7 f0 p:=Fq.of e7;refine⟨zl9 1,fun A3 hA3=>?_⟩;have s8:=aG hA3 (.tup [.ref f0]);have e8:upd H7 A3 (.tup [.ref f0]) A3=some (.tup [.ref f0]):=aB;generalize upd H7 A3 (.tup [.ref f0])=H8 at s8 e8 ⊢;refine⟨A2,A3,_,_,rfl,rfl,SqT.of ((s7.trans s8) _ _ e6),SqT.of e8,(by simp),(zl9 4),(fun z=>by cases z),fun _ A4 hA4=>?_⟩;have s9:=aG hA4 (.tup ([.str "hold"]++[.int i,.int j]++[.ref f0]));have e9:upd H8 A4 (.tup ([.str "hold"]++[.int i,.int j]++[.ref f0])) A4=some (.tup ([.str "hold"]++[.int i,.int j]++[.ref f0])):=aB;exact q A4 f0 (.ho,i,j,p) _ (s06.trans (s7.trans (s8.trans s9))) (SqT.of e9) (s9.fq (s8.fq f7)) ⟨(fun z=>by cases z),⟨pr,pl,hij⟩,(fun z=>by cases z),hp,bp⟩
 ·refine⟨zl9 1,fun A1 hA1=>?_⟩;have s5:=aG hA1 (.tup [.str "piece"]);have e5:upd H4 A1 (.tup [.str "piece"]) A1=some (.tup [.str "piece"]):=aB;generalize upd H4 A1 (.tup [.str "piece"])=H5 at s5 e5 ⊢;have ht5:=s5 _ _ ht;refine⟨_,rfl,A1,tt,_,_,rfl,rfl,SqT.of e5,SqT.of ht5,(by simp),(zl9 3),(fun z=>by cases z),fun _ A2 hA2=>?_⟩;have s6:=aG hA2 (.tup ([.str "piece"]++[.int i,.int j]));have e6:upd H5 A2 (.tup ([.str "piece"]++[.int i,.int j])) A2=some (.tup ([.str "piece"]++[.int i,.int j])):=aB;generalize upd H5 A2 (.tup ([.str "piece"]++[.int i,.int j]))=H6 at s6 e6 ⊢;have s06:=s04.trans (s5.trans s6);refine⟨_,rfl,c,false,rfl,fun p hp bp f0 H7 s7 e7=>?_⟩;have f7:Fq K H7 f0 p:=Fq.of e7;refine⟨zl9 1,fun A3 hA3=>?_⟩;have s8:=aG hA3 (.tup [.ref f0]);have e8:upd H7 A3 (.tup [.ref f0]) A3=some (.tup [.ref f0]):=aB;generalize upd H7 A3 (.tup [.ref f0])=H8 at s8 e8 ⊢;refine⟨A2,A3,_,_,rfl,rfl,SqT.of ((s7.trans s8) _ _ e6),SqT.of e8,(by simp),(zl9 4),(fun z=>by cases z),fun _ A4 hA4=>?_⟩;have s9:=aG hA4 (.tup ([.str "piece"]++[.int i,.int j]++[.ref f0]));have e9:upd H8 A4 (.tup ([.str "piece"]++[.int i,.int j]++[.ref f0])) A4=some (.tup ([.str "piece"]++[.int i,.int j]++[.ref f0])):=aB;exact q A4 f0 (.pc,i,j,p) _ (s06.trans (s7.trans (s8.trans s9))) (SqT.of e9) (s9.fq (s8.fq f7)) ⟨(fun z=>by cases z),⟨pr,pl,hij⟩,fun _=>hp,hp.low,bp⟩
def Ow (CA:Addr)(K:Frag):Sp:=fun vs H Q _=>∃(a:Addr) (lv fl:List Q2),vs=[.ref a,.int (lv.length:Int)]/\vU CA K H a lv fl/\1<=lv.length/\lv.length<=20/\∀H',aW H H'->Q (.bl true) H'
theorem Uv {xs:List V}(h:k < xs.length):∃w∈xs,atI xs (k:Int)=some w:=⟨xs[k],getElem_mem h,bY (getElem?_eq_getElem h)⟩
abbrev Sq:Stmt:=top 87
theorem rT:aQ ["_law_answer","_law_many","_law_wrong","_law_k","_law_refused"] ["_law_answer","_law_many"] (aH Sq):=sK9
theorem Tt (F:aY K "_law_no_point" "_law_no_point" Sq dV f fd)(mr:mg "range"=none)(ml:mg "len"=none)(ABx:AB K mg CA)(mP:mI9 mg "NoPoint" CP)(eP:W.exmOne K (.ref CP) (.ref CP)=some true)(GFl:aK P w K mg base (CX1 P w) 4 gFl gdFl ["self","a","b"] (Cv CA CP K))(bFl:aM K gdFl ["self","a","b"] [])(mFl:gQ K CA "fall" gFl):
  aK P w K mg base CX 5 f fd ["_law_answer","_law_many"] (Ow CA K):=by
 refine F.ok9 rT fun cdv A outer s H vs Q E hr h=>?_;obtain⟨a,lv,fl,rfl,an,lo,hi,q⟩:=h;refine⟨_,(aC (aS (i:=2) rT.nd rfl (Or.inl rfl) (dG (aA (pv 1) (aA (wH oN aE) (aA gN (aA mE (aA (cU (aA aE (aA aE aD))) aD)))))))
  (aC (fK PassesOwn.never rfl (fR rfl mr (aA (bV cJ rfl ml PySem.boot_len (aA (pv 2) aD)) aD)) (bH (i:=3) rT.nd rfl (Or.inl rfl))
   (aC (aS (i:=4) rT.nd rfl (Or.inl rfl) aE)
   (aC (zY ⟨rfl,rfl,rfl⟩ (pJ (pV (Ib (pv 0) ABx.cl mFl GFl ⟨rfl,rfl,rfl⟩ hr bFl .nil (aA (aU bU (pv 2) (pv 3) (fun _ _=>rfl)) (aA aE aD))))) bM (Kj rfl (.inl mP) (fun a=>aF (aS (i:=4) rT.nd rfl (Or.inl rfl) aE)) pU))
   (aC (zY ⟨rfl,rfl,rfl⟩ (pJ (pV (Ib (pv 0) ABx.cl mFl GFl ⟨rfl,rfl,rfl⟩ hr bFl .nil (aA aE (aA (aU bU (pv 2) (pv 3) (fun _ _=>rfl)) aD))))) bM (Kj rfl (.inl mP) (fun a=>aF (aS (i:=4) rT.nd rfl (Or.inl rfl) (aP dL (pv 4) aE))) pU))
   (aF (cH (bK sZ (pv 4) aE (bO _)) (aF (aV gN)) bM))))))
  (aF (aV gN)))),?_⟩
 refine⟨_,rfl,1,rfl,zl9 2,fun p hp=>?_⟩;have s1:=aG hp (.tup [.int 0,.int 1]);have e1:upd H p (.tup [.int 0,.int 1]) p=some (.tup [.int 0,.int 1]):=aB;generalize upd H p (.tup [.int 0,.int 1])=H1 at s1 e1 ⊢;refine⟨zl9 5,fun L hL=>?_⟩;have s2:=aG hL (.lst [.int (lv.length:Int),.int (-1),.bl true,.non,.ref p]);have eL:upd H1 L (.lst [.int (lv.length:Int),.int (-1),.bl true,.non,.ref p]) L=some (.lst [.int (lv.length:Int),.int (-1),.bl true,.non,.ref p]):=aB;generalize upd H1 L (.lst [.int (lv.length:Int),.int (-1),.bl true,.non,.ref p])=H2 at s2 eL ⊢;have bad:∀w∈[V.int (lv.length:Int),.int (-1),.bl true,.non,.ref p],Ev K H2 w/\pN (lv.length:Int) w=false:=fun w hw=>by
  simp only[mem_cons,not_mem_nil,or_false] at hw;rcases hw with rfl | rfl | rfl | rfl | rfl
  ·exact⟨.inl ⟨_,rfl⟩,decide_eq_false (by lia)⟩
  ·exact⟨.inl ⟨_,rfl⟩,by show decide ((0:Int)<=-1/\(-1:Int) < (lv.length:Int))=false;exact decide_eq_false (by lia)⟩
  ·exact⟨.inr ⟨_,.bl _,by simp[jI]⟩,rfl⟩
  ·exact⟨.inr ⟨_,.non,by simp[jI]⟩,rfl⟩
  ·exact⟨.inr ⟨_,.tup (s2 _ _ e1),by simp[jI]⟩,rfl⟩
 have an2:=an.same (s1.trans s2);obtain⟨ws,ew,wl⟩:∃ws,ws=[V.int (lv.length:Int),.int (-1),.bl true,.non,.ref p]/\ws.length=5:=⟨_,rfl,rfl⟩
 rw[<- ew] at eL bad;refine⟨_,rfl,L,ws,rfl,.inl (SqL.of eL),?_⟩;rw[wl];refine⟨_,rfl,by decide,by decide,?_⟩;refine iD (lo:=0) (n:=5) (fun i σ H'=>aW H2 H'/\∃z3 z4:Option V,σ=[some (.ref a),some (.int (lv.length:Int)),some (.ref L),z3,z4]) ⟨aW.refl _,none,none,rfl⟩ ?_ ?_
 ·rintro i σ H3 hi5 ⟨s3,z3,z4,rfl⟩;obtain⟨w,hw,ea⟩:=Uv (xs:=ws) (k:=i) (by lia);obtain⟨wA,wP⟩:=bad w hw;have an3:=an2.same s3;obtain⟨⟨dx,li,le,fo,xs,ys,ha,_⟩⟩:=id an3;rw[show (0:Int)+(i:Int)=(i:Int) by lia];refine⟨_,rfl,a,_,_,rfl,ha,wC _ _ _ (by decide +kernel) (by decide +kernel) (by decide +kernel),_,rfl,_,rfl,L,_,_,_,rfl,rfl,SqL.of (s3 _ _ eL),ea,?_⟩;refine⟨a,lv,fl,w,.int 0,rfl,an3,hi,wA.same s3,.inl ⟨_,rfl⟩,by rw[wP];rfl,fun H4 s4 _ _=>?_⟩;refine⟨true,eP,?_⟩;rw[if_pos rfl];have an4:=an3.same s4;have ha4:=s4 _ _ ha;refine⟨_,rfl,a,_,_,rfl,ha4,wC _ _ _ (by decide +kernel) (by decide +kernel) (by decide +kernel),_,rfl,_,rfl,L,_,_,_,rfl,rfl,SqL.of ((s3.trans s4) _ _ eL),ea,?_⟩;refine⟨a,lv,fl,.int 0,w,rfl,an4,hi,.inl ⟨_,rfl⟩,(wA.same s3).same s4,by rw[wP,Bool.and_false],fun H5 s5 _ _=>?_⟩;refine⟨true,eP,?_⟩;rw[if_pos rfl];exact⟨_,rfl,_,_,rfl,rfl,_,rfl,rfl,_,rfl,dC ⟨s3.trans (s4.trans s5),_,_,rfl⟩⟩
 ·rintro σ H3 ⟨s3,z3,z4,rfl⟩;exact q _ (s1.trans (s2.trans s3))
def hgF (J:Nat->Option Nat):Nat->List Nat
 |0=>[0]
 |i+1=>if ((J (i+1)).any fun q=>decide (q∈hgF J i))=true then hgF J i++[i+1] else hgF J i
def Bq (J:Nat->Option Nat)(m:Nat):List Int:=((List.range m).filter fun p=>decide (p∉hgF J (m - 1))).map fun (p:Nat)=>(p:Int)
def DJ (kvs:List (Key × V))(J:Nat->Option Nat):Prop:=∀p:Nat,iM kvs (.inl (p:Int))=(J p).map fun (q:Nat)=>V.int (q:Int)
def Yb:Sp:=fun vs H Q _=>∃(m:Nat) (d:Addr) (kvs:List (Key × V)) (J:Nat->Option Nat),vs=[.int (m:Int),.ref d]/\H d=some (.dK kvs)/\DJ kvs J/\1<=m/\m<=20/\∀l H',aW H H'->H l=none->H' l=some (.lst ((Bq J m).map V.int))->Q (.ref l) H'
theorem Tf (J:Nat->Option Nat):∀i,(hgF J i).length<=i+1
 |0=>by show 1<=0+1;decide
 |i+1=>by
  have:=Tf J i;unfold hgF;split
  ·rw[List.length_append];show _+1<=_;lia
  ·lia
abbrev nI (ns:List Nat):List V:=ns.map fun (p:Nat)=>V.int (p:Int)
theorem tU (ns:List Nat):(nI ns).all mC=true:=by
 rw[all_eq_true];intro x hx;obtain⟨p,_,rfl⟩:=mem_map.mp hx;rfl
theorem Ea (p:Nat):∀ns:List Nat,inV (.int (p:Int)) (nI ns)=decide (p∈ns)
 | []=>by simp[inV]
 |q :: r=>by
  show (eqV (.int (q:Int)) (.int (p:Int)) || inV (.int (p:Int)) (nI r))=_;rw[Ea p r];show (((q:Int) == (p:Int)) || decide (p∈r))=_
  by_cases e:q=p
  ·subst e;simp
  ·have n:¬p=q:=fun z=>e z.symm;have n2:¬(q:Int)=(p:Int):=by lia
   simp[n,n2]
theorem nQ (J:Nat->Option Nat):∀i p,p∈hgF J i->p<=i
 |0,p,h=>by rw[show hgF J 0=[0] from rfl] at h;rw[mem_singleton.mp h];decide
 |i+1,p,h=>by
  unfold hgF at h;split at h
  ·rcases mem_append.mp h with z | z
   ·have:=nQ J i p z;lia
   ·rw[mem_singleton.mp z];lia
  ·have:=nQ J i p h;lia
def vC (J:Nat->Option Nat)(m n:Nat):List Nat:=(List.range n).filter fun p=>decide (p∉hgF J (m - 1))
theorem Ue (h:n∈hgF J (m - 1)):vC J m (n+1)=vC J m n:=by
 unfold vC;rw[range_succ,filter_append];simp[h]
theorem Pm (h:n∉hgF J (m - 1)):vC J m (n+1)=vC J m n++[n]:=by
 unfold vC;rw[range_succ,filter_append];simp[h]
theorem Ry:(vC J m n).length<=n:=by
 unfold vC;have:=length_filter_le (fun p=>decide (p∉hgF J (m - 1))) (List.range n);rw[length_range] at this;exact this
theorem Yl (J:Nat->Option Nat)(m:Nat):(Bq J m).map V.int=nI (vC J m m):=by
 unfold Bq vC nI;rw[map_map];rfl
theorem uO:(["_law_point","_law_hangs"]:List Str).Nodup:=by decide +kernel
theorem oE (h:X.K=K):OpR X (compareOp .NotIn) (rIn K true):=by subst h;exact qM
abbrev Zb:Stmt:=top 85
theorem Pc:aQ ["_law_many","_law_joined_here","_law_hangs","_law_point"] ["_law_many","_law_joined_here"] (aH Zb):=sK9
theorem qd2 (F:aY K "_law_due" "_law_due" Zb dV f fd)(mr:mg "range"=none):
  aK P w K mg base CX 1 f fd ["_law_many","_law_joined_here"] Yb:=by
 refine F.ok9 Pc fun _ _ _ s H _ Q E hr h=>?_;obtain⟨m,d,kvs,J,rfl,hd,dj,m1,m20,q⟩:=h;refine⟨_,(aC (aS (i:=2) Pc.nd rfl (Or.inr rfl) (dG (aA aE aD)))
  (aC (fK PassesOwn.never rfl (rP rfl mr (aA aE (aA (pv 0) aD))) (bH (i:=3) Pc.nd rfl (Or.inl rfl))
   (aF (cH (PW.pt (rC (sM (Zx (pH hr) (pv 3) (pv 1))) (nY (bK yW (qA (pH hr) (pv 1) (pv 3) (fun _ _=>rfl)) (pv 2) rfl)))) (aF (bX (jW PySem.F.plainAttrs_list PySem.F.slot_list_append PySem.F.type_list_append dF (pv 2) (aA (pv 3) aD)))) bM)))
  (aF (aV (dQ (nl:=1) (fr:=[2]) (Nc:=["_law_point","_law_hangs"]) (cl:=[("_law_hangs",s.heap.objs.size+1)]) rfl ⟨rfl,rfl,by decide +kernel,by decide +kernel,fun x c h=>h,dU rfl,rfl,fun i n h=>match i,h with | 0,h=>by cases h;exact⟨2,rfl,rfl,rfl,rfl,.inl rfl⟩ | k+1,h=>by rw[show 1+(k+1)=k+2 by lia] at h;cases h⟩
    (fR rfl mr (aA (pv 0) aD)) (fun _ _ _ _ _=>(bH (i:=0) uO rfl (Or.inl rfl))) (fun _ _ _ _ _=>(kX (bK (oE (K:=K) rfl) (pv 0) (pv 1) rfl)))
    (fun _ _ _ _ _=>(pv 0))))))),?_⟩
 refine⟨zl9 1,fun L hL=>?_⟩;have s1:=aG hL (.lst [.int 0]);have e1:upd H L (.lst [.int 0]) L=some (.lst [.int 0]):=aB;generalize upd H L (.lst [.int 0])=H1 at s1 e1 ⊢;refine⟨_,rfl,1,(m:Int),rfl,⟨by decide,by decide,by lia,by lia⟩,?_⟩;rw[show ((m:Int) - 1).toNat=m - 1 by lia];refine iD (lo:=1) (n:=m - 1) (fun i σ H'=>aW H H'/\H' L=some (.lst (nI (hgF J i)))/\∃z,σ=[some (.int (m:Int)),some (.ref d),some (.ref L),z]) ⟨s1,e1,none,rfl⟩ ?_ ?_
 ·rintro i σ H2 hi ⟨s2,e2,z,rfl⟩;rw[show (1:Int)+(i:Int)=((i+1:Nat):Int) by lia];have hl:=Tf J i;have hd2:=s2 _ _ hd;have dj1:=dj (i+1);have step:hgF J (i+1)=if ((J (i+1)).any fun q=>decide (q∈hgF J i))=true then hgF J i++[i+1] else hgF J i:=rfl
  cases hj:J (i+1) with
  |none=>
   rw[hj] at dj1 step;refine⟨_,rfl,_,rfl,d,none,rfl,by rw[<- show iM kvs (.inl ((i+1:Nat):Int))=none from dj1];exact iR.k (k:=.inl ((i+1:Nat):Int)) hd2,_,rfl,dC ⟨s2,by rw[step];exact e2,_,rfl⟩⟩
  |some q0=>
   rw[hj] at dj1 step;have dg:iR H2 d (.int ((i+1:Nat):Int)) (some (.int (q0:Int))):=by rw[<- show iM kvs (.inl ((i+1:Nat):Int))=some (.int (q0:Int)) from dj1];exact iR.k (k:=.inl ((i+1:Nat):Int)) hd2
   refine⟨_,rfl,_,rfl,d,_,rfl,dg,_,rfl,fH ⟨_,rfl,_,rfl,d,_,rfl,dg,_,rfl,L,_,rfl,.inl (SqL.of e2),rfl,tU _,?_⟩⟩;rw[Ea];refine⟨_,rfl,?_⟩
   by_cases c:q0∈hgF J i
   ·refine L2.ifT (by simp[c]) ?_;refine⟨_,rfl,.inl ⟨rfl,_,SqL.of e2⟩,_,rfl,L,_,_,rfl,rfl,e2,aZ (by rw[length_map];lia),?_⟩;have nL:∀b o,H b=some o->b≠L:=fun b o e=>aX e hL;refine⟨fun b o e=>by rw[aL (nL b o e)];exact s2 b o e,?_,_,rfl⟩;rw[aB,step,if_pos (by simp[c])];unfold nI;rw[map_append];rfl
   ·refine L2.ifF (by simp[c]) ⟨s2,?_,_,rfl⟩;rw[step,if_neg (by simp[c])];exact e2
 ·rintro σ H2 ⟨s2,e2,z,rfl⟩;refine⟨_,rfl,(m:Int),rfl,by lia,by lia,fun D hD=>?_⟩;have sD:=aG hD (.lst []);rw[show (m:Int).toNat=m by lia];have nL:D≠L:=fun z=>by rw[z,e2] at hD;cases hD
  refine iH (n:=m) (fun i zs H'=>aW H2 H'/\H' D=some (.lst zs)/\zs=nI (vC J m i)) ⟨sD,aB,rfl⟩ (fun i zs H' h=>h.2.1) ?_ ?_
  ·rintro i zs HA hi ⟨sA,eA,ez⟩ C hC;have lz:zs.length<=20:=by rw[ez,length_map];have:=Ry (J:=J) (m:=m) (n:=i);lia
   rw[Int.zero_add];refine⟨dS.1,dS.2,_,rfl,_,rfl,L,_,rfl,.inl (SqL.of (sA _ _ e2)),rfl,tU _,?_⟩;rw[Ea];refine⟨_,rfl,?_⟩
   by_cases c:i∈hgF J (m - 1)
   ·refine L2.ifF (by simp[c]) ?_;exact hC _ _ ⟨sA,eA,by rw[ez,Ue c]⟩
   ·refine L2.ifT (by simp[c]) ?_;refine⟨_,rfl,eA,aZ (by lia),hC _ _ ⟨sA.change hD,aB,?_⟩⟩;rw[ez,Pm c];unfold nI;rw[map_append];rfl
  rintro zs HA ⟨sA,eA,rfl⟩;exact q D HA (s2.trans sA) (s2.free hD) (by rw[Yl];exact eA)
theorem Iy:∀{i j:Nat},p<=i->(p∈hgF J (i+j)↔p∈hgF J i)
 |i,0,_=>Iff.rfl
 |i,j+1,h=>by
  rw[<- Iy (j:=j) h,show i+(j+1)=(i+j)+1 by lia];rw[show hgF J (i+j+1)=if ((J (i+j+1)).any fun q=>decide (q∈hgF J (i+j)))=true then hgF J (i+j)++[i+j+1] else hgF J (i+j) from rfl];split
  ·rw[mem_append,mem_singleton];exact⟨fun z=>z.elim id fun z=>absurd z (by lia),.inl⟩
  ·exact Iff.rfl
theorem Km (M:Nat):0∈hgF J M:=by
 have:=(Iy (J:=J) (p:=0) (i:=0) (j:=M) (Nat.le_refl _)).mpr (by show 0∈[0];simp)
 rwa [Nat.zero_add] at this
theorem Ca (k1:1<=k)(kM:k<=M):k∈hgF J M↔∃o,J k=some o/\o∈hgF J (k - 1):=by
 obtain⟨j,rfl⟩:∃j,M=k+j:=⟨M - k,by lia⟩
 rw[Iy (Nat.le_refl _)];obtain⟨i,rfl⟩:∃i,k=i+1:=⟨k - 1,by lia⟩
 rw[show hgF J (i+1)=if ((J (i+1)).any fun q=>decide (q∈hgF J i))=true then hgF J i++[i+1] else hgF J i from rfl,Nat.add_sub_cancel]
 cases hj:J (i+1) with
 |none=>
  rw[if_neg (by simp)];exact⟨fun h=>absurd (nQ J i _ h) (by lia),fun ⟨o,e,_⟩=>by cases e⟩
 |some q=>
  by_cases c:q∈hgF J i
  ·rw[if_pos (by simp[c])];exact⟨fun _=>⟨q,rfl,c⟩,fun _=>by simp⟩
  ·rw[if_neg (by simp[c])];exact⟨fun h=>absurd (nQ J i _ h) (by lia),fun ⟨o,e,ho⟩=>absurd (by cases e;exact ho) c⟩
theorem Fj (hj:J k=some o)(ok:o < k)(kM:k<=M):k∈hgF J M↔o∈hgF J M:=by
 rw[Ca (by lia) kM,show M=(k - 1)+(M - (k - 1)) by lia,Iy (by lia:o<=k - 1)];exact⟨fun ⟨o',e,h⟩=>by rw[hj] at e;cases e;exact h,fun h=>⟨o,hj,h⟩⟩
abbrev gO (d:RD)(k o:Nat):Prop:=(d.2.1=(k:Int)/\d.2.2.1=(o:Int))\/(d.2.1=(o:Int)/\d.2.2.1=(k:Int))
theorem gO.nat (h:gO d k o):(d.2.1.toNat=k/\d.2.2.1.toNat=o)\/(d.2.1.toNat=o/\d.2.2.1.toNat=k):=by
 rcases h with ⟨a,b⟩ | ⟨a,b⟩<;>(rw[a,b];simp)
theorem gO.cn (h:gO d k o)(hd:d∈ds)(hk:d.1≠.pu):Cn ds k o:=by
 have c:=Cn.row hd hk;rcases h.nat with ⟨a,b⟩ | ⟨a,b⟩
 ·rwa [a,b] at c
 ·rw[a,b] at c;exact c.symm
structure TJ (m:Nat) (J:Nat->Option Nat) (ds:List RD):Prop where
 a:∀d∈ds,d.1≠.pu->∃k o,J k=some o/\gO d k o
 b:∀k o,J k=some o->k < m/\o < k/\∃d∈ds,d.1≠.pu/\gO d k o
section
variable {m:Nat} {J:Nat->Option Nat} {ds:List RD}
theorem TJ.inv (h:TJ m J ds)(c:Cn ds p q):p∈hgF J (m - 1)↔q∈hgF J (m - 1):=by
 induction c with
 |refl p=>exact Iff.rfl
 |row hd hk=>
  obtain⟨k,o,hj,en⟩:=h.a _ hd hk;obtain⟨km,ok,_⟩:=h.b k o hj;have e:=Fj hj ok (by lia:k<=m - 1);rcases en.nat with ⟨x,y⟩ | ⟨x,y⟩
  ·rw[x,y];exact e
  ·rw[x,y];exact e.symm
 |symm _ ih=>exact ih.symm
 |trans _ _ i1 i2=>exact i1.trans i2
theorem TJ.to0 (h:TJ m J ds):∀p,p < m->p∈hgF J (m - 1)->Cn ds p 0:=fun p=>by
 induction p using Nat.strongRecOn with
 |_ p ih=>
  intro pm hp
  by_cases p0:p=0
  ·rw[p0];exact .refl 0
  obtain⟨o,hj,ho⟩:=(Ca (by lia) (by lia:p<=m - 1)).mp hp;obtain⟨_,ok,d,hd,hk,en⟩:=h.b p o hj;exact(en.cn hd hk).trans (ih o ok (by lia) ((Fj hj ok (by lia)).mp hp))
theorem TJ.flt (h:TJ m J ds)(m1:1<=m)(pt:∀d∈ds,cX (m:Int) d.2.1 d.2.2.1):iZ m ds=Bq J m:=by
 unfold iZ Bq;rw[filter_congr fun p hp=>?_];have pm:=mem_range.mp hp;have e:L2.mk m ds p=L2.mk m ds 0↔p∈hgF J (m - 1):=(Jg pt pm (by assumption)).trans ⟨fun c=>(h.inv c).mpr (Km _),h.to0 p pm⟩;exact decide_eq_decide.mpr (not_congr e)
inductive Sb (J:Nat->Option Nat) (k:Nat):Nat->Prop where
 |top:Sb J k k
 |dn {x y:Nat} (h:J x=some y) (g:Sb J k y):Sb J k x
theorem Sb.ge (lt:∀x y,J x=some y->y < x)(h:Sb J k x):k<=x:=by
 induction h with
 |top=>exact Nat.le_refl _
 |dn h _ ih=>have:=lt _ _ h;lia
theorem Sb.par (h:J x=some y)(ne:x≠k):Sb J k x↔Sb J k y:=⟨fun s=>by
 cases s with
 |top=>exact absurd rfl ne
 |dn h' g=>rw[h] at h';cases h';exact g,.dn h⟩
theorem qf3 (hA:∀d∈A,∃k' o,k'≠k/\J k'=some o/\gO d k' o)(c:Cn A p q):Sb J k p↔Sb J k q:=by
 induction c with
 |refl p=>exact Iff.rfl
 |row hd hk=>
  obtain⟨k',o,ne,hj,en⟩:=hA _ hd;have e:=Sb.par (k:=k) hj ne;rcases en.nat with ⟨x,y⟩ | ⟨x,y⟩
  ·rw[x,y];exact e
  ·rw[x,y];exact e.symm
 |symm _ ih=>exact ih.symm
 |trans _ _ i1 i2=>exact i1.trans i2
theorem ql2 (lt:∀x y,J x=some y->y < x)(hj:J k=some o)(en:gO d k o)(hA:∀d∈A,∃k' o,k'≠k/\J k'=some o/\gO d k' o):¬Cn A d.2.1.toNat d.2.2.1.toNat:=fun c=>by
 have e:=qf3 (k:=k) hA c;have ok:=lt _ _ hj;have no:¬Sb J k o:=fun z=>by have:=z.ge lt;lia
 rcases en.nat with ⟨x,y⟩ | ⟨x,y⟩
 ·rw[x,y] at e;exact no (e.mp .top)
 ·rw[x,y] at e;exact no (e.mpr .top)
end
abbrev rw0:RD:=(.pc,0,0,(0,1))
abbrev rwA (rs:List RD)(k:Nat):RD:=rs.getD k rw0
def par (d:RD):Nat:=(min d.2.1 d.2.2.1).toNat
def jF (rs:List RD)(ks:List Nat)(p:Nat):Option Nat:=match p with
 |0=>none
 |k+1=>if k∈ks then some (par (rwA rs k)) else none
theorem vT (c:k∈ks):jF rs ks (k+1)=some (par (rwA rs k)):=by
 show (if k∈ks then some (par (rwA rs k)) else none)=_;rw[if_pos c]
theorem Kq (c:k∉ks):jF rs ks (k+1)=none:=by
 show (if k∈ks then some (par (rwA rs k)) else none)=_;rw[if_neg c]
structure Tl (m:Nat) (rs:List RD) (ks:List Nat) (ds:List RD):Prop where
 m1:1<=m
 m8:m<=8
 tr:∀k,k < m - 1->TRw (k+1) (rwA rs k)
 nd:ks.Nodup
 lt:∀k∈ks,k < m - 1
 fl:(ds.filter fun d=>decide (d.1≠.pu))=ks.map (rwA rs)
 pu:∀d∈ds,d.1=.pu->cX (m:Int) d.2.1 d.2.2.1/\Low d.2.2.2/\Bd 4 d.2.2.2
 ln:ds.length<=ks.length+5
theorem TRw.ends (h:TRw k d):par d < k/\gO d k (par d):=by
 obtain⟨o,ok,en⟩:=h.en;have:par d=o:=by
  unfold par;rcases en with ⟨a,b⟩ | ⟨a,b⟩<;>(rw[a,b];lia)
 rw[this];exact⟨ok,en⟩
section
variable {m:Nat} {rs ds:List RD} {ks:List Nat}
theorem Tl.mem (h:Tl m rs ks ds)(hd:d∈ds)(hk:d.1≠.pu):∃k∈ks,d=rwA rs k/\TRw (k+1) d:=by
 have:d∈ds.filter fun d=>decide (d.1≠.pu):=mem_filter.mpr ⟨hd,decide_eq_true hk⟩;rw[h.fl] at this;obtain⟨k,kk,rfl⟩:=mem_map.mp this;exact⟨k,kk,rfl,h.tr k (h.lt k kk)⟩
theorem Tl.pt (h:Tl m rs ks ds):∀d∈ds,cX (m:Int) d.2.1 d.2.2.1:=fun d hd=>by
 by_cases c:d.1=.pu
 ·exact(h.pu d hd c).1
 obtain⟨k,hk,_,t⟩:=h.mem hd c;have:=h.lt k hk;obtain⟨o,ok,en⟩:=t.en;rcases en with ⟨a,b⟩ | ⟨a,b⟩<;>(unfold cX;rw[a,b];lia)
theorem Tl.lo (h:Tl m rs ks ds):∀d∈ds,Low d.2.2.2/\Bd 4 d.2.2.2:=fun d hd=>by
 by_cases c:d.1=.pu
 ·exact(h.pu d hd c).2
 obtain⟨k,hk,_,t⟩:=h.mem hd c;exact⟨t.lo,t.bd⟩
theorem Tl.jl (h:Tl m rs ks ds):∀x y,jF rs ks x=some y->y < x:=fun x y e=>by
 cases x with
 |zero=>cases e
 |succ k=>
  by_cases c:k∈ks
  ·rw[vT c] at e;cases e;exact(h.tr k (h.lt k c)).ends.1
  ·rw[Kq c] at e;cases e
theorem Tl.tj (h:Tl m rs ks ds):TJ m (jF rs ks) ds:=by
 refine⟨fun d hd hk=>?_,fun k o e=>?_⟩
 ·obtain⟨k,hk,ed,t⟩:=h.mem hd hk;exact⟨k+1,par d,by rw[vT hk,ed],t.ends.2⟩
 ·have lt:=h.jl k o e
  cases k with
  |zero=>cases e
  |succ k=>
   by_cases c:k∈ks
   ·rw[vT c] at e;cases e;have t:=h.tr k (h.lt k c);have:rwA rs k∈ds.filter fun d=>decide (d.1≠.pu):=by rw[h.fl];exact mem_map.mpr ⟨k,c,rfl⟩
    have:=h.lt k c;exact⟨by lia,lt,rwA rs k,(mem_filter.mp ‹_›).1,t.np,t.ends.2⟩
   ·rw[Kq c] at e;cases e
theorem Tl.frs (h:Tl m rs ks ds):Frs ds:=by
 rw[Uu];intro A B d e;have es:iK .ho ds=(ks.map (rwA rs)).filter fun d=>decide (d.1=.ho):=by
  rw[<- h.fl,filter_filter];unfold iK;refine filter_congr fun d _=>?_
  by_cases c:d.1=.ho
  ·simp[c]
  ·simp[c]
 rw[es,filter_map] at e;obtain⟨k1,k2,e1,eA,e2⟩:=map_eq_append_iff.mp e;obtain⟨k,k3,e3,ek,eB⟩:=map_eq_cons_iff.mp e2;have nd:(ks.filter ((fun d:RD=>decide (d.1=.ho)) ∘ rwA rs)).Nodup:=h.nd.filter _;have sub:∀x∈k1++k2,x∈ks:=fun x hx=>by rw[<- e1] at hx;exact(mem_filter.mp hx).1
 rw[e1,e3] at nd;have kk:k∈ks:=sub k (by rw[e3];simp);have t:=h.tr k (h.lt k kk);rw[<- ek];refine ql2 (J:=jF rs ks) (k:=k+1) h.jl (vT kk) t.ends.2 fun x hx=>?_;rw[<- eA] at hx;obtain⟨k',hk',rfl⟩:=mem_map.mp hx;have k'k:k'∈ks:=sub k' (mem_append_left _ hk');refine⟨k' + 1,_,fun z=>?_,vT k'k,(h.tr k' (h.lt k' k'k)).ends.2⟩;have:k'=k:=by lia
 subst this;have:=(nodup_append.mp nd).2.2 k' hk' k' (by simp);exact this rfl
theorem Wc (k:Kd):wHo k=true↔k=.ho:=by
 cases k
 ·exact⟨fun h=>absurd h (by decide +kernel),fun h=>by cases h⟩
 ·exact⟨fun h=>absurd h (by decide +kernel),fun h=>by cases h⟩
 ·exact⟨fun _=>rfl,fun _=>by decide +kernel⟩
theorem Tl.rg (h:Tl m rs ks ds):rgH ds=[]:=yI Wc h.pt (by have:=h.m8;lia) h.frs _ (Nat.le_refl _)
theorem Tl.flt (h:Tl m rs ks ds):iZ m ds=Bq (jF rs ks) m:=h.tj.flt h.m1 h.pt
theorem Tl.start (m1:1<=m)(m8:m<=8)(tr:∀k,k < m - 1->TRw (k+1) (rwA rs k))(nd:ks.Nodup)(lt:∀k∈ks,k < m - 1):Tl m rs ks (ks.map (rwA rs)):=
 ⟨m1,m8,tr,nd,lt,filter_eq_self.mpr fun d hd=>by
  obtain⟨k,hk,rfl⟩:=mem_map.mp hd;exact decide_eq_true (tr k (lt k hk)).np,fun d hd hk=>by
  obtain⟨k,hk',rfl⟩:=mem_map.mp hd;exact absurd hk (tr k (lt k hk')).np,by rw[length_map];lia⟩
theorem Tl.more (h:Tl m rs ks ds)(km:k < m - 1)(kn:k∉ks):Tl m rs (ks++[k]) (ds++[rwA rs k]):=by
 have t:=h.tr k km;refine⟨h.m1,h.m8,h.tr,?_,fun x hx=>?_,?_,fun d hd hk=>?_,?_⟩
 ·rw[nodup_append];exact⟨h.nd,by simp,fun a ha b hb=>by rw[mem_singleton.mp hb];exact fun z=>kn (z ▸ ha)⟩
 ·rcases mem_append.mp hx with z | z
  ·exact h.lt x z
  ·rw[mem_singleton.mp z];exact km
 ·rw[filter_append,h.fl,map_append,filter_cons_of_pos (p:=fun d:RD=>decide (d.1≠.pu)) (decide_eq_true t.np)];rfl
 ·rcases mem_append.mp hd with z | z
  ·exact h.pu d z hk
  ·rw[mem_singleton.mp z] at hk;exact absurd hk t.np
 ·have:=h.ln;rw[List.length_append,List.length_append];show _+1<=_+1+5;lia
theorem Tl.lack (h:Tl m rs ks ds)(km:k < m - 1)(kn:k∉ks):iZ m ds≠[]:=fun z=>by
 rw[h.flt] at z;unfold Bq at z;have z:=map_eq_nil_iff.mp z;have:=filter_eq_nil_iff.mp z (k+1) (mem_range.mpr (by lia));apply this;refine decide_eq_true fun c=>?_;obtain⟨o,e,_⟩:=(Ca (by lia) (by assumption)).mp c;rw[Kq kn] at e;cases e
theorem Pi (J:Nat->Option Nat)(m:Nat):(Bq J m).length<=m:=by
 unfold Bq;rw[length_map];have:=length_filter_le (fun p=>decide (p∉hgF J (m - 1))) (List.range m);rw[length_range] at this;exact this
def LT (ds:List RD):Int:=Mq.prB (ds.map fun d=>if d.1=.pc then d.2.2.2.1 else d.2.2.2.2)
theorem Tl.pc (h:Tl m rs ks ds)(hd:d∈ds)(hk:d.1=.pc):0 < d.2.2.2.1:=by
 obtain⟨k,_,_,t⟩:=h.mem hd (by rw[hk];exact fun z=>by cases z);exact(t.ps hk).pos
theorem Tl.one (h:Tl m rs ks ds)(hd:d∈ds):1<=(if d.1=.pc then d.2.2.2.1 else d.2.2.2.2)/\Mq.B 4 (if d.1=.pc then d.2.2.2.1 else d.2.2.2.2)/\(if d.1=.pc then d.2.2.2.1 else d.2.2.2.2) ∣ LT ds:=by
 refine⟨?_,?_,Mq.Kn (mem_map.mpr ⟨d,hd,rfl⟩)⟩
 ·split
  ·have:=h.pc hd ‹_›;assumption
  ·exact(h.lo d hd).1.pos
 ·split
  ·exact(h.lo d hd).2.a
  ·exact(h.lo d hd).2.b
theorem Tl.kl (h:Tl m rs ks ds):ks.length<=m - 1:=zG h.nd h.lt
theorem Tl.l12 (h:Tl m rs ks ds):ds.length<=12:=by
 have:=h.ln;have:=h.kl;have:=h.m8;lia
theorem Tl.L (h:Tl m rs ks ds):1<=LT ds/\Mq.B 49 (LT ds):=by
 refine⟨Mq.Ja fun a ha=>?_,?_⟩
 ·obtain⟨d,hd,rfl⟩:=mem_map.mp ha;exact(h.one hd).1
 ·have:=Mq.Xx (u:=4) (l:=ds.map fun d=>if d.1=.pc then d.2.2.2.1 else d.2.2.2.2) fun a ha=>by
   obtain⟨d,hd,rfl⟩:=mem_map.mp ha;exact(h.one hd).2.1
  refine this.mono ?_;rw[length_map];have:=h.l12;lia
theorem Tl.hds (h:Tl m rs ks ds):cC ds<=12:=Nat.le_trans (length_filter_le _ _) h.l12
theorem Tl.nof (h:Tl m rs ks ds)(al:∀k,k < m - 1->k∈ks):Nof m ds:=by
 refine⟨h.m1,h.pt,fun d hd hk=>?_,fun p hp=>?_,h.frs⟩
 ·have a:=h.pc hd hk;have b:=(h.lo d hd).1.pos;unfold Mq.val;rw[Rat.div_def];exact Rat.mul_pos (by exact_mod_cast a) (Rat.inv_pos.mpr (by exact_mod_cast (by assumption:0 < d.2.2.2.2)))
 ·refine(h.tj.to0 p hp ?_).symm;have:∀p,p < m->p∈hgF (jF rs ks) (m - 1):=fun p=>by
   induction p using Nat.strongRecOn with
   |_ p ih=>
    intro pm
    cases p with
    |zero=>exact Km _
    |succ k=>
     have kk:=al k (by lia);have ok:=(h.tr k (by lia)).ends.1;exact(Fj (vT kk) ok (by lia)).mpr (ih _ ok (by lia))
  exact this p hp
theorem Tl.eqb (h:Tl m rs ks ds)(al:∀k,k < m - 1->k∈ks):EqB m 60 (LT ds) ds/\∀i,∃a:Int,Mq.B 60 a/\eqR m ds (i+1)=(a:Rat) / (LT ds:Rat):=by
 obtain⟨L1,LB⟩:=h.L;have m8:=h.m8;have hh:=h.hds;have l12:=h.l12;have one:=Mq.Fr.one L1;refine⟨⟨h.nof al,?_,by decide,?_,?_,L1,LB.mono (by decide),fun i j=>?_⟩,fun i=>?_⟩
 ·show m - 1+cC ds<=26;lia
 ·show 10+60+60*(m - 1+cC ds+1)<=8000;lia
 ·show (60+5)*(m - 1+cC ds+1)+8<=4000;lia
 ·have c:∀d∈ds,∀k,Mq.Fr (LT ds) 18 (cM d k (i+1) (j+1)):=fun d hd k=>by
   unfold cM
   cases hk:d.1 with
   |pu=>exact Mq.Fr.zero.mono (Nat.zero_le _)
   |ho=>
    dsimp only;refine(Mq.Fr.add (Er (Sz one) _ _ _) (N:=1) ?_).mono (by decide);rw[Rat.mul_comm];exact Er (Sz one) _ _ _
   |pc=>
    have p0:=h.pc hd hk;have dvd:=(h.one hd).2.2;rw[if_pos hk] at dvd;have p1:=(h.lo d hd).1.pos;have le:d.2.2.2.2.natAbs<=16:=Nat.le_of_lt (h.lo d hd).2.b;dsimp only;rw[Rat.mul_assoc];have:1 / Mq.val d.2.2.2=((d.2.2.2.2:Int):Rat) / ((d.2.2.2.1:Int):Rat):=by
     have:=pS p1;have:=pS (by assumption:1<=d.2.2.2.1);unfold Mq.val;grind
    rw[this];exact(Er (Er (Mq.Fr.of L1 (by assumption) dvd le) _ _ _) _ _ _).mono (by decide)
  refine Mq.Fr.get (m:=8) (n:=49) (Tc m c) ?_ LB (by decide)
  calc ds.length*18<=12*18:=Nat.mul_le_mul_right _ l12
   _ < 2 ^ 8:=by decide
 ·have c:∀d∈ds,∀k,Mq.Fr (LT ds) 16 (cR d k (i+1)):=fun d hd k=>by
   have dvd:=(h.one hd).2.2;unfold cR
   cases hk:d.1 with
   |pc=>exact Mq.Fr.zero.mono (Nat.zero_le _)
   |pu=>
    rw[if_neg (by rw[hk];exact fun z=>by cases z)] at dvd;dsimp only;have f:=uU L1 (h.lo d hd).1 dvd (h.lo d hd).2;have e:-dl d.2.1.toNat d.2.2.1.toNat (i+1)*Mq.val d.2.2.2=-(dl d.2.1.toNat d.2.2.1.toNat (i+1)*Mq.val d.2.2.2):=by grind
    rw[e];exact(Er f _ _ _).neg
   |ho=>
    rw[if_neg (by rw[hk];exact fun z=>by cases z)] at dvd;dsimp only;have f:=uU L1 (h.lo d hd).1 dvd (h.lo d hd).2;split
    ·exact f
    ·exact Mq.Fr.zero.mono (Nat.zero_le _)
  refine Mq.Fr.get (m:=8) (n:=49) (Ra m c) ?_ LB (by decide)
  calc ds.length*16<=12*16:=Nat.mul_le_mul_right _ l12
   _ < 2 ^ 8:=by decide
end
theorem tE:(["_law_point","_law_script"]:List Str).Nodup:=by decide +kernel
theorem Ex:(["_law_k","_law_script"]:List Str).Nodup:=by decide +kernel
theorem qJ:(["_law_k","_law_rows","_law_lacking"]:List Str).Nodup:=by decide +kernel
theorem sU:(["_law_row","_law_flow"]:List Str).Nodup:=by decide +kernel
theorem Vw:(["_law_row"]:List Str).Nodup:=by decide +kernel
def qf4 (K:Frag):Sp:=fun vs H Q _=>∃(a:Addr) (ns:List Int) (m:Nat),vs=[.ref a,.int (m:Int)]/\SqL K H a (ns.map V.int)/\ns.length<=63/\2<=m/\m<=8/\∀H',aW H H'->Q (.bl true) H'
theorem Rts.take:∀{xs:List V} {ds:List RD} (n:Nat),Rts K H xs ds->Rts K H (xs.take n) (ds.take n)
 |_,_,0,_=>.nil
 |_,_,_+1,.nil=>.nil
 |_,_,n+1,.cons h f q=>.cons h f (Rts.take n q)
theorem Rts.drop:∀{xs:List V} {ds:List RD} (n:Nat),Rts K H xs ds->Rts K H (xs.drop n) (ds.drop n)
 |_,_,0,h=>h
 |_,_,_+1,.nil=>.nil
 |_,_,n+1,.cons _ _ q=>Rts.drop n q
theorem Tl.ins (n:Nat)(h:Tl m rs ks ds)(hk:d.1=.pu)(ok:cX (m:Int) d.2.1 d.2.2.1/\Low d.2.2.2/\Bd 4 d.2.2.2)(ln:ds.length+1<=ks.length+5):Tl m rs ks (ds.take n++d :: ds.drop n):=by
 refine⟨h.m1,h.m8,h.tr,h.nd,h.lt,?_,fun e he ek=>?_,?_⟩
 ·rw[filter_append,filter_cons_of_neg (by simp[hk]),<- filter_append,take_append_drop];exact h.fl
 ·rcases mem_append.mp he with z | z
  ·exact h.pu e (mem_of_mem_take z) ek
  ·rcases mem_cons.mp z with z | z
   ·rw[z];exact ok
   ·exact h.pu e (mem_of_mem_drop z) ek
 ·rw[List.length_append,length_cons,length_take,length_drop];lia
theorem Dq (h:k < rs.length):rs[k]?=some (rwA rs k):=by
 unfold rwA;rw[getD_eq_getElem?_getD,getElem?_eq_getElem h];rfl
theorem Tl.rd (h:Tl m rs ks ds):∀d∈ds,Cp (m:Int) d:=fun d hd=>by
 obtain⟨a,b,c,e⟩:=h.pt d hd;exact⟨a,b,c,e,(h.lo d hd).1,fun k=>h.pc hd k,(h.lo d hd).2.mono (by decide)⟩
theorem Rts.updD (hl:H l=some (.dK kvs)):∀{xs:List V} {ds:List RD},Rts K H xs ds->Rts K (L2.upd H l o) xs ds
 |_,_,.nil=>.nil
 |_,_,.cons h f q=>.cons (SqT.updD h hl) (SqT.updD f hl) (Rts.updD hl q)
theorem dE.updD (hd:H d=some (.dK kvs))(h:dE CN K H n l m ds):dE CN K (L2.upd H d o) n l m ds:=by
 obtain⟨⟨dx,a⟩,ts,b,c⟩:=h;exact⟨⟨dx,by rw[aL (gL a hd (fun z=>by cases z))];exact a⟩,ts,by rw[aL (gL b hd (fun z=>by cases z))];exact b,Rts.updD hd c⟩
theorem ql8 (h:p≠i+1):jF rs (ks++[i]) p=jF rs ks p:=by
 cases p with
 |zero=>rfl
 |succ k=>
  show (if k∈ks++[i] then some (par (rwA rs k)) else none)=if k∈ks then some (par (rwA rs k)) else none
  have:k≠i:=by lia
  simp[this]
theorem DJ.put (h:DJ kvs (jF rs ks)):DJ (kO kvs (.inl ((i+1:Nat):Int)) (.int (par (rwA rs i):Int))) (jF rs (ks++[i])):=fun p=>by
 rw[Ti]
 by_cases e:p=i+1
 ·subst e;rw[if_pos rfl,vT (by simp)];rfl
 ·rw[if_neg (fun z=>e (by have:=Sum.inl.inj z;lia)),ql8 e];exact h p
theorem Ij (h:TRw k d):(if d.2.2.1 < d.2.1 then d.2.2.1 else d.2.1)=(par d:Int):=by
 obtain⟨o,ok,en⟩:=h.en;unfold par;rcases en with ⟨a,b⟩ | ⟨a,b⟩
 ·rw[a,b,if_pos (by lia)];lia
 ·rw[a,b,if_neg (by lia)];lia
theorem Vf (o:Nof m ds):iZ m ds=[]:=by
 unfold iZ;rw[filter_eq_nil_iff.mpr fun p hp=>?_]
 ·rfl
 ·have pm:=mem_range.mp hp;rw[(Jg o.pt pm (by have:=o.m1;assumption)).mpr (o.cn p pm).symm];simp
theorem wJ (a:Nat):∀n,kS (fun _=>a) n=(4*a+20)*n
 |0=>rfl
 |n+1=>by show kS _ n+(4*a+20)=_;rw[wJ a n,Nat.mul_succ]
theorem Nk (hx:H x=none)(hd:H dx=none)(s:cV x (upd (upd H dx (.own x)) x (.ins C dx [])) H'):aW H H':=fun b o h=>by
 have n1:b≠x:=fun z=>by rw[z,hx] at h;cases h
 have n2:b≠dx:=fun z=>by rw[z,hd] at h;cases h
 exact s b o (by rw[aL n1,aL n2];exact h) n1
theorem Js (hx:H x=none)(hd:H dx=none):aW H (upd (upd H dx (.own x)) x (.ins C dx [])):=fun b o h=>by
 have n1:b≠x:=fun z=>by rw[z,hx] at h;cases h
 have n2:b≠dx:=fun z=>by rw[z,hd] at h;cases h
 rw[aL n1,aL n2];exact h
theorem Jt (k:Kd):decide (V.str k.wd=V.str "push")=decide (k=.pu):=fM k .pu
def psF (ds:List RD):List Q2:=(ds.filter fun d=>decide (d.1=.pu)).map fun d=>d.2.2.2
theorem pI (ds:List RD)(d:RD):psF (ds++[d])=if d.1=.pu then psF ds++[d.2.2.2] else psF ds:=by
 unfold psF;rw[filter_append]
 by_cases c:d.1=.pu
 ·rw[if_pos c,filter_cons_of_pos (p:=fun d:RD=>decide (d.1=.pu)) (decide_eq_true c),map_append];rfl
 ·rw[if_neg c,filter_cons_of_neg (by simp[c])];simp
theorem Kk (ds:List RD):(psF ds).length<=ds.length:=by
 unfold psF;rw[length_map];exact length_filter_le _ _
theorem Qk:∀{ds:List RD} {t i:Nat} {d:RD} {q:Q2},ds[i]?=some d->d.1=.pu->(tF lv hs t ds)[i]?=some q->q=d.2.2.2
 |e :: r,t,0,d,q,h,k,g=>by
  have h:e=d:=Option.some.inj h;have g:Mz lv hs t e=q:=Option.some.inj g;rw[<- g,h];unfold Mz;rw[k];rfl
 |e :: r,t,i+1,d,q,h,k,g=>Qk (ds:=r) h k g
abbrev oS (lk:List Nat)(i:Nat):List Nat:=(List.range i).filter fun k=>decide (k∉lk)
theorem Iv (h:i∈lk):oS lk (i+1)=oS lk i:=by
 unfold oS;rw[range_succ,filter_append];simp[h]
theorem Ck (h:i∉lk):oS lk (i+1)=oS lk i++[i]:=by
 unfold oS;rw[range_succ,filter_append];simp[h]
theorem Ws (lk:List Nat)(i:Nat):(oS lk i).Nodup:=nodup_range.filter _
theorem Wv (h:k∈oS lk i):k < i:=mem_range.mp (mem_filter.mp h).1
theorem Eu (lk:List Nat)(i:Nat):(oS lk i).length<=i:=by
 have:=length_filter_le (fun k=>decide (k∉lk)) (List.range i)
 rwa [length_range] at this
theorem Ov (x:Int)(n:Nat):∃y:Nat,x % ((n:Int)+1)=(y:Int)/\y<=n:=by
 have a:=Int.emod_nonneg x (by lia:(n:Int)+1≠0);have b:=Int.emod_lt_of_pos x (by lia:0 < (n:Int)+1);exact⟨(x % ((n:Int)+1)).toNat,by lia,by lia⟩
theorem qo9 {i:Nat}(h:i < 7):∃w:Int,atI [V.int 1,.int 2,.int 4,.int 8,.int 16,.int 32,.int 64] (i:Int)=some (.int w)/\1<=w/\w<=64:=by
 have:i=0\/i=1\/i=2\/i=3\/i=4\/i=5\/i=6:=by lia
 rcases this with rfl | rfl | rfl | rfl | rfl | rfl | rfl
 ·exact⟨1,rfl,by decide,by decide⟩
 ·exact⟨2,rfl,by decide,by decide⟩
 ·exact⟨4,rfl,by decide,by decide⟩
 ·exact⟨8,rfl,by decide,by decide⟩
 ·exact⟨16,rfl,by decide,by decide⟩
 ·exact⟨32,rfl,by decide,by decide⟩
 ·exact⟨64,rfl,by decide,by decide⟩
abbrev sJn:Stmt:=top 88
theorem oQ:aQ ["_law_script","_law_many","_law_rows","_law_lacking","_law_told","_law_k","_law_cell","_law_row","_law_net_here","_law_joined_here","_law_points","_law_answer","_law_pushes"] ["_law_script","_law_many"] (aH sJn):=sK9
theorem qh5 (F:aY K "_law_joined" "_law_joined" sJn dV f fd)(mr:mg "range"=none)(ml:mg "len"=none)(mm:mg "min"=none)(mz:mg "zip"=none)(NTx:NT K mg CN)(ABx:AB K mg CA)(GA:aK P w K mg base (CX1 P w) 8 gA gdA ["self","net"] (pK CN CA CG CF K))(bA:aM K gdA ["self","net"] [])(MA:Mk K CA gA)(GTo:aK P w K mg base CX0 4 gTo gdTo ["self"] (Ac CN K))(bTo:aM K gdTo ["self"] [])(mTo:gQ K CN "told" gTo)(GAd:aK P w K mg base CX0 5 gAd gdAd ["self","row"] (Od CN K CK))(bAd:aM K gdAd ["self","row"] [])(mAd:gQ K CN "add" gAd)(GSt:aK P w K mg base CX0 1 gSt gdSt ["self"] (xV CA K))(bSt:aM K gdSt ["self"] [])(mSt:gQ K CA "streams" gSt)(G1:D9 P w K mg base 1 g1 gd1 ["_law_script","_law_k"] (wW K) "_law_nth")(G2:D9 P w K mg base 4 g2 gd2 ["_law_script","_law_point"] (Sr K) "_law_tree_row")(G3:D9 P w K mg base 3 g3 gd3 ["_law_cell","_law_far"] pF "_law_amount")(G4:D9 P w K mg base 6 g4 gd4 ["_law_many","_law_rows"] (As CN K) "_law_net")(G5:D9 P w K mg base 10 g5 gd5 ["_law_net_here"] (Eo CN K) "_law_floats")(G6:D9 P w K mg base 1 g6 gd6 ["_law_many","_law_joined_here"] Yb "_law_due")(G7:D9 P w K mg base 3 g7 gd7 ["told"] (pY K CK) "row_of")(G8:D9 P w K mg base 5 g8 gd8 ["_law_answer","_law_many"] (Ow CA K) "_law_no_point"):
  aK P w K mg base CX 11 f fd ["_law_script","_law_many"] (qf4 K):=by
 refine F.ok9 oQ fun _ _ _ s H _ Q E hr h=>?_;obtain⟨a,ns,m,rfl,hS,h63,hm2,hm8,q⟩:=h;have r1:=hr.mono (by decide:1<=10);have r3:=hr.mono (by decide:3<=10);have r4:=hr.mono (by decide:4<=10);have r5:=hr.mono (by decide:5<=10);have r6:=hr.mono (by decide:6<=10);have r9:=hr.mono (by decide:9<=10);have hu:=hr.units;have GAc:=GA.calm;refine⟨_,(aC (aS (i:=2) oQ.nd rfl (Or.inr rfl) (dQ (nl:=1) (fr:=[0]) (Nc:=["_law_point","_law_script"]) (cl:=[("_law_script",s.heap.objs.size+1)]) rfl ⟨rfl,rfl,by decide +kernel,by decide +kernel,(dA rfl (jT)),dU rfl,rfl,fun i n h=>match i,h with | 0,h=>by cases h;exact⟨0,rfl,rfl,rfl,rfl,.inl rfl⟩ | k+1,h=>by rw[show 1+(k+1)=k+2 by lia] at h;cases h⟩
    (rP rfl mr (aA aE (aA (pv 1) aD))) (fun _ _ _ _ _=>(bH (i:=0) tE rfl (Or.inl rfl))) (fun _ _ _ _ _=>fL)
    (fun _ _ _ _ _=>(d9 G2 r4 rfl (aA (pv 1) (aA (pv 0) aD))))))
  (aC (aS (i:=3) oQ.nd rfl (Or.inr rfl) (dQ (nl:=1) (fr:=[0]) (Nc:=["_law_k","_law_script"]) (cl:=[("_law_script",s.heap.objs.size+1)]) rfl ⟨rfl,rfl,by decide +kernel,by decide +kernel,(dA rfl (jT)),dU rfl,rfl,fun i n h=>match i,h with | 0,h=>by cases h;exact⟨0,rfl,rfl,rfl,rfl,.inl rfl⟩ | k+1,h=>by rw[show 1+(k+1)=k+2 by lia] at h;cases h⟩
    (fR rfl mr (aA (aP gR (pv 1) aE) aD)) (fun _ _ _ _ _=>(bH (i:=0) Ex rfl (Or.inl rfl))) (fun _ _ _ _ _=>(kX (bK fZ (aP cT (aP iJ (aP cT (d9 G1 r1 rfl (aA (pv 1) (aA aE aD))) aE) (aU (kP (K:=K) rfl) (dG (aA aE (aA aE (aA aE (aA aE (aA aE (aA aE (aA aE aD)))))))) (pv 0) (fun _ _=>rfl))) aE) aE (bO _))))
    (fun _ _ _ _ _=>(pv 0))))
  (aC (tZ (i:=4) (nl:=1) (fr:=[2,3]) (Nc:=["_law_k","_law_rows","_law_lacking"]) (cl:=[("_law_rows",s.heap.objs.size+2),("_law_lacking",s.heap.objs.size+3)]) oQ.nd rfl rfl rfl ⟨rfl,rfl,by decide +kernel,by decide +kernel,(dA rfl (dA rfl (jT))),dU rfl,rfl,fun i n h=>match i,h with | 0,h=>by cases h;exact⟨2,rfl,rfl,rfl,rfl,.inl rfl⟩ | 1,h=>by cases h;exact⟨3,rfl,rfl,rfl,rfl,.inl rfl⟩ | k+2,h=>by rw[show 1+(k+2)=k+3 by lia] at h;cases h⟩
    (fR rfl mr (aA (aP gR (pv 1) aE) aD)) (fun _ _ _ _ _=>(bH (i:=0) qJ rfl (Or.inl rfl))) (fun _ _ _ _ _=>(kX (bK (oE (K:=K) rfl) (pv 0) (pv 2) rfl)))
    (fun _ _ _ _ _=>(aU (kP (K:=K) rfl) (pv 1) (pv 0) (fun _ _=>rfl))) rfl)
  (aC (fK PassesOwn.never rfl (fR rfl mr (aA (aP dL aE (aP cT (d9 G1 r1 rfl (aA (pv 0) (aA aE aD))) aE)) aD)) (bH (i:=5) oQ.nd rfl (Or.inl rfl))
   (aC (aS (i:=6) oQ.nd rfl (Or.inl rfl) (d9 G1 r1 rfl (aA (pv 0) (aA (aP dL aE (pv 5)) aD))))
  (aC (aS (i:=7) oQ.nd rfl (Or.inl rfl) (cU (aA dD (aA (aP kW (pv 6) (pv 1)) (aA (aP kW (aP cT (aP hG (pv 6) aE) aE) (pv 1)) (aA (d9 G3 r3 rfl (aA (pv 6) (aA gN aD))) aD))))))
  (aF (bX (jW PySem.F.plainAttrs_list PySem.F.slot_list_insert PySem.F.type_list_insert Lb (pv 4) (aA (aP cT (aP cT (aP hG (pv 6) aE) aE) (aP dL (bV cJ rfl ml PySem.boot_len (aA (pv 4) aD)) aE)) (aA (pv 7) aD))))))))
  (aC (aS (i:=8) oQ.nd rfl (Or.inl rfl) (d9 G4 r6 rfl (aA (pv 1) (aA (pv 4) aD))))
  (aC (aS (i:=9) oQ.nd rfl (Or.inl rfl) Ng)
  (aC (fK PassesOwn.never rfl (fR rfl mr (aA (aP gR (pv 1) aE) aD)) (bH (i:=5) oQ.nd rfl (Or.inl rfl))
   (aF (cH (bK qM (pv 5) (pv 3) rfl) (aF (zZ (pH hr) (pv 9) (aP dL (pv 5) aE) (bV (zB rfl) rfl mm PyProof.Rows.boot_min (aA (aU bC (aU bU (pv 2) (pv 5) (fun _ _=>rfl)) aE (fun _ _=>rfl)) (aA (aU bC (aU bU (pv 2) (pv 5) (fun _ _=>rfl)) aE (fun _ _=>rfl)) aD))) rfl)) bM)))
  (aC (fK PassesOwn.never rfl (cZ (pv 3)) (bH (i:=5) oQ.nd rfl (Or.inl rfl))
   (aC (aS (i:=10) oQ.nd rfl (Or.inl rfl) (d9 G5 hr rfl (aA (pv 8) aD)))
  (aC (cH (PW.pt (iB (bK (wO hu) (pv 10) (d9 G6 r1 rfl (aA (pv 1) (aA (pv 9) aD))) (bO _)) (iC (bK (wO hu) (gH (pv 8) NTx.cl mTo GTo r4 bTo .nil aR) (pv 4) (bO _))))) (aF (aV gN)) bM)
  (aC (bX (jW PySem.F.plainAttrs_list PySem.F.slot_list_append PySem.F.type_list_append dF (pv 10) (aA aE aD)))
  (aC (cH (bK (wO hu) (d9 G5 hr rfl (aA (pv 8) aD)) (d9 G6 r1 rfl (aA (pv 1) (aA (pv 9) aD))) (bO _)) (aF (aV gN)) bM)
  (aC (bX (Ji (pv 8) NTx.cl mAd GAd r5 bAd .nil aR (aA (d9 G7 r3 rfl (aA (aU bU (pv 2) (pv 5) (fun _ _=>rfl)) aD)) aD)))
  (aC (aS (i:=4) oQ.nd rfl (Or.inl rfl) (aP oV (pv 4) (dG (aA (aU bU (pv 2) (pv 5) (fun _ _=>rfl)) aD))))
  (aF (zZ (pH hr) (pv 9) (aP dL (pv 5) aE) (bV (zB rfl) rfl mm PyProof.Rows.boot_min (aA (aU bC (aU bU (pv 2) (pv 5) (fun _ _=>rfl)) aE (fun _ _=>rfl)) (aA (aU bC (aU bU (pv 2) (pv 5) (fun _ _=>rfl)) aE (fun _ _=>rfl)) aD))) rfl)))))))))
  (aC (aS (i:=11) oQ.nd rfl (Or.inl rfl) (qR MA GAc r9 rfl ABx.mA bA .nil aR (aA (pv 8) aD)))
  (aC (tZ (i:=12) (nl:=2) (fr:=[]) (Nc:=["_law_row","_law_flow"]) (cl:=[]) (g:=(Ce K 2 (jR (iN 0) (jR (iN 1) Dz)))) oQ.nd rfl rfl rfl ⟨rfl,rfl,by decide +kernel,by decide +kernel,fun x c h=>(by cases h),dU rfl,rfl,fun i n h=>(by simp at h)⟩
    (Gp rfl mz rfl (aA (pv 4) (aA (gH (pv 11) ABx.cl mSt GSt r1 bSt .nil aR) aD))) (fun _ _ _ _ _=>(mB rfl (dH (bH (i:=0) sU rfl (Or.inl rfl)) (dH (bH (i:=1) sU rfl (Or.inl rfl)) jU)))) (fun _ _ _ _ _=>(kX (bK fZ (aU (nV (K:=K) rfl) (pv 0) aE (fun _ _=>rfl)) dD (bO _))))
    (fun _ _ _ _ _=>(pv 1)) rfl)
  (aF (aV (iV (gP (Fc hu) (pv 12) (dQ (nl:=1) (fr:=[]) (Nc:=["_law_row"]) (cl:=[]) rfl ⟨rfl,rfl,by decide +kernel,by decide +kernel,fun x c h=>(by cases h),dU rfl,rfl,fun i n h=>(by simp at h)⟩
    (cZ (pv 4)) (fun _ _ _ _ _=>(bH (i:=0) Vw rfl (Or.inl rfl))) (fun _ _ _ _ _=>(kX (bK fZ (aU (nV (K:=K) rfl) (pv 0) aE (fun _ _=>rfl)) dD (bO _))))
    (fun _ _ _ _ _=>(aU (nV (K:=K) rfl) (pv 0) aE (fun _ _=>rfl)))) (bO _)) (kA (d9 G8 r5 rfl (aA (pv 11) (aA (pv 1) aD))))))))))))))))),?_⟩
 refine vK (fun σ' H'=>aW H H'/\∃(R:Addr) (us:List V) (rs:List RD),σ'=[some (.ref a),some (.int (m:Int)),some (.ref R),none,none,none,none,none,none,none,none,none,none]/\H' R=some (.lst us)/\Rts K H' us rs/\rs.length=m - 1/\∀k,k < m - 1->TRw (k+1) (rwA rs k)) (fun X hX=>?_) ?_
 ·refine⟨_,rfl,1,(m:Int),rfl,⟨by decide,by decide,by lia,by lia⟩,fun D hD=>?_⟩;have sD:=aG hD (.lst []);rw[show ((m:Int) - 1).toNat=m - 1 by lia];refine iH (lo:=1) (n:=m - 1) (fun i zs H'=>aW H H'/\H' D=some (.lst zs)/\∃rs:List RD,Rts K H' zs rs/\rs.length=i/\∀k,k < i->TRw (k+1) (rwA rs k)) ⟨sD,aB,[],.nil,rfl,fun k h=>absurd h (by lia)⟩ (fun i zs H' h=>h.2.1) ?_ ?_
  ·rintro i zs H1 hi ⟨s1,e1,rs,hR,hl,ht⟩ C hC;have lz:=hR.length;rw[show (1:Int)+(i:Int)=((i+1:Nat):Int) by lia];refine⟨dS.1,dS.2,fH ?_⟩;refine⟨_,rfl,_,rfl,a,ns,i+1,rfl,s1.seq hS,h63,by lia,by lia,fun t z d H2 s2 hT fz td=>?_⟩;obtain⟨k,u,v,p⟩:=d;have e2:=s2 _ _ e1;refine⟨e2,aZ (by lia),hC _ _ ⟨(s1.trans s2).change hD,aB,rs++[(k,u,v,p)],Rts.upd e2 ((hR.same s2).app (.cons hT fz .nil)),by rw[List.length_append,hl];rfl,fun j hj=>?_⟩⟩
   by_cases c:j < i
   ·have:=ht j c
    rwa [show rwA (rs++[(k,u,v,p)]) j=rwA rs j by unfold rwA;rw[getD_eq_getElem?_getD,getD_eq_getElem?_getD,getElem?_append_left (by lia)]]
   ·obtain rfl:j=i:=by lia
    have:rwA (rs++[(k,u,v,p)]) j=(k,u,v,p):=by
     unfold rwA;rw[getD_eq_getElem?_getD,getElem?_append_right (by lia),hl,Nat.sub_self];rfl
    rw[this];exact td
  ·rintro zs H1 ⟨s1,e1,rs,hR,hl,ht⟩;exact hX _ _ ⟨s1,D,zs,rs,rfl,e1,hR,hl,ht⟩
 rintro σ1 H1 ⟨s1,R,us,rs,rfl,eR,hR,rl,tr⟩;refine vK (fun σ' H'=>aW H1 H'/\∃(Lk:Addr) (lk:List Nat),σ'=[some (.ref a),some (.int (m:Int)),some (.ref R),some (.ref Lk),none,none,none,none,none,none,none,none,none]/\H' Lk=some (.lst (nI lk))/\lk.Nodup/\∀k∈lk,k < m - 1) (fun X hX=>?_) ?_
 ·refine⟨_,rfl,_,_,rfl,rfl,_,rfl,by lia,by lia,fun D hD=>?_⟩;have sD:=aG hD (.lst []);rw[show ((m:Int) - 1).toNat=m - 1 by lia];refine iH (n:=m - 1) (fun i zs H'=>aW H1 H'/\H' D=some (.lst zs)/\∃lk:List Nat,zs=nI lk/\lk.Nodup/\(∀k∈lk,k < i)/\lk.length<=i) ⟨sD,aB,[],rfl,.nil,(fun k h=>by cases h),Nat.le_refl _⟩ (fun i zs H' h=>h.2.1) ?_ ?_
  ·rintro i zs H2 hi ⟨s2,e2,lk,rfl,nd,lt,ll⟩ C hC;rw[Int.zero_add];refine⟨dS.1,dS.2,_,rfl,a,ns,1,1,rfl,rfl,(s1.trans s2).seq hS,h63,by decide,fun H3 s3=>?_⟩;refine⟨_,_,rfl,rfl,(by decide:(0:Int) < 1000003),zl9 7,fun L7 hL7=>?_⟩;have s4:=aG hL7 (.lst [.int 1,.int 2,.int 4,.int 8,.int 16,.int 32,.int 64]);have e4:upd H3 L7 (.lst [.int 1,.int 2,.int 4,.int 8,.int 16,.int 32,.int 64]) L7=some (.lst [.int 1,.int 2,.int 4,.int 8,.int 16,.int 32,.int 64]):=aB;generalize upd H3 L7 (.lst [.int 1,.int 2,.int 4,.int 8,.int 16,.int 32,.int 64])=H4 at s4 e4 ⊢;obtain⟨w,ew,w1,w2⟩:=qo9 (by lia:i < 7);have s24:=s3.trans s4;refine⟨_,rfl,L7,_,_,_,rfl,rfl,SqL.of e4,ew,_,_,rfl,rfl,⟨by lia,10,(by show w.natAbs < 2 ^ 10;lia),by decide⟩,_,_,rfl,rfl,(by decide:(0:Int) < 2),rfl,_,rfl,?_⟩;refine qK (fun _=>?_) (fun _=>?_)
   ·have e24:=s24 _ _ e2;refine⟨_,rfl,e24,aZ (by rw[length_map];lia),hC _ _ ⟨(s2.trans s24).change hD,aB,lk++[i],by unfold nI;rw[map_append];rfl,?_,fun k hk=>?_,by rw[List.length_append];show _+1<=_;lia⟩⟩
    ·rw[nodup_append];exact⟨nd,by simp,fun x hx y hy=>by rw[mem_singleton.mp hy];have:=lt x hx;lia⟩
    ·rcases mem_append.mp hk with z | z
     ·have:=lt k z;lia
     ·rw[mem_singleton.mp z];lia
   ·exact hC _ _ ⟨s2.trans s24,s24 _ _ e2,lk,rfl,nd,fun k hk=>by have:=lt k hk;lia,by lia⟩
  ·rintro zs H2 ⟨s2,e2,lk,rfl,nd,lt,ll⟩;exact hX _ _ ⟨s2,D,lk,rfl,e2,nd,lt⟩
 rintro σ2 H2 ⟨s2,Lk,lk,rfl,eL,nd,lt⟩;refine vK (fun σ' H'=>aW H2 H'/\∃(T:Addr) (ts:List V),σ'=[some (.ref a),some (.int (m:Int)),some (.ref R),some (.ref Lk),some (.ref T),none,none,none,none,none,none,none,none]/\H2 T=none/\H' T=some (.lst ts)/\Rts K H' ts ((oS lk (m - 1)).map (rwA rs))) (fun X hX=>?_) ?_
 ·refine⟨_,rfl,_,_,rfl,rfl,_,rfl,by lia,by lia,fun D hD=>?_⟩;have sD:=aG hD (.lst []);rw[show ((m:Int) - 1).toNat=m - 1 by lia];refine iH (n:=m - 1) (fun i zs H'=>aW H2 H'/\H' D=some (.lst zs)/\Rts K H' zs ((oS lk i).map (rwA rs))) ⟨sD,aB,.nil⟩ (fun i zs H' h=>h.2.1) ?_ ?_
  ·rintro i zs H3 hi ⟨s3,e3,hZ⟩ C hC;have lz:=hZ.length;rw[length_map] at lz;have:=Eu lk i;rw[Int.zero_add];refine⟨dS.1,dS.2,_,rfl,_,rfl,Lk,_,rfl,.inl (SqL.of (s3 _ _ eL)),rfl,tU _,?_⟩;rw[Ea];refine⟨_,rfl,?_⟩
   by_cases c:i∈lk
   ·refine L2.ifF (by simp[c]) ?_;exact hC _ _ ⟨s3,e3,by rw[Iv c];exact hZ⟩
   ·refine L2.ifT (by simp[c]) ?_;obtain⟨t,z,et,hT,fz⟩:=hR.at (Dq (by lia:i < rs.length));have s13:=s2.trans s3;refine⟨_,rfl,_,rfl,R,us,_,_,rfl,rfl,SqL.of (s13 _ _ eR),bY et,e3,aZ (by lia),hC _ _ ⟨s3.change hD,aB,?_⟩⟩;rw[Ck c,map_append];exact Rts.upd e3 (hZ.app (.cons (s13.seqT hT) (s13.fq fz) .nil))
  ·rintro zs H3 ⟨s3,e3,hZ⟩;exact hX _ _ ⟨s3,D,zs,rfl,hD,e3,hZ⟩
 rintro σ3 H3 ⟨s3,T,ts0,rfl,nT,eT0,hT0⟩;have t0:Tl m rs (oS lk (m - 1)) _:=Tl.start (by lia) hm8 tr (Ws lk (m - 1)) (fun k h=>Wv h);have kl:=Eu lk (m - 1);generalize hk0:oS lk (m - 1)=ks at t0 hT0 kl;refine vK (fun σ' H'=>aW H2 H'/\∃(ts:List V) (ds:List RD) (z5 z6 z7:Option V),σ'=[some (.ref a),some (.int (m:Int)),some (.ref R),some (.ref Lk),some (.ref T),z5,z6,z7,none,none,none,none,none]/\H' T=some (.lst ts)/\Rts K H' ts ds/\Tl m rs ks ds) (fun X hX=>?_) ?_
 ·refine⟨_,rfl,a,ns,2,2,rfl,rfl,(s1.trans (s2.trans s3)).seq hS,h63,by decide,fun H4 s4=>?_⟩;generalize Be ns 2=c0;have c1:=Int.emod_nonneg c0 (by decide:(5:Int)≠0);have c2:=Int.emod_lt_of_pos c0 (by decide:(0:Int) < 5);obtain⟨np,hnp⟩:∃np:Nat,1+c0 % 5=(np:Int):=⟨(1+c0 % 5).toNat,by lia⟩
  refine⟨_,_,rfl,rfl,(by decide:(0:Int) < 5),_,_,rfl,rfl,_,rfl,by lia,by lia,?_⟩;rw[hnp,show ((np:Int)).toNat=np by lia];refine iD (lo:=0) (n:=np) (fun i σ H'=>aW H2 H'/\∃(ts:List V) (ds:List RD) (z5 z6 z7:Option V),σ=[some (.ref a),some (.int (m:Int)),some (.ref R),some (.ref Lk),some (.ref T),z5,z6,z7,none,none,none,none,none]/\H' T=some (.lst ts)/\Rts K H' ts ds/\Tl m rs ks ds/\ds.length=ks.length+i) ⟨s3.trans s4,ts0,_,none,none,none,rfl,s4 _ _ eT0,hT0.same s4,t0,by rw[length_map];rfl⟩ ?_ ?_
  ·rintro i σ H5 hi ⟨s5,ts,ds,z5,z6,z7,rfl,eT,hT,tl,dl⟩;have lt':=hT.length;rw[show (0:Int)+(i:Int)=(i:Int) by lia];refine⟨_,rfl,_,rfl,_,_,rfl,rfl,a,ns,_,11+i,rfl,by lia,(s1.trans (s2.trans s5)).seq hS,h63,by lia,fun H6 s6=>?_⟩;generalize Be ns (11+i)=c;refine⟨_,rfl,_,rfl,_,_,rfl,rfl,(by lia:(m:Int)≠0),_,rfl,_,_,rfl,rfl,Or.inr ⟨by decide,by decide⟩,_,_,rfl,rfl,(by decide:(0:Int) < 10037),_,rfl,_,_,rfl,rfl,(by lia:(m:Int)≠0),_,rfl,c,false,rfl,fun p hp bp f0 H7 s7 e7=>?_⟩;have f7:Fq K H7 f0 p:=Fq.of e7;have hu2:0<=Int.fmod c (m:Int)/\Int.fmod c (m:Int) < (m:Int):=⟨Int.fmod_nonneg_of_pos _ (by lia:0 < (m:Int)),Int.fmod_lt_of_pos _ (by lia:0 < (m:Int))⟩
   have hv2:0<=Int.fmod (c*40692 % 10037) (m:Int)/\Int.fmod (c*40692 % 10037) (m:Int) < (m:Int):=⟨Int.fmod_nonneg_of_pos _ (by lia:0 < (m:Int)),Int.fmod_lt_of_pos _ (by lia:0 < (m:Int))⟩
   refine⟨zl9 4,fun t ht=>?_⟩;have s8:=aG ht (.tup [.str "push",.int (Int.fmod c (m:Int)),.int (Int.fmod (c*40692 % 10037) (m:Int)),.ref f0]);have e8:upd H7 t (.tup [.str "push",.int (Int.fmod c (m:Int)),.int (Int.fmod (c*40692 % 10037) (m:Int)),.ref f0]) t=some (.tup [.str "push",.int (Int.fmod c (m:Int)),.int (Int.fmod (c*40692 % 10037) (m:Int)),.ref f0]):=aB;generalize upd H7 t (.tup [.str "push",.int (Int.fmod c (m:Int)),.int (Int.fmod (c*40692 % 10037) (m:Int)),.ref f0])=H8 at s8 e8 ⊢;have s58:=s6.trans (s7.trans s8);have eT8:=s58 _ _ eT;obtain⟨y,hy,hyl⟩:=Ov (c*16807 % 10039) ts.length;refine⟨_,rfl,.inl ⟨rfl,_,SqL.of eT8⟩,_,rfl,_,_,rfl,rfl,Or.inr ⟨by decide,by decide⟩,_,_,rfl,rfl,(by decide:(0:Int) < 10039),_,rfl,T,ts,rfl,.inl (SqL.of eT8),_,_,rfl,rfl,_,_,rfl,rfl,(by lia:(0:Int) < (ts.length:Int)+1),_,rfl,T,ts,y,_,.ref t,rfl,rfl,hy,hyl,eT8,aZ (by have:=tl.l12;lia),?_⟩;refine⟨(s5.trans s58).change nT,ts.take y++.ref t :: ts.drop y,ds.take y++(.pu,Int.fmod c (m:Int),Int.fmod (c*40692 % 10037) (m:Int),p) :: ds.drop y,_,_,_,rfl,aB,?_,tl.ins y rfl ⟨⟨hu2.1,hu2.2,hv2.1,hv2.2⟩,hp,bp⟩ (by lia),by rw[List.length_append,length_cons,length_take,length_drop];lia⟩;exact Rts.upd eT8 ((Rts.take y (hT.same s58)).app (.cons (k:=.pu) (SqT.of e8) (s8.fq f7) (Rts.drop y (hT.same s58))))
  ·rintro σ H5 ⟨s5,ts,ds,z5,z6,z7,rfl,eT,hT,tl,dl⟩;exact hX _ _ ⟨s5,ts,ds,z5,z6,z7,rfl,eT,hT,tl⟩
 rintro σ4 H4 ⟨s4,ts,ds,z5,z6,z7,rfl,eT,hT,tl⟩;have s14:=s2.trans s4;have s04:=s1.trans s14;have eR4:=s14 _ _ eR;have hR4:=hR.same s14;have eL4:=s4 _ _ eL;refine vK (fun σ' H'=>aW H4 H'/\∃(n l:Addr),σ'=[some (.ref a),some (.int (m:Int)),some (.ref R),some (.ref Lk),some (.ref T),z5,z6,z7,some (.ref n),none,none,none,none]/\H4 l=none/\dE CN K H' n l (m:Int) ds) (fun X hX=>?_) ?_
 ·refine⟨_,rfl,_,rfl,(m:Int),T,ts,ds,rfl,by lia,by lia,SqL.of eT,hT,tl.rd,by have:=tl.l12;lia,fun n l H5 s5 nl N5=>?_⟩;exact hX _ _ ⟨s5,n,l,rfl,nl,N5⟩
 rintro σ5 H5 ⟨s5,n,l,rfl,nl,N5⟩;refine Sc (fun σ' H'=>aW H5 H'/\∃(d:Addr) (kvs:List (Key × V)) (z5:Option V),σ'=[some (.ref a),some (.int (m:Int)),some (.ref R),some (.ref Lk),some (.ref T),z5,z6,z7,some (.ref n),some (.ref d),none,none,none]/\H5 d=none/\H' d=some (.dK kvs)/\DJ kvs (jF rs ks)/\kvs.length<=7) (fun X hX=>?_) ?_
 ·intro d hd;have s6:=aG hd (.dK []);have e6:upd H5 d (.dK []) d=some (.dK []):=aB;generalize upd H5 d (.dK [])=H6 at s6 e6 ⊢;refine⟨_,rfl,_,_,rfl,rfl,_,rfl,by lia,by lia,?_⟩;rw[show ((m:Int) - 1).toNat=m - 1 by lia];refine iD (lo:=0) (n:=m - 1) (fun i σ H'=>aW H5 H'/\∃(kvs:List (Key × V)) (z5:Option V),σ=[some (.ref a),some (.int (m:Int)),some (.ref R),some (.ref Lk),some (.ref T),z5,z6,z7,some (.ref n),some (.ref d),none,none,none]/\H' d=some (.dK kvs)/\DJ kvs (jF rs (oS lk i))/\kvs.length<=i) ⟨s6,[],z5,rfl,e6,?_,Nat.le_refl _⟩ ?_ ?_
  ·intro p
   cases p with
   |zero=>rfl
   |succ k=>rw[Kq (by simp[oS])];rfl
  ·rintro i σ H7 hi ⟨s7,kvs,y5,rfl,e7,dj,kl7⟩;rw[show (0:Int)+(i:Int)=(i:Int) by lia];have s47:=s5.trans s7;refine⟨_,rfl,_,rfl,Lk,_,rfl,.inl (SqL.of (s47 _ _ eL4)),rfl,tU _,?_⟩;rw[Ea];refine⟨_,rfl,?_⟩
   by_cases c:i∈lk
   ·refine L2.ifF (by simp[c]) ⟨s7,kvs,_,rfl,e7,by rw[Iv c];exact dj,by lia⟩
   ·refine L2.ifT (by simp[c]) ?_;obtain⟨t,z,et,hTt,fz⟩:=hR4.at (Dq (by lia:i < rs.length));have hTt:=s47.seqT hTt;refine⟨_,rfl,_,rfl,R,us,_,_,rfl,rfl,SqL.of (s47 _ _ eR4),bY et,t,_,_,_,rfl,rfl,hTt,rfl,?_⟩;refine⟨_,rfl,_,rfl,R,us,_,_,rfl,rfl,SqL.of (s47 _ _ eR4),bY et,t,_,_,_,rfl,rfl,hTt,rfl,_,_,rfl,?_⟩;rw[Ij (tr i hi)];refine⟨_,rfl,_,rfl,_,_,rfl,rfl,d,_,rfl,Ho.k (k:=.inl ((i+1:Nat):Int)) e7 (aZ (by lia)),?_⟩;refine⟨s7.change hd,_,_,rfl,aB,by rw[Ck c];exact dj.put,Nat.le_trans (iL ..) (by lia)⟩
  ·rintro σ H7 ⟨s7,kvs,y5,rfl,e7,dj,kl7⟩;exact hX _ _ ⟨s7,d,kvs,y5,rfl,hd,e7,by rw[<- hk0];exact dj,by lia⟩
 rintro σ6 H6 ⟨s6,d,kvs,y5,rfl,nd6,e6,dj,kl6⟩;have ksn:∀k∈lk,k∉ks:=fun k hk z=>by
  rw[<- hk0] at z;exact of_decide_eq_true (mem_filter.mp z).2 hk
 have nTl:T≠l:=fun z=>by rw[z,nl] at eT;cases eT
 have nd4:H4 d=none:=s5.free nd6;refine vK (fun σ' H'=>aW H4 H'/\∃(T:Addr) (ts:List V) (ds:List RD) (z5 z10:Option V),σ'=[some (.ref a),some (.int (m:Int)),some (.ref R),some (.ref Lk),some (.ref T),z5,z6,z7,some (.ref n),some (.ref d),z10,none,none]/\T≠l/\H' T=some (.lst ts)/\Rts K H' ts ds/\Tl m rs (ks++lk) ds/\dE CN K H' n l (m:Int) ds) (fun X hX=>?_) ?_
 ·refine⟨_,rfl,Lk,rfl,⟨_,SqL.of ((s5.trans s6) _ _ eL4)⟩,?_⟩;refine gC (xs:=nI lk) (fun j σ H'=>aW H4 H'/\∃(T:Addr) (ts:List V) (ds:List RD) (kvs:List (Key × V)) (z5 z10:Option V),σ=[some (.ref a),some (.int (m:Int)),some (.ref R),some (.ref Lk),some (.ref T),z5,z6,z7,some (.ref n),some (.ref d),z10,none,none]/\T≠l/\H' T=some (.lst ts)/\Rts K H' ts ds/\Tl m rs (ks++lk.take j) ds/\dE CN K H' n l (m:Int) ds/\H' d=some (.dK kvs)/\DJ kvs (jF rs (ks++lk.take j))/\kvs.length<=7+j) ⟨s5.trans s6,T,ts,ds,kvs,_,_,rfl,nTl,(s5.trans s6) _ _ eT,hT.same (s5.trans s6),by rw[take_zero,append_nil];exact tl,N5.same s6,e6,by rw[take_zero,append_nil];exact dj,by assumption⟩ (fun i σ H' _ h=>h.1.seq (SqL.of eL4)) ?_ ?_
  ·rintro j x σ H7 hx ⟨s7,T,ts,ds,kvs,y5,y10,rfl,nTl,eT,hT,tl,N7,e7,dj,kl7⟩;rw[getElem?_map] at hx;obtain⟨k,hk,rfl⟩:=Option.map_eq_some_iff.mp hx;have jl:j < lk.length:=(List.getElem?_eq_some_iff.mp hk).1;have kk:k∈lk:=mem_of_getElem? hk;have km:=lt k kk;have l7:lk.length<=7:=by have:=zG nd lt;lia
   have kn:k∉ks++lk.take j:=fun z=>by
    rcases mem_append.mp z with z | z
    ·exact ksn k kk z
    ·obtain⟨i,hi,e⟩:=mem_take_iff_getElem.mp z;have e2:lk[j]=k:=by have:=(List.getElem?_eq_some_iff.mp hk).2;exact this
     exact pairwise_iff_getElem.mp nd i j (by lia) jl (by lia) (e.trans e2.symm)
   have tk:lk.take (j+1)=lk.take j++[k]:=by rw[take_add_one,hk];rfl
   have hz:∀d∈ds,Low d.2.2.2/\Bd 30 d.2.2.2:=fun d hd=>⟨(tl.lo d hd).1,(tl.lo d hd).2.mono (by decide)⟩
   have l12:=tl.l12;have lts:=hT.length;have fl:=tl.flt;have fn:=tl.lack km kn;have fl100:(iZ m ds).length<=100:=by rw[fl];have:=Pi (jF rs (ks++lk.take j)) m;lia
   show gJ _ (gJ _ (gJ _ (gJ _ (gJ _ _)))) _ [some (.ref a),some (.int (m:Int)),some (.ref R),some (.ref Lk),some (.ref T),some (.int (k:Int)),z6,z7,some (.ref n),some (.ref d),y10,none,none] H7
   refine qk5 (fun σ' H'=>aW H7 H'/\∃p:Addr,σ'=[some (.ref a),some (.int (m:Int)),some (.ref R),some (.ref Lk),some (.ref T),some (.int (k:Int)),z6,z7,some (.ref n),some (.ref d),some (.ref p),none,none]) (fun X hX=>?_) ?_
   ·refine⟨_,rfl,n,l,m,ds,rfl,N7,tl.pt,by lia,by lia,by lia,hz,tl.rg,fn,fl100,fun p H8 s8 np ep=>?_⟩;refine⟨_,rfl,_,rfl,_,rfl,m,d,kvs,_,rfl,s8 _ _ e7,dj,by lia,by lia,fun q1 H9 s9 nq eq=>?_⟩;rw[<- fl] at eq;refine Ot (SqL.of (s9 _ _ ep)) (SqL.of eq) ⟨_,rfl,dC ?_⟩;have s79:=s8.trans s9;obtain⟨dn,hn⟩:=(N7.same s79).ob;refine⟨_,rfl,n,dn,_,rfl,hn,fP _ _ (by decide +kernel) (by decide +kernel),n,l,_,ds,rfl,N7.same s79,fun bL tB HA sA nb eb hRb=>?_⟩;have s7A:=s79.trans sA;refine⟨_,rfl,Sf (SqL.of eb) (SqL.of (s7A _ _ eT)) hRb (hT.same s7A) ⟨_,rfl,dC ?_⟩⟩;have epA:=(s9.trans sA) _ _ ep;refine⟨_,rfl,.inl ⟨rfl,_,SqL.of epA⟩,p,_,_,rfl,rfl,epA,aZ (by rw[length_map];lia),?_⟩;have s7B:aW H7 (upd HA p (.lst ((iZ m ds).map V.int++[.int 0]))):=s7A.change np;generalize upd HA p (.lst ((iZ m ds).map V.int++[.int 0]))=HB at s7B ⊢;refine⟨_,rfl,n,l,m,ds,rfl,N7.same s7B,tl.pt,by lia,by lia,by lia,hz,tl.rg,fn,fl100,fun p2 HC sC np2 ep2=>?_⟩;refine⟨_,rfl,_,rfl,m,d,kvs,_,rfl,(s7B.trans sC) _ _ e7,dj,by lia,by lia,fun q2 HD sD nq2 eq2=>?_⟩;rw[<- fl] at eq2;refine Ot (SqL.of (sD _ _ ep2)) (SqL.of eq2) ⟨_,rfl,dC (hX _ _ ⟨s7B.trans (sC.trans sD),p,rfl⟩)⟩
   rintro σD HD ⟨s7D,p,rfl⟩;have s4D:=s7.trans s7D;obtain⟨t,z,et,hTt,fz⟩:=hR4.at (Dq (by lia:k < rs.length));have tk1:=tr k km;obtain⟨dn2,hn2⟩:=(N7.same s7D).ob;have rdk:Cp (m:Int) (rwA rs k):=by
    obtain⟨o,ok,en⟩:=tk1.en;refine⟨?_,?_,?_,?_,tk1.lo,fun h=>(tk1.ps h).pos,tk1.bd.mono (by decide)⟩<;>(rcases en with ⟨x,y⟩ | ⟨x,y⟩<;>lia)
   refine⟨_,rfl,n,dn2,_,rfl,hn2,fP _ _ (by decide +kernel) (by decide +kernel),_,rfl,_,rfl,R,us,_,_,rfl,rfl,SqL.of (s4D _ _ eR4),bY et,t,_,_,_,_,rfl,s4D.seqT hTt,(rwA rs k).1,rfl,fun y HE sE ny rw'=>?_⟩;refine⟨n,l,y,z,(m:Int),ds,_,_,_,_,rfl,(N7.same s7D).same sE,rw',(s4D.trans sE).fq fz,rdk,by lia,fun HF xF NF=>?_⟩;have s7E:=s7D.trans sE;obtain⟨as,hl7,_⟩:=(N7.same s7E).ls;have s4F:aW H4 HF:=fun b o e=>xF b o ((s7.trans s7E) b o e) (aX e nl);have eTF:HF T=some (.lst ts):=xF _ _ (s7E _ _ eT) nTl;have hTF:Rts K HF ts ds:=cV.rts hl7 xF (hT.same s7E);have edF:HF d=some (.dK kvs):=xF _ _ (s7E _ _ e7) (fun z=>by rw[z] at e7;obtain⟨as,h,_⟩:=N7.ls;rw[h] at e7;cases e7);refine⟨_,rfl,_,rfl,_,rfl,R,us,_,_,rfl,rfl,SqL.of (s4F _ _ eR4),bY et,zl9 1,fun L1 hL1=>?_⟩;have sG:=aG hL1 (.lst [.ref t]);have eG:upd HF L1 (.lst [.ref t]) L1=some (.lst [.ref t]):=aB;generalize upd HF L1 (.lst [.ref t])=HG at sG eG ⊢;refine⟨T,L1,_,_,rfl,rfl,sG _ _ eTF,eG,Nat.le_of_lt (aZ (by simp only[length_cons,length_nil];lia)),fun T2 hT2=>?_⟩;have sI:=aG hT2 (.lst (ts++[.ref t]));have eI:upd HG T2 (.lst (ts++[.ref t])) T2=some (.lst (ts++[.ref t])):=aB;generalize upd HG T2 (.lst (ts++[.ref t]))=HI at sI eI ⊢;have sFI:=sG.trans sI;have s4I:=s4F.trans sFI;refine⟨_,rfl,_,rfl,R,us,_,_,rfl,rfl,SqL.of (s4I _ _ eR4),bY et,t,_,_,_,rfl,rfl,s4I.seqT hTt,rfl,?_⟩;refine⟨_,rfl,_,rfl,R,us,_,_,rfl,rfl,SqL.of (s4I _ _ eR4),bY et,t,_,_,_,rfl,rfl,s4I.seqT hTt,rfl,_,_,rfl,?_⟩;rw[Ij tk1];have edI:=sFI _ _ edF;refine⟨_,rfl,_,rfl,_,_,rfl,rfl,d,_,rfl,Ho.k (k:=.inl ((k+1:Nat):Int)) edI (aZ (by lia)),?_⟩;have hRI:Rts K HI (ts++[.ref t]) (ds++[rwA rs k]):=(hTF.same sFI).app (.cons (s4I.seqT hTt) (s4I.fq fz) .nil);have NI:=NF.same sFI;have nT2d:T2≠d:=fun z=>by rw[z,edI] at eI;cases eI
   obtain⟨as2,hlF,_⟩:=NF.ls;have nT2l:T2≠l:=(aX (sG _ _ hlF) hT2).symm;refine⟨s4I.change nd4,T2,_,ds++[rwA rs k],_,_,_,rfl,nT2l,by rw[aL nT2d];exact eI,Rts.updD edI hRI,?_,dE.updD edI NI,aB,?_,Nat.le_trans (iL ..) (by lia)⟩
   ·rw[tk,<- List.append_assoc];exact tl.more km kn
   ·rw[tk,<- List.append_assoc];exact dj.put
  ·rintro σ H7 ⟨s7,T,ts,ds,kvs,y5,y10,rfl,nTl,eT,hT,tl,N7,e7,dj,kl7⟩;refine hX _ _ ⟨s7,T,ts,ds,y5,y10,rfl,nTl,eT,hT,?_,N7⟩;rw[show (nI lk).length=lk.length from length_map ..,take_length] at tl;exact tl
 rintro σ7 H7 ⟨s7,T,ts,ds,y5,y10,rfl,nTl,eT,hT,tl,N7⟩;have s7:=s7;have hz:∀d∈ds,Low d.2.2.2/\Bd 30 d.2.2.2:=fun d hd=>⟨(tl.lo d hd).1,(tl.lo d hd).2.mono (by decide)⟩
 have al:∀k,k < m - 1->k∈ks++lk:=fun k hk=>by
  by_cases c:k∈lk
  ·exact mem_append_right _ c
  ·refine mem_append_left _ ?_;rw[<- hk0];exact mem_filter.mpr ⟨mem_range.mpr hk,decide_eq_true c⟩
 have l12:=tl.l12;have hh:=tl.hds;have no:=tl.nof al;obtain⟨eb,er⟩:=tl.eqb al;refine vK (fun σ' H'=>aW H7 H'/\∃(x:Addr) (ps:List Q2),σ'=[some (.ref a),some (.int (m:Int)),some (.ref R),some (.ref Lk),some (.ref T),y5,z6,z7,some (.ref n),some (.ref d),y10,some (.ref x),none]/\vU CA K H' x (lvS m ps) (tF (lvS m ps) (ps.drop (m - 1)) 0 ds)/\(lvS m ps).length=m) (fun X hX=>?_) ?_
 ·refine⟨_,rfl,fun x dx h1 h2 ne=>⟨x,dx,n,l,m,ds,rfl,aB,N7.same (Js h1 h2),tl.pt,by lia,by lia,by lia,hz,⟨fun c r e=>absurd (tl.rg.symm.trans e) (by simp),fun _ e=>absurd (Vf no) e⟩,fun _ _=>?_⟩⟩;refine⟨60,fun _=>4,LT ds,⟨N7.same (Js h1 h2),fun i e he=>⟨tl.rd e (mem_of_getElem? he),(tl.lo e (mem_of_getElem? he)).2⟩,by lia,by lia,by rw[wJ];lia,eb⟩,by show (60+5)*(m - 1+cC ds+1)+8<=3900;lia,er,fun ps H8 sx an pl lo ov sv=>⟨rfl,?_⟩⟩;obtain⟨dx2,li,le,fo,xs,ys,a1,a2,a3,a4,a5,_⟩:=an.e;exact hX _ _ ⟨Nk h1 h2 sx,x,ps,rfl,⟨dx2,li,le,fo,xs,ys,a1,SqL.of a2,a3,SqL.of a4,a5⟩,Vp (by lia) (by rw[pl];show m - 1<=m - 1+cC ds;lia)⟩
 rintro σ8 H8 ⟨s8,x,ps,rfl,an,ll⟩;have eT8:=s8 _ _ eT;have hT8:=hT.same s8;have lts:=hT.length;have fll:=uI (lvS m ps) (ps.drop (m - 1)) ds 0;refine vK (fun σ' H'=>aW H8 H'/\∃(D:Addr) (zs:List V),σ'=[some (.ref a),some (.int (m:Int)),some (.ref R),some (.ref Lk),some (.ref T),y5,z6,z7,some (.ref n),some (.ref d),y10,some (.ref x),some (.ref D)]/\H' D=some (.lst zs)/\Fqs K H' zs (psF ds)) (fun X hX=>?_) ?_
 ·obtain⟨dx2,li,le,fo,xs,ys,a1,_⟩:=an.e;refine⟨_,rfl,_,rfl,x,dx2,_,rfl,a1,wC _ _ _ (by decide +kernel) (by decide +kernel) (by decide +kernel),x,_,_,rfl,an,fun l2 fs H9 s9 nl2 e9 F9=>?_⟩;have lfs:=F9.length;refine⟨T,l2,rfl,⟨_,SqL.of (s9 _ _ eT8)⟩,⟨_,SqL.of e9⟩,fun D hD=>?_⟩;have sD:=aG hD (.lst []);refine vZ (xs:=ts) (ys:=fs) (fun i zs H'=>aW H9 H'/\H' D=some (.lst zs)/\Fqs K H' zs (psF (ds.take i))) ⟨sD,aB,.nil⟩ (fun i zs H' h=>h.2.1) (fun i zs H' _ h=>⟨(s9.trans h.1).seq (SqL.of eT8),h.1.seq (SqL.of e9)⟩) ?_ ?_
  ·rintro i zs x y H1 T1 ex ey ⟨s1,e1,hZ⟩ hT1 C hC;have hi:i < ds.length:=by have:=(List.getElem?_eq_some_iff.mp ex).1;lia
   have hd:ds[i]?=some ds[i]:=getElem?_eq_getElem hi;generalize ds[i]=dd at hd;obtain⟨t,z,et,ht,fz⟩:=(hT8.same (s9.trans s1)).at hd;obtain rfl:x=.ref t:=by rw[et] at ex;exact(Option.some.inj ex).symm
   obtain⟨v,p,rfl,ep,fv⟩:=F9.get ey;have sT:=aG hT1 (.tup [.ref t,.ref v]);have lz:=hZ.length;have:=Kk (ds.take i);have lt':(ds.take i).length<=ds.length:=by rw[length_take];lia
   have ht2:ds.take (i+1)=ds.take i++[dd]:=by rw[take_add_one,hd];rfl
   refine⟨T1,_,rfl,SqT.of aB,rfl,_,_,rfl,_,_,rfl,rfl,jX.1,jX.2,?_⟩;refine⟨_,rfl,t,_,_,_,rfl,rfl,sT.seqT ht,rfl,rfl,_,rfl,?_⟩;have e2:=sT _ _ e1;refine qK (fun c=>?_) (fun c=>?_)
   ·rw[Jt dd.1] at c;have c:=of_decide_eq_true c;have:=Qk hd c ep;subst this;refine⟨_,rfl,e2,aZ (by lia),hC _ _ ⟨(s1.trans sT).change hD,aB,?_⟩⟩;rw[ht2,pI,if_pos c];exact Fqs.upd e2 ((hZ.same sT).app (.cons (sT.fq (s1.fq fv)) .nil))
   ·have c:dd.1≠.pu:=fun z=>c (by rw[Jt dd.1];exact decide_eq_true z);refine hC _ _ ⟨s1.trans sT,e2,?_⟩;rw[ht2,pI,if_neg c];exact hZ.same sT
  ·rintro zs H1 ⟨s1,e1,hZ⟩;rw[show min ts.length fs.length=ds.length by lia,take_length] at hZ;exact hX _ _ ⟨s9.trans s1,D,zs,rfl,e1,hZ⟩
 rintro σ9 H9 ⟨s9,Dp,zp,rfl,e9,F9⟩;refine⟨_,rfl,_,rfl,T,rfl,⟨_,SqL.of (s9 _ _ eT8)⟩,fun D hD=>?_⟩;have sD:=aG hD (.lst []);refine fC (xs:=ts) (fun i zs H'=>aW H9 H'/\H' D=some (.lst zs)/\Fqs K H' zs (psF (ds.take i))) ⟨sD,aB,.nil⟩ (fun i zs H' h=>h.2.1) (fun i zs H' _ h=>(s9.trans h.1).seq (SqL.of eT8)) ?_ ?_
 ·rintro i zs x H1 ex ⟨s1,e1,hZ⟩ C hC;have hi:i < ds.length:=by have:=(List.getElem?_eq_some_iff.mp ex).1;lia
  have hd:ds[i]?=some ds[i]:=getElem?_eq_getElem hi;generalize ds[i]=dd at hd;obtain⟨t,z,et,ht,fz⟩:=(hT8.same (s9.trans s1)).at hd;obtain rfl:x=.ref t:=by rw[et] at ex;exact(Option.some.inj ex).symm
  have lz:=hZ.length;have:=Kk (ds.take i);have lt':(ds.take i).length<=ds.length:=by rw[length_take];lia
  have ht2:ds.take (i+1)=ds.take i++[dd]:=by rw[take_add_one,hd];rfl
  refine⟨dS.1,dS.2,?_⟩;refine⟨_,rfl,t,_,_,_,rfl,rfl,ht,rfl,rfl,_,rfl,?_⟩;refine qK (fun c=>?_) (fun c=>?_)
  ·rw[Jt dd.1] at c;have c:=of_decide_eq_true c;refine⟨_,rfl,t,_,_,_,rfl,rfl,ht,rfl,e1,aZ (by lia),hC _ _ ⟨s1.change hD,aB,?_⟩⟩;rw[ht2,pI,if_pos c];exact Fqs.upd e1 (hZ.app (.cons fz .nil))
  ·have c:dd.1≠.pu:=fun z=>c (by rw[Jt dd.1];exact decide_eq_true z);refine hC _ _ ⟨s1,e1,?_⟩;rw[ht2,pI,if_neg c];exact hZ
 ·rintro zs H1 ⟨s1,e1,hZ⟩;rw[lts,take_length] at hZ;refine Yi (SqL.of (s1 _ _ e9)) (SqL.of e1) (F9.same s1) hZ ⟨_,rfl,fH ?_⟩;refine⟨_,rfl,_,rfl,x,lvS m ps,_,(show [V.ref x,.int (m:Int)]=[.ref x,.int ((lvS m ps).length:Int)] by rw[ll]),an.same (s9.trans s1),by lia,by lia,fun H2 s2=>?_⟩;exact q _ (s04.trans (s7.trans (s8.trans (s9.trans (s1.trans s2)))))
def skB (n:Nat)(bs:List Bool):List Sk:=(List.range n).map fun k=>if bs.getD k false then (.ho,(k+1) % n,k) else (.ho,k,(k+1) % n)
def wyB (b:Bool):Int:=if b then -1 else 1
def iX (n:Nat)(bs:List Bool):List Stp:=
 let last:=bs.getD (n - 1) false
 let r:=(List.range (n - 1)).map fun k=>(k,wyB (bs.getD k false)*wyB last)
 (n - 1,1) :: (if last then r.reverse else r)
def bls:Nat->List (List Bool)
 |0=>[[]]
 |n+1=>(bls n).flatMap fun l=>[false :: l,true :: l]
theorem Ks:∀bs:List Bool,bs∈bls bs.length
 | []=>by simp[bls]
 |b :: r=>by
  have:=Ks r;show b :: r∈(bls r.length).flatMap _;rw[mem_flatMap];exact⟨r,this,by cases b<;>simp⟩
def okB (n:Nat):Bool:=(bls n).all fun bs=>decide ((eU (fun k=>decide (k=.ho)) (skB n bs) n).2=[(n - 1,iX n bs)])
theorem ok1:okB 1=true:=by decide +kernel
theorem ok2:okB 2=true:=by decide +kernel
theorem ok3:okB 3=true:=by decide +kernel
theorem ok4:okB 4=true:=by decide +kernel
theorem ok5:okB 5=true:=by decide +kernel
theorem ok6:okB 6=true:=by decide +kernel
theorem qd1:wHo=fun k=>decide (k=.ho):=by
 funext k
 cases k
 ·exact by decide +kernel
 ·exact by decide +kernel
 ·exact by decide +kernel
theorem Te (n1:1<=n)(n6:n<=6)(hb:bs.length=n):(eU wHo (skB n bs) n).2=[(n - 1,iX n bs)]:=by
 have h:okB n=true:=by
  have:n=1\/n=2\/n=3\/n=4\/n=5\/n=6:=by lia
  rcases this with rfl | rfl | rfl | rfl | rfl | rfl
  ·exact ok1
  ·exact ok2
  ·exact ok3
  ·exact ok4
  ·exact ok5
  ·exact ok6
 rw[qd1];have m:=Ks bs;rw[hb] at m;exact of_decide_eq_true (all_eq_true.mp h bs m)
theorem Ek (l r:List Rat):iS (l++r)=iS l+iS r:=by
 induction l with
 |nil=>show iS r=0+iS r;grind
 |cons a l ih=>show a+iS (l++r)=a+iS l+iS r;rw[ih];grind
theorem Qs (l:List Rat):iS l.reverse=iS l:=by
 induction l with
 |nil=>rfl
 |cons a l ih=>
  rw[reverse_cons,Ek,ih];show iS l+(a+0)=a+iS l;grind
def sR (ds:List RD)(bs:List Bool)(k:Nat):Rat:=iS ((List.range k).map fun j=>(wyB (bs.getD j false):Rat)*Mq.val (rwA ds j).2.2.2)
theorem Ko (ds:List RD)(bs:List Bool)(k:Nat):sR ds bs (k+1)=sR ds bs k+(wyB (bs.getD k false):Rat)*Mq.val (rwA ds k).2.2.2:=by
 unfold sR;rw[range_succ,map_append,Ek];show _+(_+0)=_;grind
theorem qb4 (b:Bool):(wyB b:Rat)*(wyB b:Rat)=1:=by
 rw[<- Rat.intCast_mul,show wyB b*wyB b=1 by cases b<;>decide];rfl
theorem Dm (h:1<=(rwA ds s.1).2.2.2.2):Mq.val (dW ds s)=(s.2:Rat)*Mq.val (rwA ds s.1).2.2.2:=by
 unfold dW;have r:1<=(red s.2 1).2:=(gK (by decide)).pos;rw[Mq.Lp r h,iY (by decide)];have:(s.2:Rat) / ((1:Int):Rat)=(s.2:Rat):=by rw[show ((1:Int):Rat)=1 by rfl];grind
 rw[this]
theorem Nd (n1:1<=n)(hl:∀k,k < n->1<=(rwA ds k).2.2.2.2):iS (((iX n bs).map (dW ds)).map Mq.val)=(wyB (bs.getD (n - 1) false):Rat)*sR ds bs n:=by
 have body:∀l:List Nat,(∀k∈l,k < n)->iS (((l.map fun k=>((k,wyB (bs.getD k false)*wyB (bs.getD (n - 1) false)):Stp)).map (dW ds)).map Mq.val)=(wyB (bs.getD (n - 1) false):Rat)*iS (l.map fun j=>(wyB (bs.getD j false):Rat)*Mq.val (rwA ds j).2.2.2):=fun l=>by
  induction l with
  |nil=>intro _;show (0:Rat)=_*0;grind
  |cons a l ih=>
   intro h;show Mq.val (dW ds (a,_))+iS _=_*(_+iS _)
   rw[ih fun k hk=>h k (mem_cons_of_mem _ hk),Dm (hl a (h a (by simp)))];show ((wyB (bs.getD a false)*wyB (bs.getD (n - 1) false):Int):Rat)*_+_=_;rw[Rat.intCast_mul];grind
 unfold iX;dsimp only;have e:iS ((((if bs.getD (n - 1) false=true then ((List.range (n - 1)).map fun k=>((k,wyB (bs.getD k false)*wyB (bs.getD (n - 1) false)):Stp)).reverse else (List.range (n - 1)).map fun k=>(k,wyB (bs.getD k false)*wyB (bs.getD (n - 1) false)))).map (dW ds)).map Mq.val)=(wyB (bs.getD (n - 1) false):Rat)*sR ds bs (n - 1):=by
  have b:=body (List.range (n - 1)) fun k hk=>by have:=mem_range.mp hk;lia
  split
  ·rw[map_reverse,map_reverse,Qs];exact b
  ·exact b
 rw[map_cons,map_cons];show Mq.val (dW ds (n - 1,1))+iS _=_;rw[e,Dm (hl (n - 1) (by lia))];obtain⟨k,rfl⟩:∃k,n=k+1:=⟨n - 1,by lia⟩
 rw[Ko,Nat.add_sub_cancel];have q:=qb4 (bs.getD k false);show ((1:Int):Rat)*_+_=_;rw[show ((1:Int):Rat)=1 by rfl];grind
theorem Pl {top bottom:Int}(n1:1<=n)(hl:∀k,k < n->1<=(rwA ds k).2.2.2.2)(pos:Mq.Pos ((iX n bs).map (dW ds)))(b1:1<=bottom)(e:(top:Rat) / (bottom:Rat)=sR ds bs n):tot ((iX n bs).map (dW ds))=red (wyB (bs.getD (n - 1) false)*top) bottom:=by
 refine Mq.Xi (Kl pos) (gK (by lia)) ?_;rw[Mq.Ut pos,Nd n1 hl,iY (by lia),<- e,Rat.intCast_mul];have:=pS b1;grind
def rgR (n k:Nat)(b:Bool)(p:Q2):RD:=if b then (.ho,(((k+1) % n:Nat):Int),(k:Int),p) else (.ho,(k:Int),(((k+1) % n:Nat):Int),p)
structure RgI (n i:Nat) (bs:List Bool) (ds:List RD) (top bottom:Int):Prop where
 bl:bs.length=i
 dl:ds.length=i
 rw:∀k,k < i->∃p,rwA ds k=rgR n k (bs.getD k false) p/\Low p/\Bd 30 p
 b1:1<=bottom
 va:(top:Rat) / (bottom:Rat)=sR ds bs i
 ti:i < n->Mq.B (5*i+1) top/\Mq.B (4*i+1) bottom
 t60:Mq.B 60 top/\Mq.B 60 bottom
theorem RgI.zero (n:Nat):RgI n 0 [] [] 0 1:=by
 refine⟨rfl,rfl,fun k h=>absurd h (by lia),by decide,?_,fun _=>⟨(by decide:(0:Int).natAbs < 2 ^ 1),(by decide:(1:Int).natAbs < 2 ^ 1)⟩,(by decide:(0:Int).natAbs < 2 ^ 60),(by decide:(1:Int).natAbs < 2 ^ 60)⟩;show ((0:Int):Rat) / ((1:Int):Rat)=0;rw[show ((0:Int):Rat)=0 by rfl,Rat.div_def];grind
theorem nA {α:Type}{l r:List α}{x:α}(h:k < l.length):(l++r).getD k x=l.getD k x:=by
 rw[getD_eq_getElem?_getD,getD_eq_getElem?_getD,getElem?_append_left h]
theorem Cy {α:Type}{l:List α}{y x:α}:(l++[y]).getD l.length x=y:=by
 rw[getD_eq_getElem?_getD,getElem?_append_right (Nat.le_refl _),Nat.sub_self];rfl
theorem Oi (h:∀k,k < i->rwA ds k=rwA es k/\bs.getD k false=cs.getD k false):sR ds bs i=sR es cs i:=by
 unfold sR;congr 1;refine map_congr_left fun k hk=>?_;obtain⟨a,b⟩:=h k (mem_range.mp hk);rw[a,b]
theorem RgI.step {top bottom:Int}(h:RgI n i bs ds top bottom)(i6:i < 6)(hi:i < n)(lo:Low p)(bd:Bd 30 p)(sm:i+1 < n->Bd 4 p):
  RgI n (i+1) (bs++[b]) (ds++[rgR n i b p]) (top*p.2+wyB b*p.1*bottom) (bottom*p.2):=by
 have bl:=h.bl;have dl:=h.dl;have b1:=h.b1;have p1:=lo.pos;have eb:(bs++[b]).getD i false=b:=by rw[<- bl];exact Cy
 have ed:rwA (ds++[rgR n i b p]) i=rgR n i b p:=by unfold rwA;rw[<- dl];exact Cy
 have vp:(rgR n i b p).2.2.2=p:=by unfold rgR;cases b<;>rfl
 have wab:(wyB b).natAbs=1:=by cases b<;>rfl
 have bnd:∀{x y:Nat} {u:Nat},Mq.B x top->Mq.B y bottom->Bd u p->y<=x->Mq.B (x+u+1) (top*p.2+wyB b*p.1*bottom)/\Mq.B (y+u) (bottom*p.2):=fun {x y u} hx hy hu le=>by
  have hx:top.natAbs < 2 ^ x:=hx;have hy:bottom.natAbs < 2 ^ y:=hy;have ha:p.1.natAbs < 2 ^ u:=hu.a;have hb:p.2.natAbs < 2 ^ u:=hu.b;have m1:top.natAbs*p.2.natAbs < 2 ^ (x+u):=by rw[Nat.pow_add];exact Nat.mul_lt_mul'' hx hb
  have m2:p.1.natAbs*bottom.natAbs < 2 ^ (u+y):=by rw[Nat.pow_add];exact Nat.mul_lt_mul'' ha hy
  have m3:bottom.natAbs*p.2.natAbs < 2 ^ (y+u):=by rw[Nat.pow_add];exact Nat.mul_lt_mul'' hy hb
  have m4:2 ^ (u+y)<=2 ^ (x+u):=Nat.pow_le_pow_right (by decide) (by lia);constructor
  ·show (top*p.2+wyB b*p.1*bottom).natAbs < 2 ^ (x+u+1);have t:=Int.natAbs_add_le (top*p.2) (wyB b*p.1*bottom);rw[Int.natAbs_mul,Int.natAbs_mul,Int.natAbs_mul,wab,Nat.one_mul] at t;rw[Nat.pow_succ];lia
  ·show (bottom*p.2).natAbs < 2 ^ (y+u);rw[Int.natAbs_mul];exact m3
 obtain⟨t1,t2⟩:=h.ti hi;refine⟨by rw[List.length_append,bl];rfl,by rw[List.length_append,dl];rfl,fun k hk=>?_,?_,?_,fun hn=>?_,?_⟩
 ·by_cases c:k < i
  ·obtain⟨q,e,l,m⟩:=h.rw k c;refine⟨q,?_,l,m⟩;rw[nA (by lia)];unfold rwA;rw[nA (by lia)];exact e
  ·obtain rfl:k=i:=by lia
   exact⟨p,by rw[eb,ed],lo,bd⟩
 ·have:=Int.mul_pos (by assumption:0 < bottom) (by assumption:0 < p.2);assumption
 ·rw[Ko,eb,ed,vp,Oi (es:=ds) (cs:=bs) fun k hk=>⟨by unfold rwA;exact nA (by lia),nA (by lia)⟩,<- h.va];have n1:=pS b1;have n2:=pS p1;unfold Mq.val;rw[Rat.intCast_add,Rat.intCast_mul,Rat.intCast_mul,Rat.intCast_mul,Rat.intCast_mul];grind
 ·obtain⟨a,c⟩:=bnd t1 t2 (sm hn) (by lia);exact⟨a.mono (by lia),c.mono (by lia)⟩
 ·obtain⟨a,c⟩:=bnd t1 t2 bd (by lia);exact⟨a.mono (by lia),c.mono (by lia)⟩
theorem RgI.skl {top bottom:Int}(h:RgI n n bs ds top bottom):skl ds=skB n bs:=by
 have dl:=h.dl;unfold L2.skl skB;refine ext_getElem? fun k=>?_;rw[getElem?_map,getElem?_map]
 by_cases c:k < n
 ·obtain⟨p,e,_⟩:=h.rw k c;rw[Dq (by lia:k < ds.length),e,getElem?_range c];show some ((rgR n k (bs.getD k false) p).1,(rgR n k (bs.getD k false) p).2.1.toNat,(rgR n k (bs.getD k false) p).2.2.1.toNat)=some (if bs.getD k false=true then (Kd.ho,(k+1) % n,k) else (Kd.ho,k,(k+1) % n));generalize bs.getD k false=b;unfold rgR
  cases b<;>rfl
 ·rw[getElem?_eq_none (by lia),getElem?_eq_none (by rw[length_range];lia)];rfl
theorem RgI.rg {top bottom:Int}(h:RgI n n bs ds top bottom)(n1:1<=n)(n6:n<=6):rgH ds=[(n - 1,iX n bs)]:=by
 show (eU wHo (L2.skl ds) ds.length).2=_;rw[h.skl,h.dl];exact Te n1 n6 h.bl
section
variable {n:Nat} {bs:List Bool} {ds:List RD} {top bottom:Int}
theorem RgI.mem (h:RgI n n bs ds top bottom)(hd:d∈ds):∃k b p,d=rgR n k b p/\k < n/\Low p/\Bd 30 p:=by
 obtain⟨k,hk,e⟩:=getElem_of_mem hd;have dl:=h.dl;obtain⟨p,ep,lo,bd⟩:=h.rw k (by lia);have:=Dq hk;rw[getElem?_eq_getElem hk,e] at this;exact⟨k,_,p,(Option.some.inj this).trans ep,by lia,lo,bd⟩
theorem RgI.pt (h:RgI n n bs ds top bottom)(nM:n<=M):∀d∈ds,cX (M:Int) d.2.1 d.2.2.1:=fun d hd=>by
 obtain⟨k,b,p,rfl,hk,_⟩:=h.mem hd;have:=Nat.mod_lt (k+1) (by lia:n > 0);unfold rgR
 cases b
 ·exact⟨(by lia:(0:Int)<=(k:Int)),(by lia:(k:Int) < (M:Int)),(show (0:Int)<=(((k+1) % n:Nat):Int) by lia),(show (((k+1) % n:Nat):Int) < (M:Int) by lia)⟩
 ·exact⟨(show (0:Int)<=(((k+1) % n:Nat):Int) by lia),(show (((k+1) % n:Nat):Int) < (M:Int) by lia),(by lia:(0:Int)<=(k:Int)),(by lia:(k:Int) < (M:Int))⟩
theorem Gj (n k:Nat)(b:Bool)(p:Q2):(rgR n k b p).2.2.2=p/\(rgR n k b p).1=.ho:=by unfold rgR;cases b<;>exact⟨rfl,rfl⟩
theorem RgI.hz (h:RgI n n bs ds top bottom):∀d∈ds,Low d.2.2.2/\Bd 30 d.2.2.2:=fun d hd=>by
 obtain⟨k,b,p,rfl,hk,lo,bd⟩:=h.mem hd;rw[(Gj n k b p).1];exact⟨lo,bd⟩
theorem RgI.rd (h:RgI n n bs ds top bottom)(nM:n<=M):∀d∈ds,Cp (M:Int) d:=fun d hd=>by
 obtain⟨a,b,c,e⟩:=h.pt nM d hd;obtain⟨lo,bd⟩:=h.hz d hd;refine⟨a,b,c,e,lo,fun k=>?_,bd.mono (by decide)⟩;obtain⟨k',b,p,rfl,_⟩:=h.mem hd;rw[(Gj _ _ _ _).2] at k;cases k
theorem Yp (n1:1<=n):∀s∈iX n bs,s.1 < n/\(s.2=1\/s.2=-1):=fun s hs=>by
 have key:∀s∈(List.range (n - 1)).map fun k=>((k,wyB (bs.getD k false)*wyB (bs.getD (n - 1) false)):Stp),s.1 < n/\(s.2=1\/s.2=-1):=fun s hs=>by
  obtain⟨k,hk,rfl⟩:=mem_map.mp hs;have:=mem_range.mp hk;refine⟨(by lia:k < n),?_⟩;show wyB (bs.getD k false)*wyB (bs.getD (n - 1) false)=1\/wyB (bs.getD k false)*wyB (bs.getD (n - 1) false)=-1
  cases bs.getD k false<;>cases bs.getD (n - 1) false<;>decide
 unfold iX at hs;dsimp only at hs;rcases mem_cons.mp hs with rfl | hs
 ·exact⟨(by lia:n - 1 < n),.inl rfl⟩
 ·split at hs
  ·exact key s (mem_reverse.mp hs)
  ·exact key s hs
theorem Id (n1:1<=n):(iX n bs).length=n:=by
 unfold iX;dsimp only;rw[length_cons];split
 ·rw[length_reverse,length_map,length_range];lia
 ·rw[length_map,length_range];lia
theorem RgI.tot (h:RgI n n bs ds top bottom)(n1:1<=n):tot ((iX n bs).map (dW ds))=red (wyB (bs.getD (n - 1) false)*top) bottom:=by
 refine Pl n1 (fun k hk=>?_) (xX h.hz fun s hs=>?_) h.b1 h.va
 ·obtain⟨p,e,lo,_⟩:=h.rw k hk;rw[e,(Gj _ _ _ _).1];exact lo.pos
 ·rw[h.dl];exact Yp n1 s hs
theorem RgI.tb (h:RgI n n bs ds top bottom)(b:Bool):Mq.B 60 (wyB b*top):=by
 have:=h.t60.1;have t:top.natAbs < 2 ^ 60:=this;show (wyB b*top).natAbs < 2 ^ 60;rw[Int.natAbs_mul,show (wyB b).natAbs=1 by cases b<;>rfl,Nat.one_mul];exact t
theorem RgI.tbd (h:RgI n n bs ds top bottom)(b:Bool):Low (red (wyB b*top) bottom)/\Bd 1000 (red (wyB b*top) bottom):=by
 have b1:=h.b1;have le:=kT (t:=wyB b*top) (by lia:bottom≠0);exact⟨gK (by lia),(show Bd 60 _ from ⟨(h.tb b).le le.1,h.t60.2.le le.2⟩).mono (by decide)⟩
end
def stD (s:Stp):PyData:=.tuple [.int (s.1:Int),.int s.2]
theorem pO:∀{xs:List V} {st:List Stp},Sts K H xs st->pG K H xs (st.map stD)
 |_,_,.nil=>.nil
 |_,_,.cons h q=>.cons (.tup h (.cons (.int _) (.cons (.int _) .nil))) (pO q)
theorem zQ:∀st:List Stp,PyData.canLayAll0 (st.map stD)=true
 | []=>rfl
 |s :: r=>by
  show ((stD s).canLay0 && PyData.canLayAll0 (r.map stD))=true;rw[zQ r];rfl
theorem rN:∀st:List Stp,PyData.depthAll (st.map stD)<=3
 | []=>by simp[PyData.depthAll]
 |s :: r=>by
  have b:=rN r;have a:(stD s).depth<=3:=by simp[stD,PyData.depth,PyData.depthAll]
  simp only[map_cons,PyData.depthAll];lia
theorem Vl (h1:SqL K H a xs)(h2:SqL K H b ys)(f1:Sts K H xs st)(f2:Sts K H ys st)(z:Q (.bl (!neg)) H):xH K neg (.ref a) (.ref b) H Q:=
 Bu (d:=.list (st.map stD)) (.lst h1 (pO f1)) (.lst h2 (pO f2)) (zQ st) (by have:=rN st;simp only[PyData.depth];lia) z
theorem Ts (t1:SqT K H t [.ref a,.ref c])(t2:SqT K H u [.ref b,.ref d])(h1:SqL K H a xs)(h2:SqL K H b ys)(f1:Sts K H xs st)(f2:Sts K H ys st)(p1:Fq K H c p)(p2:Fq K H d p)(z:Q (.bl true) H):xH K false (.ref t) (.ref u) H Q:=by
 refine Bu (d:=.tuple [.list (st.map stD),qd p]) (.tup t1 (.cons (.lst h1 (pO f1)) (.cons p1.dat .nil))) (.tup t2 (.cons (.lst h2 (pO f2)) (.cons p2.dat .nil))) ?_ ?_ z
 ·have a':PyData.canLay0 (.list (st.map stD))=true:=zQ st;show (PyData.canLay0 (.list (st.map stD)) && (PyData.canLay0 (qd p) && true))=true;rw[a',Bi p];rfl
 ·have:=rN st;have:=vW p;simp only[PyData.depth,PyData.depthAll] at *
  lia
theorem qc0 (h1:Fq K H a p)(h2:Fq K H b p)(z:Q (.bl false) H):xH K true (.ref a) (.ref b) H Q:=by
 refine qc7 h1 h2 ?_;show Q (.bl (!decide (p=p))) H;rw[decide_eq_true rfl];exact z
theorem Sts.rev:∀{xs:List V} {st:List Stp},Sts K H xs st->Sts K H xs.reverse st.reverse
 |_,_,.nil=>.nil
 |_,_,.cons h q=>by rw[reverse_cons,reverse_cons];exact(Sts.rev q).app (.cons h .nil)
theorem Ql {bs:List Bool}(n1:1<=n)(bl:bs.length=n):atI (bs.map fun b=>V.int (wyB b)) (-1)=some (.int (wyB (bs.getD (n - 1) false))):=by
 unfold atI ixN;rw[length_map,bl,if_neg (by decide),if_pos (by lia)];show (bs.map fun b=>V.int (wyB b))[(-1+(n:Int)).toNat]?=_;rw[show (-1+(n:Int)).toNat=n - 1 by lia,getElem?_map,getD_eq_getElem?_getD,getElem?_eq_getElem (by lia:n - 1 < bs.length)];rfl
theorem ql0 {bs:List Bool}(h:k < bs.length):atI (bs.map fun b=>V.int (wyB b)) (k:Int)=some (.int (wyB (bs.getD k false))):=by
 refine bY ?_;rw[getElem?_map,getD_eq_getElem?_getD,getElem?_eq_getElem h];rfl
theorem Ua (x:V)(xs:List V):qW (x :: xs) none (some 1)=[x]:=by
 unfold qW;have h1:HT.sIx (x :: xs).length 0 none=0:=rfl;have h2:HT.sIx (x :: xs).length (x :: xs).length (some 1)=1:=by simp[HT.sIx]
 rw[h1,h2];rfl
theorem xD:(["_law_k","_law_way","_law_last"]:List Str).Nodup:=by decide +kernel
theorem lP:(["_law_number","_law_turn"]:List Str).Nodup:=by decide +kernel
def qg6 (K:Frag):Sp:=fun vs H Q _=>∃(a:Addr) (ns:List Int),vs=[.ref a]/\SqL K H a (ns.map V.int)/\ns.length<=63/\∀H',aW H H'->Q (.bl true) H'
theorem Xq (c:Int):∃b:Bool,(1 - 2*(c % 2)=wyB b)/\(c % 2=if b then 1 else 0):=by
 have a:=Int.emod_nonneg c (by decide:(2:Int)≠0);have d:=Int.emod_lt_of_pos c (by decide:(0:Int) < 2);have:c % 2=0\/c % 2=1:=by lia
 rcases this with z | z
 ·exact⟨false,by rw[z];rfl,by rw[z];rfl⟩
 ·exact⟨true,by rw[z];rfl,by rw[z];rfl⟩
theorem Pk {i n:Nat}(h:0 < n):Int.fmod ((i:Int)+1) (n:Int)=(((i+1) % n:Nat):Int):=by
 rw[Int.fmod_eq_emod_of_nonneg _ (by lia)];exact_mod_cast rfl
abbrev sRg:Stmt:=top 90
theorem kD:aQ ["_law_script","_law_many","_law_top","_law_bottom","_law_rows","_law_way","_law_k","_law_cell","_law_size_here","_law_sign","_law_ends","_law_net_here","_law_found","_law_last","_law_due_here","_law_kinds","_law_again"] ["_law_script"] (aH sRg):=sK9
theorem qk4 (F:aY K "_law_ringed" "_law_ringed" sRg dV f fd)(mr:mg "range"=none)(ma:mg "all"=none)(NTx:NT K mg CN)(GTo:aK P w K mg base CX0 4 gTo gdTo ["self"] (Ac CN K))(bTo:aM K gdTo ["self"] [])(mTo:gQ K CN "told" gTo)(G1:D9 P w K mg base 1 g1 gd1 ["_law_script","_law_k"] (wW K) "_law_nth")(G2:D9 P w K mg base 3 g2 gd2 ["_law_cell","_law_far"] pF "_law_amount")(G3:D9 P w K mg base 2 g3 gd3 ["_law_top","_law_bottom"] qX "_law_lowest")(G4:D9 P w K mg base 6 g4 gd4 ["_law_many","_law_rows"] (As CN K) "_law_net")(G5:D9 P w K mg base 10 g5 gd5 ["_law_net_here"] (mZ CN K) "_law_ring_told")(G6:D9 P w K mg base 1 g6 gd6 ["_law_found"] Bw "_law_an_int"):
  aK P w K mg base CX 11 f fd ["_law_script"] (qg6 K):=by
 refine F.ok9 kD fun cdv A outer s H vs Q E hr h=>?_;obtain⟨a,ns,rfl,hS,h63,q⟩:=h;have r1:=hr.mono (by decide:1<=10);have r3:=hr.mono (by decide:3<=10);have r4:=hr.mono (by decide:4<=10);have r6:=hr.mono (by decide:6<=10);have hu:=hr.units;refine⟨_,(aC (aS (i:=1) kD.nd rfl (Or.inl rfl) (aP dL aE (aP cT (d9 G1 r1 rfl (aA (pv 0) (aA aE aD))) aE)))
  (aC (aS (i:=2) kD.nd rfl (Or.inl rfl) aE)
  (aC (aS (i:=3) kD.nd rfl (Or.inl rfl) aE)
  (aC (aS (i:=4) kD.nd rfl (Or.inl rfl) (dG aD))
  (aC (aS (i:=5) kD.nd rfl (Or.inr rfl) (dG aD))
  (aC (fK PassesOwn.never rfl (fR rfl mr (aA (pv 1) aD)) (bH (i:=6) kD.nd rfl (Or.inl rfl))
   (aC (aS (i:=7) kD.nd rfl (Or.inl rfl) (d9 G1 r1 rfl (aA (pv 0) (aA (aP dL aE (pv 6)) aD))))
  (aC (aS (i:=8) kD.nd rfl (Or.inl rfl) (d9 G2 r3 rfl (aA (pv 7) (aA gN aD))))
  (aC (cH (PW.pt (rC (bK fZ (pv 6) (aP gR (pv 1) aE) (bO _)) (nY (bK fZ (aP cT (aP zT (pv 7) aE) aE) aE (bO _))))) (aF (aS (i:=8) kD.nd rfl (Or.inl rfl) (d9 G3 (hr.mono (by decide:2<=10)) rfl (aA (aP cP (aP gR aE (aP hG aE (aP gR aE (aP cT (pv 7) aE)))) (pv 2)) (aA (pv 3) aD))))) bM)
  (aC (aS (i:=9) kD.nd rfl (Or.inl rfl) (aP gR aE (aP hG aE (aP cT (pv 7) aE))))
  (aC (aS (i:=10) kD.nd rfl (Or.inl rfl) (aU bU (dG (aA (cU (aA (pv 6) (aA (aP kW (aP dL (pv 6) aE) (pv 1)) aD))) (aA (cU (aA (aP kW (aP dL (pv 6) aE) (pv 1)) (aA (pv 6) aD))) aD))) (aP cT (pv 7) aE) (fun _ _=>rfl)))
  (aC (bX (jW PySem.F.plainAttrs_list PySem.F.slot_list_append PySem.F.type_list_append dF (pv 4) (aA (aP nU (aP nU (cU (aA dD aD)) (pv 10)) (cU (aA (pv 8) aD))) aD)))
  (aC (bX (jW PySem.F.plainAttrs_list PySem.F.slot_list_append PySem.F.type_list_append dF (pv 5) (aA (pv 9) aD)))
  (aC (aS (i:=2) kD.nd rfl (Or.inl rfl) (aP dL (aP cP (pv 2) (aU bC (pv 8) aE (fun _ _=>rfl))) (aP cP (aP cP (pv 9) (aU bC (pv 8) aE (fun _ _=>rfl))) (pv 3))))
  (aF (aS (i:=3) kD.nd rfl (Or.inl rfl) (aP cP (pv 3) (aU bC (pv 8) aE (fun _ _=>rfl))))))))))))))
  (aC (aS (i:=11) kD.nd rfl (Or.inl rfl) (d9 G4 r6 rfl (aA (aP dL (pv 1) (aP cT (aP zT (d9 G1 r1 rfl (aA (pv 0) (aA aE aD))) aE) aE)) (aA (pv 4) aD))))
  (aC (aS (i:=12) kD.nd rfl (Or.inl rfl) (d9 G5 hr rfl (aA (pv 11) aD)))
  (aC (cH (sM (zR (pv 12))) (aF (aV gN)) bM)
  (aC (aS (i:=13) kD.nd rfl (Or.inr rfl) (aU bU (pv 5) (wH oN aE) (fun _ _=>rfl)))
  (aC (aS (i:=14) kD.nd rfl (Or.inl rfl) (aP oV (dG (aA (cU (aA (aP gR (pv 1) aE) (aA aE aD))) aD)) (dQ (nl:=1) (fr:=[5,13]) (Nc:=["_law_k","_law_way","_law_last"]) (cl:=[("_law_way",s.heap.objs.size+1),("_law_last",s.heap.objs.size+2)]) rfl ⟨rfl,rfl,by decide +kernel,by decide +kernel,(dA rfl (dA rfl (jT))),dU rfl,rfl,fun i n h=>match i,h with | 0,h=>by cases h;exact⟨5,rfl,rfl,rfl,rfl,.inl rfl⟩ | 1,h=>by cases h;exact⟨13,rfl,rfl,rfl,rfl,.inl rfl⟩ | k+2,h=>by rw[show 1+(k+2)=k+3 by lia] at h;cases h⟩
    (fR rfl mr (aA (aP gR (pv 1) aE) aD)) (fun _ _ _ _ _=>(bH (i:=0) xD rfl (Or.inl rfl))) (fun _ _ _ _ _=>fL)
    (fun _ _ _ _ _=>(cU (aA (pv 0) (aA (aP cP (aU (kP (K:=K) rfl) (pv 1) (pv 0) (fun _ _=>rfl)) (pv 2)) aD)))))))
  (aC (cH (bK fZ (pv 13) (wH oN aE) (bO _)) (aF (aS (i:=14) kD.nd rfl (Or.inl rfl) (aP oV (iI jV (pv 14) kR (jB aE)) (Zg (iI jV (pv 14) (jB aE) kR) (wH oN aE))))) bM)
  (aC (aS (i:=15) kD.nd rfl (Or.inl rfl) (bV (vB rfl) rfl ma PyProof.Rows.boot_all (aA (dQ (nl:=2) (fr:=[]) (Nc:=["_law_number","_law_turn"]) (cl:=[]) (g:=(Ce K 2 (jR (iN 0) (jR (iN 1) Dz)))) rfl ⟨rfl,rfl,by decide +kernel,by decide +kernel,fun x c h=>(by cases h),dU rfl,rfl,fun i n h=>(by simp at h)⟩
    (cZ (aU bC (pv 12) aE (fun _ _=>rfl))) (fun _ _ _ _ _=>(mB rfl (dH (bH (i:=0) lP rfl (Or.inl rfl)) (dH (bH (i:=1) lP rfl (Or.inl rfl)) jU)))) (fun _ _ _ _ _=>fL)
    (fun _ _ _ _ _=>(iV (d9 G6 r1 rfl (aA (pv 0) aD)) (kA (d9 G6 r1 rfl (aA (pv 1) aD)))))) aD)))
  (aC (cH (PW.pt (iB (eJ (cO (pv 15))) (iB (bK (wO hu) (aU bC (pv 12) aE (fun _ _=>rfl)) (pv 14) (bO _)) (iC (bK (wO hu) (aU bC (pv 12) aE (fun _ _=>rfl)) (d9 G3 (hr.mono (by decide:2<=10)) rfl (aA (aP cP (pv 13) (pv 2)) (aA (pv 3) aD))) (bO _)))))) (aF (aV gN)) bM)
  (aC (bX (jW PySem.F.plainAttrs_list PySem.F.slot_list_append PySem.F.type_list_append dF (aU bC (pv 12) aE (fun _ _=>rfl)) (aA (cU (aA aE (aA aE aD))) aD)))
  (aC (aS (i:=16) kD.nd rfl (Or.inl rfl) (d9 G5 hr rfl (aA (pv 11) aD)))
  (aF (aV (iV (gP (Fc hu) (pv 16) (cU (aA (pv 14) (aA (aU bC (pv 12) aE (fun _ _=>rfl)) aD))) (bO _)) (kA (gP (Fc hu) (gH (pv 11) NTx.cl mTo GTo r4 bTo .nil aR) (pv 4) (bO _)))))))))))))))))))))),?_⟩
 refine qm5 (fun σ' H'=>aW H H'/\∃(n:Nat) (Rw Wy:Addr),σ'=[some (.ref a),some (.int (n:Int)),some (.int 0),some (.int 1),some (.ref Rw),some (.ref Wy),none,none,none,none,none,none,none,none,none,none,none]/\1<=n/\n<=6/\H Rw=none/\H Wy=none/\Rw≠Wy/\H' Rw=some (.lst [])/\H' Wy=some (.lst [])) (fun X hX=>?_) ?_
 ·refine⟨_,rfl,a,ns,16,16,rfl,rfl,hS,h63,by decide,fun H1 s1=>⟨_,_,rfl,rfl,(by decide:(0:Int) < 6),_,_,rfl,rfl,?_⟩⟩;generalize Be ns 16=c;have c0:=Int.emod_nonneg c (by decide:(6:Int)≠0);have c1:=Int.emod_lt_of_pos c (by decide:(0:Int) < 6);obtain⟨n,hn⟩:∃n:Nat,1+c % 6=(n:Int):=⟨(1+c % 6).toNat,by lia⟩
  refine⟨zl9 0,fun Rw hRw=>?_⟩;have s2:=aG hRw (.lst []);have e2:upd H1 Rw (.lst []) Rw=some (.lst []):=aB;generalize upd H1 Rw (.lst [])=H2 at s2 e2 ⊢;refine⟨zl9 0,fun Wy hWy=>?_⟩;have s3:=aG hWy (.lst []);refine hX _ _ ⟨s1.trans (s2.trans s3),n,Rw,Wy,by rw[<- hn];rfl,by lia,by lia,s1.free hRw,(s1.trans s2).free hWy,aX e2 hWy,s3 _ _ e2,aB⟩
 rintro σ1 H1 ⟨s1,n,Rw,Wy,rfl,n1,n6,nR,nW,nRW,eR,eW⟩;refine vK (fun σ' H'=>aW H H'/\∃(bs:List Bool) (ds:List RD) (us:List V) (top bottom:Int) (z6 z7 z8 z9 z10:Option V),σ'=[some (.ref a),some (.int (n:Int)),some (.int top),some (.int bottom),some (.ref Rw),some (.ref Wy),z6,z7,z8,z9,z10,none,none,none,none,none,none]/\H' Rw=some (.lst us)/\Rts K H' us ds/\H' Wy=some (.lst (bs.map fun b=>V.int (wyB b)))/\RgI n n bs ds top bottom) (fun X hX=>?_) ?_
 ·refine⟨_,rfl,_,rfl,by lia,by lia,?_⟩;rw[show ((n:Int)).toNat=n by lia];refine iD (lo:=0) (n:=n) (fun i σ H'=>aW H H'/\∃(bs:List Bool) (ds:List RD) (us:List V) (top bottom:Int) (z6 z7 z8 z9 z10:Option V),σ=[some (.ref a),some (.int (n:Int)),some (.int top),some (.int bottom),some (.ref Rw),some (.ref Wy),z6,z7,z8,z9,z10,none,none,none,none,none,none]/\H' Rw=some (.lst us)/\Rts K H' us ds/\H' Wy=some (.lst (bs.map fun b=>V.int (wyB b)))/\RgI n i bs ds top bottom) ⟨s1,[],[],[],0,1,none,none,none,none,none,rfl,eR,.nil,eW,RgI.zero n⟩ ?_ ?_
  ·rintro i σ H2 hi ⟨s2,bs,ds,us,top,bottom,z6,z7,z8,z9,z10,rfl,eR2,hR2,eW2,rg⟩;rw[show (0:Int)+(i:Int)=(i:Int) by lia];obtain⟨t1,t2⟩:=rg.ti hi;have b1:=rg.b1;show gJ _ (gJ _ (gJ _ _)) _ [some (.ref a),some (.int (n:Int)),some (.int top),some (.int bottom),some (.ref Rw),some (.ref Wy),some (.int (i:Int)),z7,z8,z9,z10,none,none,none,none,none,none] H2;refine qi2 (fun σ' H'=>aW H2 H'/\∃(c:Int) (f:Addr) (p:Q2),σ'=[some (.ref a),some (.int (n:Int)),some (.int top),some (.int bottom),some (.ref Rw),some (.ref Wy),some (.int (i:Int)),some (.int c),some (.ref f),z9,z10,none,none,none,none,none,none]/\Fq K H' f p/\Low p/\Bd 30 p/\(i+1 < n->Bd 4 p)) (fun X hX=>?_) ?_
   ·refine⟨_,rfl,_,rfl,_,_,rfl,rfl,a,ns,_,17+i,rfl,by lia,s2.seq hS,h63,by lia,fun H3 s3=>?_⟩;generalize Be ns (17+i)=c;refine⟨_,rfl,c,false,rfl,fun p hp bp f0 H4 s4 e4=>?_⟩;have f4:Fq K H4 f0 p:=Fq.of e4;have s24:=s3.trans s4;refine⟨_,rfl,_,rfl,_,_,rfl,rfl,rfl,_,rfl,qK (fun e=>?_) (fun e=>?_)⟩
    ·have ei:i+1=n:=by
      have:=of_decide_eq_true e;have:(i:Int)=(n:Int) - 1:=by injection this
      lia
     refine⟨_,rfl,_,_,rfl,rfl,⟨by decide,by decide⟩,_,_,rfl,rfl,(by decide:(0:Int) < 2),rfl,_,rfl,qK (fun _=>?_) (fun _=>?_)⟩
     ·obtain⟨b,hb1,hb2⟩:=Xq c;have tb:Mq.B 26 top:=t1.mono (by lia);have bb:Mq.B 30 bottom:=t2.mono (by lia);have bw:Mq.B 2 (1 - 2*(1 - c % 2)):=by
       show (1 - 2*(1 - c % 2)).natAbs < 2 ^ 2;lia
      have bt:Mq.B 30 ((1 - 2*(1 - c % 2))*top):=by
       have t26:top.natAbs < 2 ^ 26:=tb;have:(1 - 2*(1 - c % 2)).natAbs<=1:=by lia
       show ((1 - 2*(1 - c % 2))*top).natAbs < 2 ^ 30;rw[Int.natAbs_mul];have:=Nat.mul_le_mul_right top.natAbs this;lia
      have le:=kT (t:=(1 - 2*(1 - c % 2))*top) (by lia:bottom≠0);refine⟨_,rfl,_,_,rfl,rfl,(by decide:(0:Int) < 2),_,_,rfl,rfl,_,_,rfl,rfl,Or.inl ⟨by decide,by decide⟩,_,_,rfl,rfl,_,rfl,cQ (n:=2) (m:=26) bw tb (by decide) (by decide) ⟨_,rfl,_,bottom,30,rfl,by assumption,bb,by decide,fun f H5 s5 e5=>?_⟩⟩;exact hX _ _ ⟨s24.trans s5,c,f,_,rfl,Fq.of e5,gK (by lia),⟨bt.le le.1,bb.le le.2⟩,fun z=>absurd z (by lia)⟩
     ·exact hX _ _ ⟨s24,c,f0,p,rfl,f4,hp,bp.mono (by show 4<=30;decide),fun _=>bp⟩
    ·exact hX _ _ ⟨s24,c,f0,p,rfl,f4,hp,bp.mono (by show 4<=30;decide),fun _=>bp⟩
   rintro σ5 H5 ⟨s5,c,f,p,rfl,f5,lo,bd,sm⟩;obtain⟨b,hb1,hb2⟩:=Xq c;have s05:=s2.trans s5;have eR5:=s5 _ _ eR2;have eW5:=s5 _ _ eW2;have hR5:=hR2.same s5;have i6:i < 6:=by lia
   refine Sc (fun σ' H'=>aW H5 H'/\∃tt:Addr,σ'=[some (.ref a),some (.int (n:Int)),some (.int top),some (.int bottom),some (.ref Rw),some (.ref Wy),some (.int (i:Int)),some (.int c),some (.ref f),some (.int (wyB b)),some (.ref tt),none,none,none,none,none,none]/\H' tt=some (.tup [.int (rgR n i b p).2.1,.int (rgR n i b p).2.2.1])) (fun X hX=>?_) ?_
   ·refine⟨_,rfl,_,_,rfl,rfl,(by decide:(0:Int) < 2),_,_,rfl,rfl,Or.inl ⟨by decide,by decide⟩,_,_,rfl,rfl,?_⟩;refine⟨_,rfl,_,rfl,_,_,rfl,rfl,_,rfl,_,_,rfl,rfl,(by lia:(n:Int)≠0),zl9 2,fun t1 ht1=>?_⟩;have s6:=aG ht1 (.tup [.int (i:Int),.int (Int.fmod ((i:Int)+1) (n:Int))]);have e6:upd H5 t1 (.tup [.int (i:Int),.int (Int.fmod ((i:Int)+1) (n:Int))]) t1=some (.tup [.int (i:Int),.int (Int.fmod ((i:Int)+1) (n:Int))]):=aB;generalize upd H5 t1 (.tup [.int (i:Int),.int (Int.fmod ((i:Int)+1) (n:Int))])=H6 at s6 e6 ⊢;refine⟨_,rfl,_,_,rfl,rfl,_,rfl,_,_,rfl,rfl,(by lia:(n:Int)≠0),_,rfl,zl9 2,fun t2 ht2=>?_⟩;have s7:=aG ht2 (.tup [.int (Int.fmod ((i:Int)+1) (n:Int)),.int (i:Int)]);have e7:upd H6 t2 (.tup [.int (Int.fmod ((i:Int)+1) (n:Int)),.int (i:Int)]) t2=some (.tup [.int (Int.fmod ((i:Int)+1) (n:Int)),.int (i:Int)]):=aB;generalize upd H6 t2 (.tup [.int (Int.fmod ((i:Int)+1) (n:Int)),.int (i:Int)])=H7 at s7 e7 ⊢;refine⟨zl9 2,fun L hL=>?_⟩;have s8:=aG hL (.lst [.ref t1,.ref t2]);have e8:upd H7 L (.lst [.ref t1,.ref t2]) L=some (.lst [.ref t1,.ref t2]):=aB;generalize upd H7 L (.lst [.ref t1,.ref t2])=H8 at s8 e8 ⊢;rw[Pk n1] at e6 e7;have e68:=(s7.trans s8) _ _ e6;have e78:=s8 _ _ e7;obtain⟨tt,ett,ht⟩:∃(tt:Addr),atI [V.ref t1,.ref t2] (c % 2)=some (.ref tt)/\H8 tt=some (.tup [.int (rgR n i b p).2.1,.int (rgR n i b p).2.2.1]):=by
     rw[hb2]
     cases b
     ·exact⟨t1,rfl,e68⟩
     ·exact⟨t2,rfl,e78⟩
    refine⟨_,rfl,_,_,rfl,rfl,(by decide:(0:Int) < 2),L,_,_,_,rfl,rfl,SqL.of e8,ett,?_⟩;exact hX _ _ ⟨s6.trans (s7.trans s8),tt,by rw[<- hb1];rfl,ht⟩
   rintro σ6 H6 ⟨s6,tt,rfl,ht⟩;have lu:=hR5.length;have dl:=rg.dl;have bl:=rg.bl;refine Sc (fun σ' H'=>aW H H'/\σ'=[some (.ref a),some (.int (n:Int)),some (.int top),some (.int bottom),some (.ref Rw),some (.ref Wy),some (.int (i:Int)),some (.int c),some (.ref f),some (.int (wyB b)),some (.ref tt),none,none,none,none,none,none]/\(∃us':List V,H' Rw=some (.lst us')/\Rts K H' us' (ds++[rgR n i b p]))/\H' Wy=some (.lst ((bs++[b]).map fun b=>V.int (wyB b)))/\Fq K H' f p) (fun X hX=>?_) ?_
   ·refine⟨_,rfl,.inl ⟨rfl,_,SqL.of (s6 _ _ eR5)⟩,zl9 1,fun A1 hA1=>?_⟩;have s7:=aG hA1 (.tup [.str "hold"]);have e7:upd H6 A1 (.tup [.str "hold"]) A1=some (.tup [.str "hold"]):=aB;generalize upd H6 A1 (.tup [.str "hold"])=H7 at s7 e7 ⊢;have ht7:=s7 _ _ ht;refine⟨_,rfl,A1,tt,_,_,rfl,rfl,SqT.of e7,SqT.of ht7,(by simp),(zl9 3),(fun z=>by cases z),fun _ A2 hA2=>?_⟩;have s8:=aG hA2 (.tup ([.str "hold"]++[.int (rgR n i b p).2.1,.int (rgR n i b p).2.2.1]));have e8:upd H7 A2 (.tup ([.str "hold"]++[.int (rgR n i b p).2.1,.int (rgR n i b p).2.2.1])) A2=some (.tup ([.str "hold"]++[.int (rgR n i b p).2.1,.int (rgR n i b p).2.2.1])):=aB;generalize upd H7 A2 (.tup ([.str "hold"]++[.int (rgR n i b p).2.1,.int (rgR n i b p).2.2.1]))=H8 at s8 e8 ⊢;refine⟨_,rfl,zl9 1,fun A3 hA3=>?_⟩;have s9:=aG hA3 (.tup [.ref f]);have e9:upd H8 A3 (.tup [.ref f]) A3=some (.tup [.ref f]):=aB;generalize upd H8 A3 (.tup [.ref f])=H9 at s9 e9 ⊢;refine⟨A2,A3,_,_,rfl,rfl,SqT.of (s9 _ _ e8),SqT.of e9,(by simp),(zl9 4),(fun z=>by cases z),fun _ A4 hA4=>?_⟩;have sA:=aG hA4 (.tup ([.str "hold"]++[.int (rgR n i b p).2.1,.int (rgR n i b p).2.2.1]++[.ref f]));have eA:upd H9 A4 (.tup ([.str "hold"]++[.int (rgR n i b p).2.1,.int (rgR n i b p).2.2.1]++[.ref f])) A4=some (.tup ([.str "hold"]++[.int (rgR n i b p).2.1,.int (rgR n i b p).2.2.1]++[.ref f])):=aB;generalize upd H9 A4 (.tup ([.str "hold"]++[.int (rgR n i b p).2.1,.int (rgR n i b p).2.2.1]++[.ref f]))=HA at sA eA ⊢;have s5A:=s6.trans (s7.trans (s8.trans (s9.trans sA)));have eRA:=s5A _ _ eR5;have eWA:=s5A _ _ eW5;have fA:=s5A.fq f5;refine⟨Rw,_,_,rfl,rfl,eRA,aZ (by lia),?_⟩;have sB:aW H (upd HA Rw (.lst (us++[.ref A4]))):=(s05.trans s5A).change nR;have eRB:upd HA Rw (.lst (us++[.ref A4])) Rw=some (.lst (us++[.ref A4])):=aB;have eWB:upd HA Rw (.lst (us++[.ref A4])) Wy=some (.lst (bs.map fun b=>V.int (wyB b))):=by rw[aL (Ne.symm nRW)];exact eWA
    have er:rgR n i b p=(.ho,(rgR n i b p).2.1,(rgR n i b p).2.2.1,p):=by unfold rgR;cases b<;>rfl
    have hRB:Rts K (upd HA Rw (.lst (us++[.ref A4]))) (us++[.ref A4]) (ds++[rgR n i b p]):=by
     rw[er];exact Rts.upd eRA ((hR5.same s5A).app (.cons (k:=.ho) (SqT.of eA) fA .nil))
    have fB:Fq K (upd HA Rw (.lst (us++[.ref A4]))) f p:=SqT.upd fA eRA;generalize upd HA Rw (.lst (us++[.ref A4]))=HB at sB eRB eWB hRB fB ⊢;refine⟨_,rfl,.inl ⟨rfl,_,SqL.of eWB⟩,_,rfl,Wy,_,_,rfl,rfl,eWB,aZ (by rw[length_map];lia),?_⟩;exact hX _ _ ⟨sB.change nW,rfl,⟨_,by rw[aL nRW];exact eRB,Rts.upd eWB hRB⟩,by rw[map_append];exact aB,SqT.upd fB eWB⟩
   rintro σ7 H7 ⟨s7,rfl,⟨us',eR7,hR7⟩,eW7,f7⟩;obtain⟨_,_⟩:=rg.ti hi;have bp1:Mq.B 30 p.1:=bd.a;have bp2:Mq.B 30 p.2:=bd.b;have tb:Mq.B 26 top:=t1.mono (by lia);have bb:Mq.B 30 bottom:=t2.mono (by lia);have bw:Mq.B 2 (wyB b):=by cases b<;>(show Int.natAbs _ < 2 ^ 2;decide)
   have bwp:Mq.B 32 (wyB b*p.1):=bw.mul bp1;refine⟨_,rfl,cW rfl f7 (cQ tb bp2 (by decide) (by decide) ⟨_,rfl,fU rfl f7 (cQ bw bp1 (by decide) (by decide) ⟨_,rfl,cQ bwp bb (by decide) (by decide) ⟨_,_,rfl,rfl,?_⟩⟩)⟩)⟩;refine⟨_,rfl,cW rfl f7 (cQ bb bp2 (by decide) (by decide) ?_)⟩;exact⟨s7,bs++[b],ds++[rgR n i b p],us',_,_,_,_,_,_,_,rfl,eR7,hR7,eW7,rg.step i6 hi lo bd sm⟩
  ·rintro σ H2 ⟨s2,bs,ds,us,top,bottom,z6,z7,z8,z9,z10,rfl,eR2,hR2,eW2,rg⟩;exact hX _ _ ⟨s2,bs,ds,us,top,bottom,z6,z7,z8,z9,z10,rfl,eR2,hR2,eW2,rg⟩
 rintro σ2 H2 ⟨s2,bs,ds,us,top,bottom,z6,z7,z8,z9,z10,rfl,eR2,hR2,eW2,rg⟩;have dl:=rg.dl;have bl:=rg.bl;have b1:=rg.b1;have lu:=hR2.length;have eT:=rg.tot n1;have lT:Low (tot ((iX n bs).map (dW ds))):=by rw[eT];exact(rg.tbd _).1
 have bT:Bd 1000 (tot ((iX n bs).map (dW ds))):=by rw[eT];exact(rg.tbd _).2
 refine Sc (fun σ' H'=>aW H2 H'/\∃(nt l t g z:Addr) (M:Nat) (ws:List V) (H4:Hp),σ'=[some (.ref a),some (.int (n:Int)),some (.int top),some (.int bottom),some (.ref Rw),some (.ref Wy),z6,z7,z8,z9,z10,some (.ref nt),some (.ref t),none,none,none,none]/\n<=M/\M<=7/\dE CN K H4 nt l (M:Int) ds/\aW H2 H4/\aW H4 H'/\H4 g=none/\SqT K H' t [.ref g,.ref z]/\H' g=some (.lst ws)/\Sts K H' ws (iX n bs)/\Fq K H' z (red (wyB (bs.getD (n - 1) false)*top) bottom)) (fun X hX=>?_) ?_
 ·refine⟨_,rfl,_,rfl,a,ns,16,16,rfl,rfl,s2.seq hS,h63,by decide,fun H3 s3=>?_⟩;generalize Be ns 16=c;have c0:=Int.emod_nonneg (c / 6) (by decide:(2:Int)≠0);have c1:=Int.emod_lt_of_pos (c / 6) (by decide:(0:Int) < 2);obtain⟨M,hM⟩:∃M:Nat,(n:Int)+c / 6 % 2=(M:Int):=⟨((n:Int)+c / 6 % 2).toNat,by lia⟩
  refine⟨_,_,rfl,rfl,⟨by decide,by decide⟩,_,_,rfl,rfl,(by decide:(0:Int) < 2),_,_,rfl,rfl,_,rfl,(M:Int),Rw,us,ds,by rw[<- hM];rfl,by lia,by lia,SqL.of (s3 _ _ eR2),hR2.same s3,rg.rd (by lia),by lia,fun nt l H4 s4 nl N4=>?_⟩;refine⟨_,rfl,nt,l,M,ds,(n - 1,iX n bs),[],rfl,N4,rg.pt (by lia),by lia,by lia,by lia,rg.hz,rg.rg n1 n6,lT,bT,fun t g z ws H5 s5 ng hT eg St Fz=>?_⟩;have Fz:Fq K H5 z (tot ((iX n bs).map (dW ds))):=Fz;rw[eT] at Fz;exact hX _ _ ⟨s3.trans (s4.trans s5),nt,l,t,g,z,M,ws,H4,rfl,by lia,by lia,N4,s3.trans s4,s5,ng,hT,eg,St,Fz⟩
 rintro σ5 H5 ⟨s5,nt,l,t,g,z,M,ws,H4,rfl,nM,M7,N4,s24,s45,ng4,hT,eg,St,Fz⟩;have eW5:=s5 _ _ eW2;have bW:∀b,Mq.B 2 (wyB b):=fun b=>by cases b<;>(show Int.natAbs _ < 2 ^ 2;decide)
 refine qk5 (fun σ' H'=>aW H5 H'/\∃(P:Addr) (ys:List V),σ'=[some (.ref a),some (.int (n:Int)),some (.int top),some (.int bottom),some (.ref Rw),some (.ref Wy),z6,z7,z8,z9,z10,some (.ref nt),some (.ref t),some (.int (wyB (bs.getD (n - 1) false))),some (.ref P),none,none]/\H5 P=none/\H' P=some (.lst ys)/\Sts K H' ys (iX n bs)) (fun X hX=>?_) ?_
 ·refine⟨_,rfl,_,rfl,dC ?_⟩;refine⟨_,rfl,_,rfl,Wy,_,_,_,rfl,rfl,SqL.of eW5,Ql n1 bl,?_⟩;refine⟨_,rfl,_,_,rfl,rfl,zl9 2,fun t0 ht0=>?_⟩;have s6:=aG ht0 (.tup [.int ((n:Int) - 1),.int 1]);have e6:upd H5 t0 (.tup [.int ((n:Int) - 1),.int 1]) t0=some (.tup [.int ((n:Int) - 1),.int 1]):=aB;generalize upd H5 t0 (.tup [.int ((n:Int) - 1),.int 1])=H6 at s6 e6 ⊢;rw[show (n:Int) - 1=((n - 1:Nat):Int) by lia] at e6;refine⟨zl9 1,fun L0 hL0=>?_⟩;have s7:=aG hL0 (.lst [.ref t0]);have e7:upd H6 L0 (.lst [.ref t0]) L0=some (.lst [.ref t0]):=aB;generalize upd H6 L0 (.lst [.ref t0])=H7 at s7 e7 ⊢;refine⟨_,rfl,_,_,rfl,rfl,_,rfl,by lia,by lia,fun D hD=>?_⟩;have sD:=aG hD (.lst []);rw[show ((n:Int) - 1).toNat=n - 1 by lia];refine iH (n:=n - 1) (fun i zs H'=>aW H7 H'/\H' D=some (.lst zs)/\Sts K H' zs ((List.range i).map fun k=>((k,wyB (bs.getD k false)*wyB (bs.getD (n - 1) false)):Stp))) ⟨sD,aB,.nil⟩ (fun i zs H' h=>h.2.1) ?_ ?_
  ·rintro i zs H8 hi ⟨s8,e8,S8⟩ C hC;rw[Int.zero_add];have lz:=S8.length;rw[length_map,length_range] at lz;refine⟨dS.1,dS.2,fH ?_⟩;refine⟨_,rfl,_,rfl,_,rfl,Wy,_,_,_,rfl,rfl,SqL.of ((s6.trans (s7.trans s8)) _ _ eW5),ql0 (by lia),_,rfl,cQ (n:=2) (m:=2) (bW _) (bW _) (by decide) (by decide) ⟨zl9 2,fun t1 ht1=>?_⟩⟩;have s9:=aG ht1 (.tup [.int (i:Int),.int (wyB (bs.getD i false)*wyB (bs.getD (n - 1) false))]);have e9:upd H8 t1 (.tup [.int (i:Int),.int (wyB (bs.getD i false)*wyB (bs.getD (n - 1) false))]) t1=some (.tup [.int (i:Int),.int (wyB (bs.getD i false)*wyB (bs.getD (n - 1) false))]):=aB;generalize upd H8 t1 (.tup [.int (i:Int),.int (wyB (bs.getD i false)*wyB (bs.getD (n - 1) false))])=H9 at s9 e9 ⊢;have e89:=s9 _ _ e8;refine⟨e89,aZ (by lia),hC _ _ ⟨(s8.trans s9).change hD,aB,?_⟩⟩;rw[range_succ,map_append];exact Sts.upd e89 ((S8.same s9).app (.cons (SqT.of e9) .nil))
  ·rintro zs H8 ⟨s8,e8,S8⟩;have lz:=S8.length;rw[length_map,length_range] at lz;refine⟨L0,D,_,_,rfl,rfl,s8 _ _ e7,e8,Nat.le_of_lt (Nat.lt_of_succ_lt (aZ (by lia:1+zs.length < 1000))),fun P0 hP0=>?_⟩;have s9:=aG hP0 (.lst ([.ref t0]++zs));have e9:upd H8 P0 (.lst ([.ref t0]++zs)) P0=some (.lst ([.ref t0]++zs)):=aB;generalize upd H8 P0 (.lst ([.ref t0]++zs))=H9 at s9 e9 ⊢;have s59:=s6.trans (s7.trans (s8.trans s9));have T0:SqT K H9 t0 [.int ((n - 1:Nat):Int),.int 1]:=SqT.of ((s7.trans (s8.trans s9)) _ _ e6);have S9:=S8.same s9;refine⟨_,rfl,_,rfl,rfl,_,rfl,qK (fun e=>?_) (fun e=>?_)⟩
   ·have la:bs.getD (n - 1) false=true:=by
     cases h:bs.getD (n - 1) false with
     |true=>rfl
     |false=>rw[h] at e;exact absurd e (by decide)
    refine⟨_,rfl,1,rfl,P0,_,rfl,SqL.of e9,fun p1 hp1=>?_⟩;rw[singleton_append,Ua];have sA:=aG hp1 (.lst [V.ref t0]);have eA:upd H9 p1 (.lst [V.ref t0]) p1=some (.lst [V.ref t0]):=aB;generalize upd H9 p1 (.lst [V.ref t0])=HA at sA eA ⊢;refine⟨_,rfl,1,rfl,P0,_,rfl,SqL.of (sA _ _ e9),fun p2 hp2=>?_⟩;rw[Kp];have sB:=aG hp2 (.lst (([V.ref t0]++zs).drop 1));have eB:upd HA p2 (.lst (([V.ref t0]++zs).drop 1)) p2=some (.lst (([V.ref t0]++zs).drop 1)):=aB;generalize upd HA p2 (.lst (([V.ref t0]++zs).drop 1))=HB at sB eB ⊢;refine⟨_,rfl,p2,_,rfl,rfl,SqL.of eB,fun p3 hp3=>?_⟩;have sC:=aG hp3 (.lst (([V.ref t0]++zs).drop 1).reverse);have eC:upd HB p3 (.lst (([V.ref t0]++zs).drop 1).reverse) p3=some (.lst (([V.ref t0]++zs).drop 1).reverse):=aB;generalize upd HB p3 (.lst (([V.ref t0]++zs).drop 1).reverse)=HC at sC eC ⊢;refine⟨p1,p3,_,_,rfl,rfl,(sB.trans sC) _ _ eA,eC,(by rw[length_reverse];exact Nat.le_of_lt (Nat.lt_of_succ_lt (aZ (by lia:1+zs.length < 1000)))),fun p4 hp4=>?_⟩;have s9C:=sA.trans (sB.trans sC);have sE:=aG hp4 (.lst ([V.ref t0]++(([V.ref t0]++zs).drop 1).reverse));refine hX _ _ ⟨s59.trans (s9C.trans sE),p4,_,rfl,(s59.trans s9C).free hp4,aB,?_⟩;unfold iX;dsimp only;rw[if_pos la];exact .cons (sE.seqT (s9C.seqT T0)) (Sts.rev (S9.same (s9C.trans sE)))
   ·have la:bs.getD (n - 1) false=false:=by
     cases h:bs.getD (n - 1) false with
     |false=>rfl
     |true=>rw[h] at e;exact absurd e (by decide)
    refine hX _ _ ⟨s59,P0,_,rfl,(s6.trans (s7.trans s8)).free hP0,e9,?_⟩;unfold iX;dsimp only;rw[if_neg (by rw[la];decide)];exact .cons T0 S9
 rintro σ6 H6 ⟨s6,P,ys,rfl,nP,eP,SP⟩;have hT6:=s6.seqT hT;have eg6:=s6 _ _ eg;have St6:=St.same s6;have Fz6:=s6.fq Fz;have nPg:P≠g:=fun e=>by rw[e,eg] at nP;cases nP
 have lw:=St.length;rw[Id n1] at lw;clear hT eg St Fz;refine vK (fun σ' H'=>aW H6 H'/\σ'=[some (.ref a),some (.int (n:Int)),some (.int top),some (.int bottom),some (.ref Rw),some (.ref Wy),z6,z7,z8,z9,z10,some (.ref nt),some (.ref t),some (.int (wyB (bs.getD (n - 1) false))),some (.ref P),some (.bl true),none]) (fun X hX=>?_) ?_
 ·refine⟨_,rfl,t,_,_,_,rfl,rfl,hT6,rfl,g,rfl,⟨_,SqL.of eg6⟩,fun D hD=>?_⟩;have sD:=aG hD (.lst []);refine fC (xs:=ws) (fun i zs H'=>aW H6 H'/\H' D=some (.lst zs)/\zs=(replicate i true).map V.bl) ⟨sD,aB,rfl⟩ (fun i zs H' h=>h.2.1) (fun i zs H' _ h=>SqL.of (h.1 _ _ eg6)) ?_ ?_
  ·rintro i zs x H7 hx ⟨s7,e7,rfl⟩ C hC;obtain⟨tt,s,rfl,hs,ht⟩:=(St6.same s7).get hx;have hi:i < (iX n bs).length:=(List.getElem?_eq_some_iff.mp hs).1;rw[Id n1] at hi;refine⟨tt,_,rfl,ht,rfl,_,_,rfl,_,_,rfl,rfl,jX.1,jX.2,fH ?_⟩;refine⟨_,rfl,(s.1:Int),rfl,_,rfl,fH ⟨_,rfl,s.2,rfl,?_⟩⟩;refine⟨e7,aZ (by rw[length_map,length_replicate];lia),hC _ _ ⟨s7.change hD,aB,?_⟩⟩;rw[replicate_succ',map_append];rfl
  ·rintro zs H7 ⟨s7,e7,rfl⟩;refine⟨D,_,rfl,SqL.of e7,?_⟩;rw[show (replicate ws.length true).all id=true by simp];exact hX _ _ ⟨s7,rfl⟩
 rintro σ7 H7 ⟨s7,rfl⟩;have hT7:=s7.seqT hT6;have eg7:=s7 _ _ eg6;have St7:=St6.same s7;have Fz7:=s7.fq Fz6;have eP7:=s7 _ _ eP;have SP7:=SP.same s7;have s47:=s45.trans (s6.trans s7);clear hT6 eg6 St6 Fz6 eP SP;refine⟨_,rfl,_,rfl,dC ?_⟩;refine⟨_,rfl,t,_,_,_,rfl,rfl,hT7,rfl,_,rfl,Vl (SqL.of eg7) (SqL.of eP7) St7 SP7 ⟨_,rfl,dC ?_⟩⟩;refine⟨_,rfl,t,_,_,_,rfl,rfl,hT7,rfl,_,rfl,_,rfl,cQ (bW _) rg.t60.1 (by decide) (by decide) ⟨_,rfl,_,bottom,60,rfl,by assumption,rg.t60.2,by decide,fun z2 H8 s8 e8=>?_⟩⟩;refine qc0 (s8.fq Fz7) (Fq.of e8) ⟨_,rfl,dC ?_⟩;have eg8:=s8 _ _ eg7;refine⟨_,rfl,t,_,_,_,rfl,rfl,s8.seqT hT7,rfl,.inl ⟨rfl,_,SqL.of eg8⟩,zl9 2,fun t9 ht9=>?_⟩;have s9:=aG ht9 (.tup [.int 0,.int 1]);have e9:upd H8 t9 (.tup [.int 0,.int 1]) t9=some (.tup [.int 0,.int 1]):=aB;generalize upd H8 t9 (.tup [.int 0,.int 1])=H9 at s9 e9 ⊢;have s79:=s8.trans s9;have eg9:=s9 _ _ eg8;refine⟨g,_,_,rfl,rfl,eg9,aZ (by lia),?_⟩;have s4A:aW H4 (upd H9 g (.lst (ws++[.ref t9]))):=(s47.trans s79).change ng4;have hTA:SqT K (upd H9 g (.lst (ws++[.ref t9]))) t [.ref g,.ref z]:=SqT.upd (s79.seqT hT7) eg9;have FzA:Fq K (upd H9 g (.lst (ws++[.ref t9]))) z _:=Fq.upd (s79.fq Fz7) eg9;have ePA:upd H9 g (.lst (ws++[.ref t9])) P=some (.lst ys):=by rw[aL nPg];exact s79 _ _ eP7
 have SPA:Sts K (upd H9 g (.lst (ws++[.ref t9]))) ys (iX n bs):=Sts.upd eg9 (SP7.same s79);generalize upd H9 g (.lst (ws++[.ref t9]))=HA at s4A hTA FzA ePA SPA ⊢;refine⟨_,rfl,nt,l,M,ds,(n - 1,iX n bs),[],rfl,N4.same s4A,rg.pt nM,by lia,by lia,by lia,rg.hz,rg.rg n1 n6,lT,bT,fun t' g' z' ws' HB sB ng' hT' eg' St' Fz'=>?_⟩;have Fz':Fq K HB z' (tot ((iX n bs).map (dW ds))):=Fz';rw[eT] at Fz';refine⟨_,rfl,_,rfl,_,rfl,t,_,_,_,rfl,rfl,sB.seqT hTA,rfl,zl9 2,fun u hu'=>?_⟩;have sC:=aG hu' (.tup [.ref P,.ref z]);have eu:upd HB u (.tup [.ref P,.ref z]) u=some (.tup [.ref P,.ref z]):=aB;generalize upd HB u (.tup [.ref P,.ref z])=HC at sC eu ⊢;have sAC:=sB.trans sC;refine Ts (sC.seqT hT') (SqT.of eu) (SqL.of (sC _ _ eg')) (SqL.of (sAC _ _ ePA)) (St'.same sC) (SPA.same sAC) (sC.fq Fz') (sAC.fq FzA) ⟨_,rfl,fH ?_⟩;have NC:=N4.same (s4A.trans sAC);obtain⟨dn,hn⟩:=NC.ob;refine⟨_,rfl,nt,dn,_,rfl,hn,fP _ _ (by decide +kernel) (by decide +kernel),nt,l,_,ds,rfl,NC,fun bL tB HD sD nb eb hRb=>?_⟩;have s2D:=s24.trans (s4A.trans (sAC.trans sD));exact⟨_,rfl,Sf (SqL.of eb) (SqL.of (s2D _ _ eR2)) hRb (hR2.same s2D) (q _ (s2.trans s2D))⟩
def Kg (K:Frag):Sp:=fun vs H Q _=>∃(a:Addr) (ns:List Int),vs=[.ref a]/\SqL K H a (ns.map V.int)/\ns.length<=63/\∀H',Q (.bl true) H'
abbrev Ai:Stmt:=top 91
theorem qh2:aQ ["_law_script"] ["_law_script"] (aH Ai):=sK9
theorem Yx (F:aY K "law" "law" Ai dV f fd)(G1:D9 P w K mg base 1 g1 gd1 ["_law_script","_law_k"] (wW K) "_law_nth")(G2:D9 P w K mg base 11 g2 gd2 ["_law_script","_law_many"] (qf4 K) "_law_joined")(G3:D9 P w K mg base 11 g3 gd3 ["_law_script"] (qg6 K) "_law_ringed"):
  aK P w K mg base CX 12 f fd ["_law_script"] (Kg K):=by
 refine F.ok9 qh2 fun _ _ _ s H _ Q E hr h=>?_;obtain⟨a,ns,rfl,hS,h63,q⟩:=h;have r1:=hr.mono (by decide:1<=11);refine⟨_,(aF (aV (iV (d9 G2 hr rfl (aA (pv 0) (aA (aP dL aE (aP cT (d9 G1 r1 rfl (aA (pv 0) (aA aE aD))) aE)) aD))) (kA (d9 G3 hr rfl (aA (pv 0) aD)))))),?_⟩;refine⟨_,rfl,_,rfl,a,ns,0,0,rfl,rfl,hS,h63,by decide,fun H1 s1=>?_⟩;generalize Be ns 0=c;have c0:=Int.emod_nonneg c (by decide:(7:Int)≠0);have c1:=Int.emod_lt_of_pos c (by decide:(0:Int) < 7);obtain⟨m,hm⟩:∃m:Nat,2+c % 7=(m:Int):=⟨(2+c % 7).toNat,by lia⟩
 refine⟨_,_,rfl,rfl,(by decide:(0:Int) < 7),_,_,rfl,rfl,a,ns,m,by rw[<- hm];rfl,s1.seq hS,h63,by lia,by lia,fun H2 s2=>?_⟩;refine⟨_,rfl,fH ⟨_,rfl,a,ns,rfl,(s1.trans s2).seq hS,h63,fun H3 s3=>q H3⟩⟩
theorem Qu {Y:Addr->Prop}(h:Y a)(g:Y b):∀C∈[a,b],Y C:=fun C hC=>by
 rcases mem_cons.mp hC with z | z
 ·rw[z];exact h
 ·rw[mem_singleton.mp z];exact g
theorem up4 (F:aK P w K mg base CX0 1 g gd ps sp):aK P w K mg base CX0 4 g gd ps sp:=F.mono (by decide)
theorem is4 (F:aK P w K mg base CX0 2 g gd ["_law_found"] (Vq K)):aK P w K mg base CX0 4 g gd ["_law_found"] (Vq K):=F.mono (by decide)
theorem qf0 (F:aK P w K mg base (CX1 P w) 3 g gd ["some","many"] (Se K CP)):aK P w K mg base CX0 3 g gd ["some","many"] (qf7 K):=
 F.calm.weak fun vs H Q E h=>by
  obtain⟨l,i,j,m,rfl,hl,i0,i1,j0,j1,q⟩:=h;have e:[V.int i,V.int j].all (pN m)=true:=by
   show (decide (0<=i/\i < m) && (decide (0<=j/\j < m) && true))=true;rw[decide_eq_true ⟨i0,i1⟩,decide_eq_true ⟨j0,j1⟩];rfl
  exact⟨l,_,m,rfl,hl,by simp,fun x hx=>by rcases mem_cons.mp hx with z | z;exact .inl ⟨i,z⟩;exact .inl ⟨j,mem_singleton.mp z⟩,fun _=>q,fun z=>by rw[e] at z;cases z⟩
theorem Ze {l:W.OpenLaw}{K:Frag}{mg:Str->Option Value}{fa:Addr}(hfa:mg "law"=some (.ref fa)){Zan Zaa Zab Zac Zaf Zag Zah Zad Zae Zao Zap Zaq Zar Zam Zas Zat Zau Zav Zaw Zax f1 f2 f3 f4 f5 f6 f7 f8 f9 f10 f11 f12 f13 f14 f15 f16 f17 f18 f19 f20 f21 f22 f23 f24 f25 f26 f27 f28 f29 f30 f31 f32 f33 f34 f35 f36 f37 f38 f39 f40 f41 f42 f43 f44 f45 f46 f47 f48 f49 f50 f51 f52 f53 f54 f55 f56 f57 f58 f59 f60 f61 f62 f63 f64 f65 f66 f67 f68 f69 f70 f71 f72 f73 f74 f75:Addr}{d1 d2 d3 d4 d5 d7 d8 d9 d10 d11 d12 d13 d14 d15 d16 d17 d18 d19 d20 d21 d22 d23 d24 d25 d26 d27 d28 d29 d30 d31 d32 d33 d34 d35 d36 d37 d38 d39 d41 d42 d43 d44 d45 d46 d47 d48 d49 d50 d51 d52 d53 d54 d55 d56 d57 d58 d59 d60 d61 d62 d63 d64 d65 d66 d67 d68 d69 d70 d71 d72 d73 d74:FuncData}{od6 an6:Option Addr}{sl6:Array (Option Value)}{oc6 kV6 dc6 pm6 cd6 ct6:Value}{T6:Addr}{oT6:Value}{dT6:Option Addr}{nT6:Nat}{sT6:Array (Option Value)}{tk6:Tok}{od40 an40:Option Addr}{sl40:Array (Option Value)}{oc40 kV40 dc40 pm40 cd40 ct40:Value}{T40:Addr}{oT40:Value}{dT40:Option Addr}{nT40:Nat}{sT40:Array (Option Value)}{od75 an75:Option Addr}{sl75:Array (Option Value)}{oc75 kV75 dc75 pm75 cd75 ct75:Value}{aO:Addr}{dO:Option Addr}{nO:Nat}{sO:Array (Option Value)}{t2 t3:Tok}{aN:Addr}{dN:Option Addr}{nN:Nat}{sN:Array (Option Value)}{t0 t1:Tok}{aJ:Addr}{dJ:Option Addr}{nJ:Nat}{sJ:Array (Option Value)}{tj0 tj1:Tok}{tM:Tok}{tR:Tok}(ZaM:mI9 mg "Row" Zan)(ZaN:mI9 mg "Piece" Zaa)(ZaO:mI9 mg "Push" Zab)(ZaP:mI9 mg "Hold" Zac)(ZaQ:mI9 mg "Net" Zaf)(ZaR:mI9 mg "Answer" Zag)(Zaz:mI9 mg "OhmError" Zah)(ZaE:mI9 mg "Ring" Zad)(ZaF:mI9 mg "Floats" Zae)(ZaS:mI9 mg "Held" Zao)(ZaT:mI9 mg "Lame" Zap)(ZaU:mI9 mg "NoName" Zaq)(ZaV:mI9 mg "NoNumber" Zar)(ZaA:mI9 mg "NoPoint" Zam)(ZaW:mI9 mg "NoRoad" Zas)(ZaX:mI9 mg "NoRow" Zat)(ZaY:mI9 mg "NoSize" Zau)(ZaZ:mI9 mg "NoStreams" Zav)(Za0:mI9 mg "NoWord" Zaw)(Za1:mI9 mg "TooMany" Zax)(a1_0:W.findIn K (.ref Zae) "__init__"=some (some (.ref f1)))(i1:W.isFn K (.ref f1)=true)(F1:aY K "__init__" "Floats.__init__" Hi .none f1 d1)(a2_0:W.findIn K (.ref Zad) "__init__"=some (some (.ref f2)))(i2:W.isFn K (.ref f2)=true)(F2:aY K "__init__" "Ring.__init__" Au .none f2 d2)(m3:mI9 mg "is_whole" f3)(F3:aY K "is_whole" "is_whole" Hr .none f3 d3)(m4:mI9 mg "greatest_common" f4)(F4:aY K "greatest_common" "greatest_common" sGc .none f4 d4)(m5:mI9 mg "under" f5)(F5:aY K "under" "under" Hj .none f5 d5)(m6:mI9 mg "fraction" f6)(l6:K.lookup f6=some ⟨oc6,od6,.func (W.fnOf "fraction" "fraction" (eX lK) (dR lK) (aH lK) (.ref T6) kV6 dc6 pm6 an6 cd6 ct6),sl6⟩)(c6:W.codeIn K cd6 "fraction"=true)(k6:kI9 K f6)(lt6:K.lookup T6=some ⟨oT6,dT6,.seq #[.int 1 tk6] nT6,sT6⟩)(m7:mI9 mg "minus" f7)(F7:aY K "minus" "minus" Gx .none f7 d7)(m8:mI9 mg "plus" f8)(F8:aY K "plus" "plus" Sj .none f8 d8)(m9:mI9 mg "times" f9)(F9:aY K "times" "times" Hw .none f9 d9)(m10:mI9 mg "over" f10)(F10:aY K "over" "over" Ph .none f10 d10)(m11:mI9 mg "total" f11)(F11:aY K "total" "total" Fe .none f11 d11)(m12:mI9 mg "is_fraction" f12)(F12:aY K "is_fraction" "is_fraction" qb7 .none f12 d12)(a13_0:W.findIn K (.ref Zaa) "__init__"=some (some (.ref f13)))(a13_1:W.findIn K (.ref Zab) "__init__"=some (some (.ref f13)))(a13_2:W.findIn K (.ref Zac) "__init__"=some (some (.ref f13)))(i13:W.isFn K (.ref f13)=true)(F13:aY K "__init__" "Row.__init__" Hq .none f13 d13)(a14_0:W.findIn K (.ref Zaa) "word"=some (some (.ref f14)))(i14:W.isFn K (.ref f14)=true)(F14:aY K "word" "Piece.word" uL .none f14 d14)(a15_0:W.findIn K (.ref Zab) "word"=some (some (.ref f15)))(i15:W.isFn K (.ref f15)=true)(F15:aY K "word" "Push.word" wU .none f15 d15)(a16_0:W.findIn K (.ref Zac) "word"=some (some (.ref f16)))(i16:W.isFn K (.ref f16)=true)(F16:aY K "word" "Hold.word" wK .none f16 d16)(a17_0:W.findIn K (.ref Zaa) "joins"=some (some (.ref f17)))(i17:W.isFn K (.ref f17)=true)(F17:aY K "joins" "Piece.joins" rQ .none f17 d17)(a18_0:W.findIn K (.ref Zab) "joins"=some (some (.ref f18)))(i18:W.isFn K (.ref f18)=true)(F18:aY K "joins" "Push.joins" rD .none f18 d18)(a19_0:W.findIn K (.ref Zac) "joins"=some (some (.ref f19)))(i19:W.isFn K (.ref f19)=true)(F19:aY K "joins" "Hold.joins" rM .none f19 d19)(a20_0:W.findIn K (.ref Zaa) "told"=some (some (.ref f20)))(a20_1:W.findIn K (.ref Zab) "told"=some (some (.ref f20)))(a20_2:W.findIn K (.ref Zac) "told"=some (some (.ref f20)))(i20:W.isFn K (.ref f20)=true)(F20:aY K "told" "Row.told" Hd .none f20 d20)(m21:mI9 mg "row_of" f21)(F21:aY K "row_of" "row_of" Gg .none f21 d21)(a22_0:W.findIn K (.ref Zaa) "stream"=some (some (.ref f22)))(i22:W.isFn K (.ref f22)=true)(F22:aY K "stream" "Piece.stream" oR .none f22 d22)(a23_0:W.findIn K (.ref Zab) "stream"=some (some (.ref f23)))(i23:W.isFn K (.ref f23)=true)(F23:aY K "stream" "Push.stream" oM .none f23 d23)(a24_0:W.findIn K (.ref Zac) "stream"=some (some (.ref f24)))(i24:W.isFn K (.ref f24)=true)(F24:aY K "stream" "Hold.stream" oO .none f24 d24)(m25:mI9 mg "is_piece_size" f25)(F25:aY K "is_piece_size" "is_piece_size" sPS .none f25 d25)(m26:mI9 mg "is_number_below" f26)(F26:aY K "is_number_below" "is_number_below" sNB .none f26 d26)(m27:mI9 mg "refuse_size" f27)(F27:aY K "refuse_size" "refuse_size" sRS .none f27 d27)(m28:mI9 mg "refuse_points" f28)(F28:aY K "refuse_points" "refuse_points" sRP .none f28 d28)(a29_0:W.findIn K (.ref Zaf) "__init__"=some (some (.ref f29)))(i29:W.isFn K (.ref f29)=true)(F29:aY K "__init__" "Net.__init__" Fp .none f29 d29)(a30_0:W.findIn K (.ref Zaf) "many"=some (some (.ref f30)))(i30:W.isFn K (.ref f30)=true)(F30:aY K "many" "Net.many" Rp .none f30 d30)(a31_0:W.findIn K (.ref Zaf) "told"=some (some (.ref f31)))(i31:W.isFn K (.ref f31)=true)(F31:aY K "told" "Net.told" Gu .none f31 d31)(a32_0:W.findIn K (.ref Zaf) "add"=some (some (.ref f32)))(i32:W.isFn K (.ref f32)=true)(F32:aY K "add" "Net.add" Yz .none f32 d32)(a33_0:W.findIn K (.ref Zaf) "rows"=some (some (.ref f33)))(i33:W.isFn K (.ref f33)=true)(F33:aY K "rows" "Net.rows" Qg .none f33 d33)(m34:mI9 mg "fall_of" f34)(F34:aY K "fall_of" "fall_of" Nb .none f34 d34)(m35:mI9 mg "joined" f35)(F35:aY K "joined" "joined" zP .none f35 d35)(m36:mI9 mg "marks_of" f36)(F36:aY K "marks_of" "marks_of" Fv .none f36 d36)(m37:mI9 mg "floating" f37)(F37:aY K "floating" "floating" Ha .none f37 d37)(m38:mI9 mg "steps_from" f38)(F38:aY K "steps_from" "steps_from" Gd .none f38 d38)(m39:mI9 mg "way_along" f39)(F39:aY K "way_along" "way_along" qc9 .none f39 d39)(m40:mI9 mg "rings" f40)(l40:K.lookup f40=some ⟨oc40,od40,.func (W.fnOf "rings" "rings" (eX iU) (dR iU) (aH iU) (.ref T40) kV40 dc40 pm40 an40 cd40 ct40),sl40⟩)(c40:W.codeIn K cd40 "rings"=true)(k40:kI9 K f40)(lt40:K.lookup T40=some ⟨oT40,dT40,.seq #[.none] nT40,sT40⟩)(m41:mI9 mg "ring_sum" f41)(F41:aY K "ring_sum" "ring_sum" So .none f41 d41)(m42:mI9 mg "raise_at" f42)(F42:aY K "raise_at" "raise_at" Gw .none f42 d42)(m43:mI9 mg "enter_stream" f43)(F43:aY K "enter_stream" "enter_stream" Fm .none f43 d43)(m44:mI9 mg "enter_piece" f44)(F44:aY K "enter_piece" "enter_piece" zX .none f44 d44)(m45:mI9 mg "enter_push" f45)(F45:aY K "enter_push" "enter_push" Bc .none f45 d45)(m46:mI9 mg "enter_hold" f46)(F46:aY K "enter_hold" "enter_hold" Ax .none f46 d46)(m47:mI9 mg "equations" f47)(F47:aY K "equations" "equations" qb3 .none f47 d47)(m48:mI9 mg "in_wholes" f48)(F48:aY K "in_wholes" "in_wholes" sIW .none f48 d48)(m49:mI9 mg "pivot_place" f49)(F49:aY K "pivot_place" "pivot_place" qd5 .none f49 d49)(m50:mI9 mg "cleared" f50)(F50:aY K "cleared" "cleared" qa3 .none f50 d50)(m51:mI9 mg "cleared_rows" f51)(F51:aY K "cleared_rows" "cleared_rows" vV .none f51 d51)(m52:mI9 mg "eliminated" f52)(F52:aY K "eliminated" "eliminated" Rc .none f52 d52)(m53:mI9 mg "solved" f53)(F53:aY K "solved" "solved" Bm .none f53 d53)(m54:mI9 mg "refuse_unanswered" f54)(F54:aY K "refuse_unanswered" "refuse_unanswered" qc8 .none f54 d54)(m55:mI9 mg "flows_of" f55)(F55:aY K "flows_of" "flows_of" Gf .none f55 d55)(a56_0:W.findIn K (.ref Zag) "__init__"=some (some (.ref f56)))(i56:W.isFn K (.ref f56)=true)(F56:aY K "__init__" "Answer.__init__" Ff .none f56 d56)(a57_0:W.findIn K (.ref Zag) "streams"=some (some (.ref f57)))(i57:W.isFn K (.ref f57)=true)(F57:aY K "streams" "Answer.streams" Si .none f57 d57)(a58_0:W.findIn K (.ref Zag) "fall"=some (some (.ref f58)))(i58:W.isFn K (.ref f58)=true)(F58:aY K "fall" "Answer.fall" Hk .none f58 d58)(m59:mI9 mg "_law_nth" f59)(F59:aY K "_law_nth" "_law_nth" qa9 .none f59 d59)(m60:mI9 mg "_law_divisor" f60)(F60:aY K "_law_divisor" "_law_divisor" Zl .none f60 d60)(m61:mI9 mg "_law_lowest" f61)(F61:aY K "_law_lowest" "_law_lowest" Bp .none f61 d61)(m62:mI9 mg "_law_is" f62)(F62:aY K "_law_is" "_law_is" sIs .none f62 d62)(m63:mI9 mg "_law_an_int" f63)(F63:aY K "_law_an_int" "_law_an_int" Gv .none f63 d63)(m64:mI9 mg "_law_net" f64)(F64:aY K "_law_net" "_law_net" Ht .none f64 d64)(m65:mI9 mg "_law_size" f65)(F65:aY K "_law_size" "_law_size" Nv .none f65 d65)(m66:mI9 mg "_law_amount" f66)(F66:aY K "_law_amount" "_law_amount" Ay .none f66 d66)(m67:mI9 mg "_law_lone" f67)(F67:aY K "_law_lone" "_law_lone" Rf .none f67 d67)(m68:mI9 mg "_law_floats" f68)(F68:aY K "_law_floats" "_law_floats" qd9 .none f68 d68)(m69:mI9 mg "_law_due" f69)(F69:aY K "_law_due" "_law_due" Zb .none f69 d69)(m70:mI9 mg "_law_tree_row" f70)(F70:aY K "_law_tree_row" "_law_tree_row" Oc .none f70 d70)(m71:mI9 mg "_law_no_point" f71)(F71:aY K "_law_no_point" "_law_no_point" Sq .none f71 d71)(m72:mI9 mg "_law_joined" f72)(F72:aY K "_law_joined" "_law_joined" sJn .none f72 d72)(m73:mI9 mg "_law_ring_told" f73)(F73:aY K "_law_ring_told" "_law_ring_told" qa8 .none f73 d73)(m74:mI9 mg "_law_ringed" f74)(F74:aY K "_law_ringed" "_law_ringed" sRg .none f74 d74)(m75:mI9 mg "law" f75)(l75:K.lookup f75=some ⟨oc75,od75,.func (W.fnOf "law" "law" (eX Ai) (dR Ai) (aH Ai) .none kV75 dc75 pm75 an75 cd75 ct75),sl75⟩)(c75:W.codeIn K cd75 "law"=true)(k75:kI9 K f75)(ZaG:mI9 mg "ONE" aO)(Zaj:mI9 mg "NOUGHT" aN)(Za2:mI9 mg "JOINING_WORDS" aJ)(Za3:mg "MOST_POINTS"=some (.int 20 tM))(Za4:mg "MOST_ROWS"=some (.int 40 tR)){nF qF:Str}{NF:Addr}{bsF:List Value}{snF:List Str}{suF:List Value}{abF:Bool}{coF:Option Bool}{ddF:Option Addr}{k0F k1F k2F k3F k5F:Option Value}(lF:K.lookup Zae=some (excClassObj nF qF Zae NF bsF (.ref Zah :: tG) true snF suF abF coF ddF k0F k1F k2F k3F k5F "ValueError.__new__")){nG qG:Str}{NG:Addr}{bsG:List Value}{snG:List Str}{suG:List Value}{abG:Bool}{coG:Option Bool}{ddG:Option Addr}{k0G k1G k2G k3G k5G:Option Value}(lG:K.lookup Zad=some (excClassObj nG qG Zad NG bsG (.ref Zah :: tG) true snG suG abG coG ddG k0G k1G k2G k3G k5G "ValueError.__new__")){nE qE:Str}{NE:Addr}{bsE:List Value}{snE:List Str}{suE:List Value}{abE:Bool}{coE:Option Bool}{ddE:Option Addr}{k0E k1E k2E k3E k5E:Option Value}{hdE:Bool}(lE:K.lookup Zah=some (excClassObj nE qE Zah NE bsE tG hdE snE suE abE coE ddE k0E k1E k2E k3E k5E "ValueError.__new__"))(ZaH:W.excIn K Zah tG "ValueError.__new__"=true)(Za5:W.excIn K Zam tG "ValueError.__new__"=true)(tyF:W.typeIn K (.ref f1)=some (.type "function"))(tyG:W.typeIn K (.ref f2)=some (.type "function"))(ci1:W.specialIn K (.ref Zah) "__getattribute__"=some (some (.builtin "type.__getattribute__")))(ci2:W.readsIn K Zah (.type "type")=true)(ci3:W.findCls K (.ref Zah) (.type "type") "__init__"=some (.val (.builtin "ValueError.__init__")))(Za6:W.findIn K (.ref Zae) "__setattr__"=some (some (.builtin "object.__setattr__")))(ZaI:W.findIn K (.ref Zad) "__setattr__"=some (some (.builtin "object.__setattr__")))(ZaJ:W.findIn K (.ref Zae) "points"=some none)(ZaK:W.findIn K (.ref Zad) "ring"=some none)(ZaL:W.findIn K (.ref Zad) "total"=some none)(Za7:W.hasDictIn K Zae=true)(Za8:W.hasDictIn K Zad=true)(eFO:W.exmOne K (.ref Zae) (.ref Zah)=some true)(eGO:W.exmOne K (.ref Zad) (.ref Zah)=some true)(ePP:W.exmOne K (.ref Zam) (.ref Zam)=some true)(t1F:W.kitAny K (.ref Zae) [.ref Zao,.ref Zap,.ref Zaq,.ref Zar,.ref Zam,.ref Zas]=some false)(t1G:W.kitAny K (.ref Zad) [.ref Zao,.ref Zap,.ref Zaq,.ref Zar,.ref Zam,.ref Zas]=some false)(t2F:W.kitAny K (.ref Zae) [.ref Zat,.ref Zau,.ref Zav,.ref Zaw,.ref Zax]=some false)(t2G:W.kitAny K (.ref Zad) [.ref Zat,.ref Zau,.ref Zav,.ref Zaw,.ref Zax]=some false)(vF:W.kitOne K (.ref Zae) (.type "ValueError")=some true)(vG:W.kitOne K (.ref Zad) (.type "ValueError")=some true)(gf1:W.kitOne K (.ref Zad) (.ref Zae)=some false)(gf2:W.kitOne K (.ref Zae) (.ref Zad)=some false)(Za9:W.findIn K (.ref Zae) "__getattribute__"=some (some (.builtin "BaseException.__getattribute__")))(Zba:W.findIn K (.ref Zae) "__getattr__"=some none)(Zbb:W.mroIn K Zae (.type "BaseException")=some true)(Zbc:W.mroIn K Zae (.type "object")=some true)(Zbd:W.findIn K (.ref Zae) "__class__"=some (some (.builtin "object.__class__")))(Zbe:W.specialIn K (.builtin "object.__class__") "__get__"=some (some (.builtin "getset_descriptor.__get__")))(Zbf:W.takesIn K (.builtin "object.__class__")=some true)(Zbg:(W.clsIn K Zae).isSome=true)(Zbh:W.findIn K (.ref Zad) "__getattribute__"=some (some (.builtin "BaseException.__getattribute__")))(Zbi:W.findIn K (.ref Zad) "__getattr__"=some none)(Zbj:W.mroIn K Zad (.type "BaseException")=some true)(Zbk:W.mroIn K Zad (.type "object")=some true)(Zbl:W.findIn K (.ref Zad) "__class__"=some (some (.builtin "object.__class__")))(Zbm:W.specialIn K (.builtin "object.__class__") "__get__"=some (some (.builtin "getset_descriptor.__get__")))(Zbn:W.takesIn K (.builtin "object.__class__")=some true)(Zbo:(W.clsIn K Zad).isSome=true)(lO:K.lookup aO=some ⟨.type "tuple",dO,.seq #[.int 1 t2,.int 1 t3] nO,sO⟩)(lN:K.lookup aN=some ⟨.type "tuple",dN,.seq #[.int 0 t0,.int 1 t1] nN,sN⟩)(lJ:K.lookup aJ=some ⟨.type "tuple",dJ,.seq #[.str "piece" tj0,.str "hold" tj1] nJ,sJ⟩)(Zbp:W.plainGet K Zaa Str.empty=true)(Zbq:W.hasDictIn K Zaa=true)(Zbr:W.plainOver K Zaa=true)(Zbs:W.findIn K (.ref Zaa) "__setattr__"=some (some (.builtin "object.__setattr__")))(Zbt:W.makesIn K Zaa=true)(Zbu:kI9 K Zaa)(Zbv:W.findIn K (.ref Zaa) "__class__"=some (some (.builtin "object.__class__")))(Zbw:W.mroIn K Zaa (.type "object")=some true)(Zbx:W.findIn K (.ref Zaa) "start"=some none)(Zby:W.findIn K (.ref Zaa) "goal"=some none)(Zbz:W.findIn K (.ref Zaa) "size"=some none)(ZbA:W.plainGet K Zab Str.empty=true)(ZbB:W.hasDictIn K Zab=true)(ZbC:W.plainOver K Zab=true)(ZbD:W.findIn K (.ref Zab) "__setattr__"=some (some (.builtin "object.__setattr__")))(ZbE:W.makesIn K Zab=true)(ZbF:kI9 K Zab)(ZbG:W.findIn K (.ref Zab) "__class__"=some (some (.builtin "object.__class__")))(ZbH:W.mroIn K Zab (.type "object")=some true)(ZbI:W.findIn K (.ref Zab) "start"=some none)(ZbJ:W.findIn K (.ref Zab) "goal"=some none)(ZbK:W.findIn K (.ref Zab) "size"=some none)(ZbL:W.plainGet K Zac Str.empty=true)(ZbM:W.hasDictIn K Zac=true)(ZbN:W.plainOver K Zac=true)(ZbO:W.findIn K (.ref Zac) "__setattr__"=some (some (.builtin "object.__setattr__")))(ZbP:W.makesIn K Zac=true)(ZbQ:kI9 K Zac)(ZbR:W.findIn K (.ref Zac) "__class__"=some (some (.builtin "object.__class__")))(ZbS:W.mroIn K Zac (.type "object")=some true)(ZbT:W.findIn K (.ref Zac) "start"=some none)(ZbU:W.findIn K (.ref Zac) "goal"=some none)(ZbV:W.findIn K (.ref Zac) "size"=some none)(tt2:W.specialIn K (.builtin "object.__class__") "__get__"=some (some (.builtin "getset_descriptor.__get__")))(tt3:W.takesIn K (.builtin "object.__class__")=some true)(ZbW:W.kitOne K (.ref Zaa) (.ref Zan)=some true)(ZbX:W.kitOne K (.ref Zab) (.ref Zan)=some true)(ZbY:W.kitOne K (.ref Zac) (.ref Zan)=some true)(ZbZ:W.kitOne K (.ref Zaa) (.ref Zab)=some false)(Zb0:W.kitOne K (.ref Zaa) (.ref Zac)=some false)(Zb1:W.kitOne K (.ref Zab) (.ref Zaa)=some false)(Zb2:W.kitOne K (.ref Zab) (.ref Zac)=some false)(Zb3:W.kitOne K (.ref Zac) (.ref Zaa)=some false)(Zb4:W.kitOne K (.ref Zac) (.ref Zab)=some false)(Zb5:W.plainGet K Zaf Str.empty=true)(Zb6:W.hasDictIn K Zaf=true)(Zb7:W.plainOver K Zaf=true)(Zb8:W.findIn K (.ref Zaf) "__setattr__"=some (some (.builtin "object.__setattr__")))(Zb9:W.makesIn K Zaf=true)(Zca:kI9 K Zaf)(Zcb:W.findIn K (.ref Zaf) "__class__"=some (some (.builtin "object.__class__")))(Zcc:W.mroIn K Zaf (.type "object")=some true)(Zcd:W.findIn K (.ref Zaf) "point_count"=some none)(Zce:W.findIn K (.ref Zaf) "kept"=some none)(Zcf:W.plainGet K Zag Str.empty=true)(Zcg:W.hasDictIn K Zag=true)(Zch:W.plainOver K Zag=true)(Zci:W.findIn K (.ref Zag) "__setattr__"=some (some (.builtin "object.__setattr__")))(Zcj:W.makesIn K Zag=true)(Zck:kI9 K Zag)(Zcv:W.findIn K (.ref Zag) "__class__"=some (some (.builtin "object.__class__")))(Zcw:W.mroIn K Zag (.type "object")=some true)(Zcl:W.findIn K (.ref Zag) "lines"=some none)(Zcm:W.findIn K (.ref Zag) "levels"=some none)(Zcn:W.findIn K (.ref Zag) "flows"=some none)(Zco:mg "isinstance"=none)(Zcp:mg "int"=none)(Zcq:mg "bool"=none)(Zcr:mg "abs"=none)(Zai:mg "len"=none)(Zak:mg "range"=none)(Zcs:mg "str"=none)(Zay:mg "tuple"=none)(Zal:mg "list"=none)(ZaB:mg "all"=none)(ZaC:mg "zip"=none)(ZaD:mg "enumerate"=none)(Zct:mg "min"=none)(Zcu:mg "ValueError"=none):
  ∃fd:FuncData,(∀(s:Shared) (v:Value),BindsTo s fd ⟨[v],[]⟩ [("_law_script",v)])/\∀base:Heap,K.In base->base.Ns mainGlobals mg->aK l.prog w K mg base CX0 12 fa fd ["_law_script"] (Kg K):=by
 have e:=hfa.symm.trans m75
 cases e
 have b1:=F1.b2 "self" "points" (by intros;rfl);have b2:=F2.b3 "self" "ring" "total" (by intros;rfl);have b3:=F3.b1 "thing" (by intros;rfl);have b4:=F4.b2 "one" "other" (by intros;rfl);have b5:=F5.b2 "one" "other" (by intros;rfl);have F6:=tW (st:=lK) l6 c6 k6;have b6:aM K _ ["top","bottom"] []:=fun s us XX hl=>match us,hl with | [_,_],_=>W.binds_K (fd:=W.fnOf "fraction" "fraction" (eX lK) (dR lK) (aH lK) (.ref T6) kV6 dc6 pm6 an6 cd6 ct6) XX rfl lt6 rfl rfl rfl
 have bd6:aM K _ ["top","bottom"] [.int 1 tk6]:=fun s us XX hl=>match us,(show us.length=1 by simp at hl;lia) with | [_],_=>W.binds_K (fd:=W.fnOf "fraction" "fraction" (eX lK) (dR lK) (aH lK) (.ref T6) kV6 dc6 pm6 an6 cd6 ct6) XX rfl lt6 rfl rfl rfl
 have b7:=F7.b2 "one" "other" (by intros;rfl);have b8:=F8.b2 "one" "other" (by intros;rfl);have b9:=F9.b2 "one" "other" (by intros;rfl);have b10:=F10.b2 "one" "other" (by intros;rfl);have b11:=F11.b1 "some" (by intros;rfl);have b12:=F12.b1 "thing" (by intros;rfl);have b13:=F13.b4 "self" "start" "goal" "size" (by intros;rfl);have b14:=F14.b1 "self" (by intros;rfl);have b15:=F15.b1 "self" (by intros;rfl);have b16:=F16.b1 "self" (by intros;rfl);have b17:=F17.b1 "self" (by intros;rfl);have b18:=F18.b1 "self" (by intros;rfl);have b19:=F19.b1 "self" (by intros;rfl);have b20:=F20.b1 "self" (by intros;rfl);have b21:=F21.b1 "told" (by intros;rfl);have b22:=F22.b3 "self" "fall" "held" (by intros;rfl);have b23:=F23.b3 "self" "fall" "held" (by intros;rfl);have b24:=F24.b3 "self" "fall" "held" (by intros;rfl);have b25:=F25.b1 "thing" (by intros;rfl);have b26:=F26.b2 "thing" "bound" (by intros;rfl);have b27:=F27.b2 "word" "size" (by intros;rfl);have b28:=F28.b2 "some" "many" (by intros;rfl);have b29:=F29.b2 "self" "many" (by intros;rfl);have b30:=F30.b1 "self" (by intros;rfl);have b31:=F31.b1 "self" (by intros;rfl);have b32:=F32.b2 "self" "row" (by intros;rfl);have b33:=F33.b1 "self" (by intros;rfl);have b34:=F34.b2 "row" "heights" (by intros;rfl);have b35:=F35.b2 "marks" "row" (by intros;rfl);have b36:=F36.b1 "net" (by intros;rfl);have b37:=F37.b1 "net" (by intros;rfl);have b38:=F38.b3 "rows" "numbers" "point" (by intros;rfl);have b39:=F39.b4 "rows" "numbers" "begin" "end" (by intros;rfl);have F40:=tW (st:=iU) l40 c40 k40;have b40:aM K _ ["net","words"] []:=fun s us XX hl=>match us,hl with | [_,_],_=>W.binds_K (fd:=W.fnOf "rings" "rings" (eX iU) (dR iU) (aH iU) (.ref T40) kV40 dc40 pm40 an40 cd40 ct40) XX rfl lt40 rfl rfl rfl
 have bd40:aM K _ ["net","words"] [.none]:=fun s us XX hl=>match us,(show us.length=1 by simp at hl;lia) with | [_],_=>W.binds_K (fd:=W.fnOf "rings" "rings" (eX iU) (dR iU) (aH iU) (.ref T40) kV40 dc40 pm40 an40 cd40 ct40) XX rfl lt40 rfl rfl rfl
 have b41:=F41.b2 "net" "ring" (by intros;rfl);have b42:=F42.b3 "line" "column" "amount" (by intros;rfl);have b43:=F43.b4 "matrix" "row" "column" "amount" (by intros;rfl);have b44:=F44.b2 "matrix" "row" (by intros;rfl);have b45:=F45.b2 "right" "row" (by intros;rfl);have b46:=F46.b4 "matrix" "right" "row" "column" (by intros;rfl);have b47:=F47.b1 "net" (by intros;rfl);have b48:=F48.b1 "some" (by intros;rfl);have b49:=F49.b3 "rows" "rank" "column" (by intros;rfl);have b50:=F50.b4 "row" "upper" "column" "divisor" (by intros;rfl);have b51:=F51.b4 "rows" "rank" "column" "divisor" (by intros;rfl);have b52:=F52.b2 "rows" "width" (by intros;rfl);have b53:=F53.b2 "matrix" "right" (by intros;rfl);have b54:=F54.b1 "net" (by intros;rfl);have b55:=F55.b3 "rows" "levels" "held" (by intros;rfl);have b56:=F56.b2 "self" "net" (by intros;rfl);have b57:=F57.b1 "self" (by intros;rfl);have b58:=F58.b3 "self" "a" "b" (by intros;rfl);have b59:=F59.b2 "_law_script" "_law_k" (by intros;rfl);have b60:=F60.b2 "_law_one" "_law_other" (by intros;rfl);have b61:=F61.b2 "_law_top" "_law_bottom" (by intros;rfl);have b62:=F62.b1 "_law_found" (by intros;rfl);have b63:=F63.b1 "_law_found" (by intros;rfl);have b64:=F64.b2 "_law_many" "_law_rows" (by intros;rfl);have b65:=F65.b2 "_law_cell" "_law_far" (by intros;rfl);have b66:=F66.b2 "_law_cell" "_law_far" (by intros;rfl);have b67:=F67.b1 "_law_kept" (by intros;rfl);have b68:=F68.b1 "_law_net_here" (by intros;rfl);have b69:=F69.b2 "_law_many" "_law_joined_here" (by intros;rfl);have b70:=F70.b2 "_law_script" "_law_point" (by intros;rfl);have b71:=F71.b2 "_law_answer" "_law_many" (by intros;rfl);have b72:=F72.b2 "_law_script" "_law_many" (by intros;rfl);have b73:=F73.b1 "_law_net_here" (by intros;rfl);have b74:=F74.b1 "_law_script" (by intros;rfl);have F75:=tW (st:=Ai) l75 c75 k75;refine⟨W.fnOf "law" "law" (eX Ai) (dR Ai) (aH Ai) .none kV75 dc75 pm75 an75 cd75 ct75,fun s v=>.of_eq rfl,fun base _ _=>?_⟩;have bl:Bl mg:=⟨Zco,Zcp,Zcq,Zcr⟩
 have T:RT K mg Zan (kd3 Zaa Zab Zac):=⟨jN ⟨Zbp,Zbq,Zbr,Zbs⟩ ⟨ZbA,ZbB,ZbC,ZbD⟩ ⟨ZbL,ZbM,ZbN,ZbO⟩,jN Zbx ZbI ZbT,jN Zby ZbJ ZbU,jN Zbz ZbK ZbV,jN Zbv ZbG ZbR,tt2,tt3,jN Zbw ZbH ZbS,jN ZbW ZbX ZbY,jN (jN (mM _ _) ZbZ Zb0) (jN Zb1 (mM _ _) Zb2) (jN Zb3 Zb4 (mM _ _)),ZaM,jN ZaN ZaO ZaP⟩
 have fN:∀H,Fq K H aN (0,1):=Fq.mod lN;have fO:∀H,Fq K H aO (1,1):=Fq.mod lO;have fJ:∀H,SqT K H aJ [.str "piece",.str "hold"]:=fun H=>.inr ⟨_,_,_,lJ,rfl,rfl,(zl9 2),.cons ⟨_,rfl⟩ (.cons ⟨_,rfl⟩ .nil)⟩;have NTx:NT K mg Zaf:=⟨⟨Zb5,Zb6,Zb7,Zb8⟩,Zcd,Zce,Zcb,tt2,tt3,Zcc,ZaQ⟩
 have ABx:AB K mg Zag:=⟨⟨Zcf,Zcg,Zch,Zci⟩,Zcl,Zcm,Zcn,ZaR⟩
 have cE:RfC K mg Zad Zae:=⟨Qu ⟨⟨Zbh,Zbi,Zbj,Zbk,Zbl,Zbm,Zbn,Zbo⟩,Za8⟩ ⟨⟨Za9,Zba,Zbb,Zbc,Zbd,Zbe,Zbf,Zbg⟩,Za7⟩,⟨ZaJ,ZaK,ZaL⟩,⟨Zcu,Qu vG vF⟩,⟨Zah,Zaz,Qu eGO eFO⟩,ZaE,ZaF,⟨gf1,gf2⟩,⟨Zao,Zap,Zaq,Zar,Zam,Zas,ZaS,ZaT,ZaU,ZaV,ZaA,ZaW,Qu t1G t1F⟩,⟨Zat,Zau,Zav,Zaw,Zax,ZaX,ZaY,ZaZ,Za0,Za1,Qu t2G t2F⟩⟩
 have qIF:kK K Zae Zah f1:=⟨⟨_,_,_,_,_,_,_,_,_,_,_,_,_,_,lF⟩,⟨_,_,_,_,_,_,_,_,_,_,_,_,_,_,_,lE⟩,ZaH,a1_0,tyF⟩
 have qIG:kK K Zad Zah f2:=⟨⟨_,_,_,_,_,_,_,_,_,_,_,_,_,_,lG⟩,⟨_,_,_,_,_,_,_,_,_,_,_,_,_,_,_,lE⟩,ZaH,a2_0,tyG⟩
 have cI:Rg K Zah:=⟨ci1,ci2,ci3⟩
 have qFF:Ar K Zae "points":=⟨Za6,ZaJ⟩
 have qGr:Ar K Zad "ring":=⟨ZaI,ZaK⟩
 have qGt:Ar K Zad "total":=⟨ZaI,ZaL⟩
 have R1:=Ox (P:=l.prog) (w:=w) (K:=K) (mg:=mg) (base:=base) (CX:=CX0) F1 qIF cI qFF Zaz Zay Zal;have R2:=Kz (P:=l.prog) (w:=w) (K:=K) (mg:=mg) (base:=base) (CX:=CX0) F2 qIG cI qGr qGt Zaz Zay Zal;have R3:=Qy (P:=l.prog) (w:=w) (mg:=mg) (base:=base) (CX:=CX0) F3 bl;have D3:=D9.mk R3 b3 F3.kp m3;have R4:=qg5 (P:=l.prog) (w:=w) (mg:=mg) (base:=base) (CX:=CX0) F4 bl;have D4:=D9.mk R4 b4 F4.kp m4;have R5:=Ss (P:=l.prog) (w:=w) (mg:=mg) (base:=base) (CX:=CX0) F5;have D5:=D9.mk R5 b5 F5.kp m5;have R6:=Wz (CX:=CX0) F6 D3 D4;have D6:=D9.mk R6 b6 F6.kp m6;have R7:=Qm (CX:=CX0) F7 D6;have D7:=D9.mk R7 b7 F7.kp m7;have R8:=Xe (CX:=CX0) F8 D6;have D8:=D9.mk R8 b8 F8.kp m8;have R9:=Qa (CX:=CX0) F9 D6;have R10:=Uk (CX:=CX0) F10 D6;have D10:=D9.mk R10 b10 F10.kp m10;have R11:=Qr (CX:=CX0) F11 fN Zaj D8;have R12:=qc5 (CX:=CX0) F12 bl Zai Zay D3 D4;have R13:=Qt (P:=l.prog) (w:=w) (mg:=mg) (base:=base) (CX:=CX0) F13 T;have R14:=Fx (P:=l.prog) (w:=w) (mg:=mg) (base:=base) (CX:=CX0) F14;have R15:=Fo (P:=l.prog) (w:=w) (mg:=mg) (base:=base) (CX:=CX0) F15;have R16:=Ge (P:=l.prog) (w:=w) (mg:=mg) (base:=base) (CX:=CX0) F16;have GW:∀k,aK l.prog w K mg base CX0 1 (kd3 f14 f15 f16 k) (kd3 _ _ _ k) ["self"] (lV k):=jN (R14) (R15) (R16);have bW:∀k,aM K (kd3 _ _ _ k) ["self"] []:=jN (b14) (b15) (b16);have mW:∀k,gQ K (kd3 Zaa Zab Zac k) "word" (kd3 f14 f15 f16 k):=jN (⟨a14_0,i14,F14.kp⟩) (⟨a15_0,i15,F15.kp⟩) (⟨a16_0,i16,F16.kp⟩);have R17:=Ch (P:=l.prog) (w:=w) (mg:=mg) (base:=base) (CX:=CX0) F17;have R18:=Du (P:=l.prog) (w:=w) (mg:=mg) (base:=base) (CX:=CX0) F18;have R19:=Dx (P:=l.prog) (w:=w) (mg:=mg) (base:=base) (CX:=CX0) F19;have GJ:∀k,aK l.prog w K mg base CX0 1 (kd3 f17 f18 f19 k) (kd3 _ _ _ k) ["self"] (pC k):=jN (R17) (R18) (R19);have bJ:∀k,aM K (kd3 _ _ _ k) ["self"] []:=jN (b17) (b18) (b19);have mJ:∀k,gQ K (kd3 Zaa Zab Zac k) "joins" (kd3 f17 f18 f19 k):=jN (⟨a17_0,i17,F17.kp⟩) (⟨a18_0,i18,F18.kp⟩) (⟨a19_0,i19,F19.kp⟩);have R20:=Th (P:=l.prog) (w:=w) (mg:=mg) (base:=base) (CX:=CX0) F20 T GW bW mW;have mT:∀k,gQ K (kd3 Zaa Zab Zac k) "told" f20:=jN (⟨a20_0,i20,F20.kp⟩) (⟨a20_1,i20,F20.kp⟩) (⟨a20_2,i20,F20.kp⟩);have MK:∀k,Mk K (kd3 Zaa Zab Zac k) f13:=jN (⟨Zbt,a13_0,i13,Zbu⟩) (⟨ZbE,a13_1,i13,ZbF⟩) (⟨ZbP,a13_2,i13,ZbQ⟩);have R21:=Nh (CX:=CX0) F21 T bl Zcs R13 b13 MK;have D21:=D9.mk R21 b21 F21.kp m21;have R22:=Ak (CX:=CX0) F22 T D10;have R23:=Bs (P:=l.prog) (w:=w) (mg:=mg) (base:=base) (CX:=CX0) F23 T;have R24:=Bf (P:=l.prog) (w:=w) (mg:=mg) (base:=base) (CX:=CX0) F24 T;have GS:∀k,aK l.prog w K mg base CX0 4 (kd3 f22 f23 f24 k) (kd3 _ _ _ k) ["self","fall","held"] (uJ K (kd3 Zaa Zab Zac) k):=jN (R22) (R23) (R24);have bS:∀k,aM K (kd3 _ _ _ k) ["self","fall","held"] []:=jN (b22) (b23) (b24);have mS:∀k,gQ K (kd3 Zaa Zab Zac k) "stream" (kd3 f22 f23 f24 k):=jN (⟨a22_0,i22,F22.kp⟩) (⟨a23_0,i23,F23.kp⟩) (⟨a24_0,i24,F24.kp⟩);have R25:=ql4 (CX:=CX0) F25 fN Zaj ⟨Df R12,b12,F12.kp,m12⟩ D5;have D25:=D9.mk R25 b25 F25.kp m25;have R26:=Zr (CX:=CX0) F26 D3;have D26:=D9.mk R26 b26 F26.kp m26;have R27:=qf8 (CX:=CX0) F27 ⟨Df R12,b12,F12.kp,m12⟩ D25;have D27:=D9.mk R27 b27 F27.kp m27;have R28:=Zt F28 ZaB D26 ZaA Za5;have R29:=Pe (CX:=CX0) F29 NTx Za3 D3;have R30:=Wj (P:=l.prog) (w:=w) (mg:=mg) (base:=base) (CX:=CX0) F30 NTx;have R31:=Rr (P:=l.prog) (w:=w) (mg:=mg) (base:=base) (CX:=CX0) F31 NTx Zal;have R32:=Zc (CX:=CX0) F32 NTx Za4 Zai T R20 b20 mT ⟨qf0 R28,b28,F28.kp,m28⟩ D27;have R33:=Tz (CX:=CX0) F33 NTx D21;have MN:Mk K Zaf f29:=⟨Zb9,a29_0,i29,Zca⟩
 have R34:=Wp (CX:=CX0) F34 T D7;have D34:=D9.mk R34 b34 F34.kp m34;have R35:=Mr (P:=l.prog) (w:=w) (mg:=mg) (base:=base) (CX:=CX0) F35 T;have D35:=D9.mk R35 b35 F35.kp m35;have R36:=Rs (CX:=CX0) F36 Zal Zak NTx T GJ bJ mJ R30 b30 ⟨a30_0,i30,F30.kp⟩ R33 b33 ⟨a33_0,i33,F33.kp⟩ D35;have D36:=D9.mk R36 b36 F36.kp m36;have R37:=Pz (CX:=CX0) F37 ZaD D36;have D37:=D9.mk R37 b37 F37.kp m37;have R38:=Oo (P:=l.prog) (w:=w) (mg:=mg) (base:=base) (CX:=CX0) F38 T;have D38:=D9.mk R38 b38 F38.kp m38;have R39:=Zj (CX:=CX0) F39 Zai D38;have D39:=D9.mk R39 b39 F39.kp m39;have R40:=Pw (CX:=CX0) F40 NTx T ZaD fJ Za2 GW bW mW R33 b33 ⟨a33_0,i33,F33.kp⟩ D39;have D40:=D9.mk R40 b40 F40.kp m40;have R41:=Vt (CX:=CX0) F41 NTx T R33 b33 ⟨a33_0,i33,F33.kp⟩ R11 b11 F11.kp m11 R9 b9 F9.kp m9 R6 bd6 (.cons ⟨_,rfl⟩ .nil) F6.kp m6;have D41:=D9.mk R41 b41 F41.kp m41;have R42:=Rt (CX:=CX0) F42 D8;have D42:=D9.mk R42 b42 F42.kp m42;have R43:=Pq (CX:=CX0) F43 T fN Zaj R42 b42 F42.kp m42 R7 b7 F7.kp m7;have D43:=D9.mk R43 b43 F43.kp m43;have R44:=Ll (CX:=CX0) F44 T fN Zaj fO ZaG D10 D43 D7;have D44:=D9.mk R44 b44 F44.kp m44;have R45:=Ms (CX:=CX0) F45 T fN Zaj D42 D7;have D45:=D9.mk R45 b45 F45.kp m45;have R46:=Mb (CX:=CX0) F46 T fN Zaj fO ZaG R43 b43 F43.kp m43 R42 b42 F42.kp m42 R7 b7 F7.kp m7;have D46:=D9.mk R46 b46 F46.kp m46;have R47:=Yr (CX:=CX0) F47 NTx T Zai Zak fN Zaj GW bW mW R33 b33 ⟨a33_0,i33,F33.kp⟩ R30 b30 ⟨a30_0,i30,F30.kp⟩ D44 D45 D46;have R48:=qg1 (CX:=CX0) F48 D4;have D48:=D9.mk R48 b48 F48.kp m48;have R49:=Yo (P:=l.prog) (w:=w) (mg:=mg) (base:=base) (CX:=CX0) F49 Zai Zak;have D49:=D9.mk R49 b49 F49.kp m49;have R50:=qa7 (P:=l.prog) (w:=w) (mg:=mg) (base:=base) (CX:=CX0) F50 ZaC;have D50:=D9.mk R50 b50 F50.kp m50;have R51:=Hs (CX:=CX0) F51 ZaD D50;have D51:=D9.mk R51 b51 F51.kp m51;have R52:=Vn (CX:=CX0) F52 Zak Zal D49 D51;have D52:=D9.mk R52 b52 F52.kp m52;have R53:=Mo (CX:=CX0) F53 Zai ZaC D48 D52 D6;have R54:=Zu F54 (CN:=Zaf) Zai ZaE qIG R2 b2 ZaF qIF R1 b1 D40 D37 D41;have R55:=Nf (CX:=CX0) F55 T fN Zaj GW bW mW GS bS mS D34;have R56:=Ri F56 ABx NTx fN Zaj R33 b33 ⟨a33_0,i33,F33.kp⟩ R30 b30 ⟨a30_0,i30,F30.kp⟩ R54 b54 F54.kp m54 R47 b47 F47.kp m47 R53 b53 F53.kp m53 R55 b55 F55.kp m55;have MA:Mk K Zag f56:=⟨Zcj,a56_0,i56,Zck⟩
 have R57:=Vu (P:=l.prog) (w:=w) (mg:=mg) (base:=base) (CX:=CX0) F57 ABx Zal;have R58:=Ln F58 ABx Zai R28 b28 F28.kp m28 R7 b7 F7.kp m7;have R59:=qa1 (P:=l.prog) (w:=w) (mg:=mg) (base:=base) (CX:=CX0) F59;have D59:=D9.mk R59 b59 F59.kp m59;have R60:=Zo (P:=l.prog) (w:=w) (mg:=mg) (base:=base) (CX:=CX0) F60 bl;have D60:=D9.mk R60 b60 F60.kp m60;have R61:=Lj (CX:=CX0) F61 D60;have D61:=D9.mk R61 b61 F61.kp m61;have R62:=qf2 (CX:=CX0) F62 bl Zai Zay D60;have R63:=Ru (P:=l.prog) (w:=w) (mg:=mg) (base:=base) (CX:=CX0) F63 bl;have D63:=D9.mk R63 b63 F63.kp m63;have R64:=Qx (CX:=CX0) F64 NTx R32 b32 ⟨a32_0,i32,F32.kp⟩ R29 b29 MN D21;have D64:=D9.mk R64 b64 F64.kp m64;have R65:=Vz (CX:=CX0) F65 D61;have D65:=D9.mk R65 b65 F65.kp m65;have R66:=Lh (CX:=CX0) F66 D61;have D66:=D9.mk R66 b66 F66.kp m66;have R67:=Uj (P:=l.prog) (w:=w) (mg:=mg) (base:=base) (CX:=CX0) F67 bl cE;have D67:=D9.mk R67 b67 F67.kp m67;have R68:=qb5 (CX:=CX0) F68 bl Zal ZaB cE ABx R56 b56 MA D67 D63;have D68:=D9.mk R68 b68 F68.kp m68;have R69:=qd2 (P:=l.prog) (w:=w) (mg:=mg) (base:=base) (CX:=CX0) F69 Zak;have D69:=D9.mk R69 b69 F69.kp m69;have R70:=Vh (CX:=CX0) F70 D59 D66 D65;have D70:=D9.mk R70 b70 F70.kp m70;have R71:=Tt (CX:=CX0) F71 Zak Zai ABx ZaA ePP R58 b58 ⟨a58_0,i58,F58.kp⟩;have D71:=D9.mk R71 b71 F71.kp m71;have R72:=qh5 (CX:=CX0) F72 Zak Zai Zct ZaC NTx ABx R56 b56 MA (up4 R31) b31 ⟨a31_0,i31,F31.kp⟩ R32 b32 ⟨a32_0,i32,F32.kp⟩ R57 b57 ⟨a57_0,i57,F57.kp⟩ D59 D70 D66 D64 D68 D69 D21 D71;have D72:=D9.mk R72 b72 F72.kp m72;have R73:=Zw (CX:=CX0) F73 bl Zal cE ABx R56 b56 MA D67 ⟨is4 R62,b62,F62.kp,m62⟩;have D73:=D9.mk R73 b73 F73.kp m73;have R74:=qk4 (CX:=CX0) F74 Zak ZaB NTx (up4 R31) b31 ⟨a31_0,i31,F31.kp⟩ D59 D66 D61 D64 D73 D63;have D74:=D9.mk R74 b74 F74.kp m74;exact Yx (CX:=CX0) F75 D59 D72 D74
theorem qo3 {l:W.OpenLaw}{XP:(Str->Option Value)->Heap->Prop}{K:Params->Frag}(hn:l.most=some 63)(hdf:d.params.defaults=[])(hY:∀(w:World) (h:Heap),YP w h->(K w.params).In h)(F:∀(w:World) (mg:Str->Option Value) (fa:Addr) (h:Heap),(K w.params).In h->h.Ns mainGlobals mg->mg d.name=some (.ref fa)->
   ∃fd:FuncData,(∀(s:Shared) (u:Value),BindsTo s fd ⟨[u],[]⟩ [("_law_script",u)])/\∀base:Heap,(K w.params).In base->base.Ns mainGlobals mg->aK l.prog w (K w.params) mg base CX0 12 fa fd ["_law_script"] (Kg (K w.params))):
  W.WalkO q loose XP YP l.row.toRowW d [] (fun f vs=>PySem.call f vs):=
 L2.Tq (n:=63) (k:=12) (x:="_law_script") (CX:=fun _=>CX0) (sp:=fun w=>Kg (K w.params)) hn (by decide) hdf ⟨rfl,by decide,by decide⟩ hY F (fun _ _ a ns hl _ hS=>⟨a,ns,rfl,hS,hl,fun _=>rfl⟩) fun _ _ _ _ _ z=>z
end K36
end
local macro_rules | `(tactic| walk_at "F9")=>`(tactic| (refine' L2.tW ?l9 ?c9 ?kk9;(case l9=>k_is);(case c9=>k_is);(case kk9=>show _=_;k_is)))
namespace PySem.W.Fast
noncomputable section
def Q:=Nat
def tw5091343727781303876:=Q
def tw888031382367514086:=Q
def tw13843114828012128835:=Q
def tw6600249435057377524:=Q
def tw11941653491318838445:=Q
def tw8007409186831701542:=Q
def tw8160007221354751061:=Q
def tw13490045811324485428:=Q
def tw9473480159035848375:=Q
def tw5891883290925386030:=Q
def tw5403813228027747062:=Q
def tw4065686724728238061:=Q
def tw4367178204976413436:=Q
def tw5945787111530563226:=Q
def tw4866368198857910401:=Q
def tw332482269741464687:=Q
def tw6602869958651786954:=Q
def tw8228912951619891890:=Q
def tw5449294594631536112:=Q
def tw16767657014452162326:=Q
def tw6999468965646960820:=Q
def tw3604993158657505822:=Q
def tw16929702033147862960:=Q
def tw13200125537504895759:=Q
def tw5125279761034692962:=Q
def tw11178131287772050480:=Q
def tw12251616927391532770:=Q
def tw10470280736474001639:=Q
def tw12858935686345648311:=Q
def tw9901595541400194092:=Q
def tw8146084979089423288:=Q
def tw12719569865206995479:=Q
def tw16684678322780618929:=Q
def tw6452290372436118340:=Q
def tw13244630744505146249:=Q
def tw141215227069315697:=Q
def tw12200619227480613688:=Q
def tw12226080987134154353:=Q
def tw12141491708619125690:=Q
def tw1586345576562593947:=Q
def tw4512608520322630100:=Q
def tw4907186046157572788:=Q
def tw12901680867480186932:=Q
def tw5238857971908793350:=Q
def tw12882663979322023232:=Q
def tw2182824100086206341:=Q
def tw1853442338407024485:=Q
def tw11584665906750084557:=Q
def tw6156060864945991055:=Q
def tw961314834132572236:=Q
def tw827779682167028002:=Q
def tw6044571771159572113:=Q
def tw14268436982309372617:=Q
def tw11628785487804735810:=Q
def tw775618756121972101:=Q
def tw11548711118839046600:=Q
def tw1327184986368598539:=Q
def tw10324614561851922132:=Q
def tw2913855839406736557:=Q
def tw12114034830947345336:=Q
def tw2057428895277024817:=Q
def tw16564459568510787158:=Q
def tw13623469348239446969:=Q
def tw10493566419834586319:=Q
def tw12663439297395254108:=Q
def tw6912502371256127976:=Q
def tw2425848233066133647:=Q
def tw14909029790778638143:=Q
def tw1910981741005498750:=Q
def tw18382586421946925215:=Q
def tw4938696572983207170:=Q
def tw7355175667961198275:=Q
def tw11241315903662233273:=Q
def tw14486900171373958442:=Q
def tw6628422922793058824:=Q
def tw14961174642026263469:=Q
def tw11971948689810317015:=Q
def tw184065395655556162:=Q
def tw16613493103309077165:=Q
def tw13276194482497228551:=Q
def tw14231989743374622751:=Q
def tw6627229180605703690:=Q
def tw12076142837382861651:=Q
def tw13501845170305093029:=Q
def tw10160218202047720601:=Q
def tw9338455323298478436:=Q
def tw5622871054454201876:=Q
def tw17900000522848500124:=Q
def tw16996604150077043982:=Q
def tw11707965309035177939:=Q
def tw11395143051985009908:=Q
def tw5073479198188640201:=Q
def tw10361535610004927867:=Q
def tw6571815932276777672:=Q
def tw904110681180683855:=Q
def tw15971354148431292869:=Q
def tw5088025759075599152:=Q
def tw5892737806426260557:=Q
def tw10567141831532701380:=Q
def tw4436467987268675642:=Q
def tw5715025839598603560:=Q
def tw7654009451645506708:=Q
def tw5142243849625536183:=Q
def tw10271383591257974126:=Q
def tw10345536419425409419:=Q
def tw5612244342165909206:=Q
def tw4788423581115858706:=Q
def tw368185683341131851:=Q
def tw7522655453478682158:=Q
def tw13791937181942769225:=Q
def tw18070723079763350565:=Q
def tw9758274674066683549:=Q
def tw5402185410594387557:=Q
def tw9974254381934650412:=Q
def tw15792934650041725793:=Q
def tw6692472410256304629:=Q
def tw14544326357557827442:=Q
def tw672462802544388055:=Q
def tw13461150970769468989:=Q
def tw7803939762670503926:=Q
def tw2744956266042265974:=Q
def tw3044390677384715511:=Q
def tw10236237037428919187:=Q
def tw7204940996634940591:=Q
def tw6713288092969670990:=Q
def tw8004947561841849492:=Q
def tw3319097206899758293:=Q
def tw2738443073789589187:=Q
def tw12778187532219428231:=Q
def tw12075182471436740334:=Q
def tw1485744668891390238:=Q
def tw8357321907496307402:=Q
def tw16857083675597509695:=Q
def tw1955994021426177260:=Q
def tw6282139301577970025:=Q
def tw3174016441209505516:=Q
def tw14292625878289673580:=Q
def tw12590717552779987329:=Q
def tw3780910463587056776:=Q
def tw4529901379972309577:=Q
def tw10085645164612215934:=Q
def tw17355746482040960355:=Q
def tw1439877403204598048:=Q
def tw7653401870581434816:=Q
def tw15095148611026012910:=Q
def tw13967865469829106437:=Q
def tw15177017916993019781:=Q
def tw14380200924377057591:=Q
def tw11462466039510264585:=Q
def tw2509043393940502465:=Q
def tw12437349731512130174:=Q
def tw15749668883327743989:=Q
def tw2369646617757709888:=Q
def tw15761532204292982374:=Q
def tw9921614026559914706:=Q
def tw11897392099812709296:=Q
def tw5172654162254767768:=Q
def tw4609437264041685837:=Q
def tw3583690645935711450:=Q
def tw5621553747177576890:=Q
def tw11613142355519934777:=Q
def tw2454732603797818656:=Q
def tw16928032308129017700:=Q
def tw105582356993032717:=Q
def tw5935000265566844789:=Q
def tw3102002316945641029:=Q
def tw9513598489123492373:=Q
def tw10688355877530078934:=Q
def tw12043712594408861908:=Q
def tw17970023177049844314:=Q
def tw12393845262938740943:=Q
def tw4899603648772262747:=Q
def tw12756966829467507807:=Q
def tw10143424587730973562:=Q
def tw11218153736171233765:=Q
def tw2060403929885199212:=Q
def tw15796619228945189165:=Q
def tw6606236091633601452:=Q
def tw10660638759560676626:=Q
def tw452885705510341873:=Q
def tw2288425112540629937:=Q
def tw5958413599971877945:=Q
def tw13859591995446458494:=Q
def tw1850851772532987699:=Q
def tw17389012717408176613:=Q
def tw1021264771356220980:=Q
def tw13657583412979854890:=Q
def tw7125718029957205159:=Q
def tw10202477204764789412:=Q
def tw12759388667485121515:=Q
def tw7076555514785266433:=Q
def tw1895278060155235362:=Q
def tw3455638716187378813:=Q
def tw3847018734684006064:=Q
def tw10430693070692787275:=Q
def tw16614640129121024105:=Q
def tw16517782911315668886:=Q
def tw14716125956707800571:=Q
def tw7250290814502232674:=Q
def tw3258228728302676828:=Q
def tw11958099544303697293:=Q
def tw1097758802328498887:=Q
def tw2726679623782687837:=Q
def tw3980830989331595460:=Q
def tw7865261528737923077:=Q
def tw2418486608569331664:=Q
def tw277465340291234951:=Q
def tw3183300631288118943:=Q
def tw1139995523339201418:=Q
def tw8559424610295052390:=Q
def tw17794011778474243505:=Q
def tw17192513995327001651:=Q
def tw275682658904791298:=Q
def tw18402823644748456743:=Q
def tw6821108178161438849:=Q
def tw3009053454466601553:=Q
def tw6962248569427207702:=Q
def tw14920166906037019440:=Q
def tw7154090250800791028:=Q
def tw14936358884427868098:=Q
def tw11103619910529765928:=Q
def tw1505427773381162469:=Q
def tw3479392686630711545:=Q
def tw2388033599423848668:=Q
def tw16497339742746082540:=Q
def tw9069119697981172318:=Q
def tw4977200367091277454:=Q
def tw16381889727266946848:=Q
def tw17206110845616032569:=Q
def tw7952960483354915772:=Q
def tw6725477363219760167:=Q
def tw14990918666601954243:=Q
def tw141069136108120371:=Q
def tw10427230767399707185:=Q
def tw1828633144615551765:=Q
def tw17800455587642784669:=Q
def tw6044414253046456241:=Q
def tw5238128310115937946:=Q
def tw12486216048623462663:=Q
def tw17253718608492679744:=Q
def tw17495079156388506834:=Q
def tw11780641369216258539:=Q
def tw17179229987822710006:=Q
def tw10230917656217846836:=Q
def tw8477407376643131730:=Q
def tw3752818292944642172:=Q
def tw17613935503567322532:=Q
def tw10044009801262741873:=Q
def tw4920788290334853596:=Q
def tw8345013987762701747:=Q
def tw18158001549510420301:=Q
def tw18016340035636981207:=Q
def tw3849946129516063995:=Q
def tw16666024072046623601:=Q
def tw5030984743456007725:=Q
def tw8160500298273015253:=Q
def tw1218316917267822750:=Q
def tw15498452743104977324:=Q
def tw9400914374889642712:=Q
def tw7860888495696934690:=Q
def tw5847058011814710081:=Q
def tw4045194290379980923:=Q
def tw12541465565213898886:=Q
def tw5791062432306341080:=Q
def tw12879078015106545268:=Q
def tw507375151588906145:=Q
def tw2107639031981691111:=Q
def tw9187586207173687551:=Q
def tw14802167823475861407:=Q
def tw13779496949847390038:=Q
def tw5556801037614851156:=Q
def tw3406684592564079401:=Q
def tw3498565391467065928:=Q
def tw16896827728441418682:=Q
def tw1962378174932311254:=Q
def tw17312445320346781230:=Q
def tw2598075899641679869:=Q
def tw3969536714037614789:=Q
def tw15877944443400306281:=Q
def tw2987732393559842197:=Q
def tw13779876688888399568:=Q
def tw15602522252080745674:=Q
def tw14224368257979796704:=Q
def tw8989835040126390067:=Q
def tw8981341868616257081:=Q
def tw5416818524170858950:=Q
def tw3733393483742459137:=Q
def tw13478304001132513854:=Q
def tw8305354386341594225:=Q
def tw2244974857158063032:=Q
def tw13713689241499718066:=Q
def tw17182732621841251996:=Q
def tw11547091764192974874:=Q
def tw8423231765007195225:=Q
def tw6564259644356498253:=Q
def tw10962748970162398036:=Q
def tw16854122822878728412:=Q
def tw12761784471457926654:=Q
def tw6981690992474449182:=Q
def tw16285487018817379695:=Q
def tw2017778853183944360:=Q
def tw18090381823130043263:=Q
def tw7905687621117598396:=Q
def tw6182060628818798060:=Q
def tw8806813103269096540:=Q
def tw7019725218236574026:=Q
def tw2717113165939664284:=Q
def tw1005075459144576582:=Q
def tw17448217052052248547:=Q
def tw1059868886951749295:=Q
def tw16741069643737907598:=Q
def tw4487575514188466809:=Q
def tw16826247465996356587:=Q
def tw8490126561833603330:=Q
def tw6173583729562044821:=Q
def tw3258028656022835392:=Q
def tw1940793772662138218:=Q
def tw18124707665166202080:=Q
def tw3957960067317749821:=Q
def tw5783064205474754774:=Q
def tw15167030388817945305:=Q
def tw15047674236918841631:=Q
def tw15706484177764313834:=Q
def tw9631706028714702972:=Q
def tw3063063945056282630:=Q
def tw3593901561905666688:=Q
def tw13296806054222582783:=Q
def tw14890387833637565158:=Q
def tw14266809371926502667:=Q
def tw5307793105079546894:=Q
def tw339484967557370876:=Q
def tw1904292263158955185:=Q
def tw13399863928886710946:=Q
def tw266554053772958403:=Q
def tw15480891264411371236:=Q
def tw10059366737445999357:=Q
def tw8191021815095516535:=Q
def tw396878108943702457:=Q
def tw11160921791164943932:=Q
def tw13885856345478297846:=Q
def tw11213489506414864145:=Q
def tw18026066852121098198:=Q
def tw4327405896039592954:=Q
def tw11478721936453030940:=Q
def tw6642132378794435843:=Q
def tw9461026270218122855:=Q
def tw1065094523865701836:=Q
def tw12479293053083793433:=Q
def tw7864260870201103588:=Q
def tw16618158010818476156:=Q
def tw7226449292584171909:=Q
def tw4064130029374428820:=Q
def tw13947312189088561411:=Q
def tw14589527869613010673:=Q
def tw5622131537300566718:=Q
def tw6306229736146569775:=Q
def tw1355560111604150681:=Q
def tw6649030284361911874:=Q
def tw7734377185455985269:=Q
def tw8815388400865495948:=Q
def tw17050470532012845496:=Q
def tw13652165097052915874:=Q
def tw10212176003006866300:=Q
def tw17796366091641992373:=Q
def tw4977178062394658441:=Q
def tw4010351764056452689:=Q
def tw3505222479939347954:=Q
def tw15041475249015543619:=Q
def tw15235947576946583154:=Q
def tw2573532923789794027:=Q
def tw6233326850071883085:=Q
def tw9713113691754902783:=Q
def tw3615801698546161284:=Q
def tw3711418338392596012:=Q
def tw12430496575846220881:=Q
def tw10496183683304300870:=Q
def tw12169465796503007314:=Q
def tw7843461349555362382:=Q
def tw18160378642194606491:=Q
def tw3880124193367392678:=Q
def tw9543368678244697544:=Q
def tw11010507824360529220:=Q
def tw5333544146459345707:=Q
def tw11210206279915000363:=Q
def tw3153649227929799631:=Q
def tw16093496952016164058:=Q
def tw5730930332594432197:=Q
def tw14069868820811042869:=Q
def tw7317243312804288245:=Q
def tw10504384113237019477:=Q
def tw6104364076562376670:=Q
def tw5660565971163610365:=Q
def tw1577655551771206938:=Q
def tw16937037905383901758:=Q
def tw1498291596590499871:=Q
def tw14471514197512210509:=Q
def tw15349733136860716622:=Q
def tw14286535770055143955:=Q
def tw9024350776623834613:=Q
def tw4462095823264374340:=Q
def tw3296382393386869890:=Q
def tw2562193582191907716:=Q
def tw8744230735219787269:=Q
def tw8931350235743414541:=Q
def tw69132867311123708:=Q
def tw802685987015285576:=Q
def tw12840861463808251488:=Q
def tw16229268094480601047:=Q
def tw2002094032007592522:=Q
def tw16067150101783526029:=Q
def tw13315748983075533026:=Q
def tw14555510246690771407:=Q
def tw15700384858989653937:=Q
def tw9493437896603877955:=Q
def tw3266604119988903910:=Q
def tw12323725223459421043:=Q
def tw16693160301365258586:=Q
def tw7694769197799922732:=Q
def tw3521306599334546875:=Q
def tw10895313254217753419:=Q
def tw11916894805129823614:=Q
def tw17459424525561288188:=Q
def tw5219779620051342013:=Q
def tw1713979269681198135:=Q
def tw7601487079473094487:=Q
def tw11977156229560177050:=Q
def tw10860430729636228484:=Q
def tw940466895269351550:=Q
def tw2829395358681477254:=Q
def tw6365701207860313588:=Q
def tw14828283115398387853:=Q
def tw13629096455960137968:=Q
def tw15421510699456534780:=Q
def tw7538215506545618543:=Q
def tw6802120338009823556:=Q
def tw4217512472672341884:=Q
def tw18420655468046945390:=Q
def tw7745057675460526130:=Q
def tw3846842999460022832:=Q
def tw18407093201990996381:=Q
def tw12096073890359963659:=Q
def tw17526066662092781280:=Q
def tw6546853238442265199:=Q
def tw2526076796220684337:=Q
def tw7500794285117339507:=Q
def tw1751660271950452653:=Q
def tw7252893388257537415:=Q
def tw11242985395333444127:=Q
def tw9742525837198501329:=Q
def tw16954763351978247061:=Q
def tw17164430023470264703:=Q
def tw13137043799348562273:=Q
def tw2758509982380693342:=Q
def tw7192632349522131152:=Q
def tw4379732951375439131:=Q
def tw6331891913004531872:=Q
def tw4391450259719068289:=Q
def tw4487472683123464418:=Q
def tw11553268843434737211:=Q
def tw11480165980716134663:=Q
def tw13485474512286684573:=Q
def tw14235017273640752999:=Q
def tw13046049040475953871:=Q
def tw9412443100712359234:=Q
def tw10103913084823294521:=Q
def tw16316110984211400642:=Q
def tw8995901836658380461:=Q
def tw14229972531948038377:=Q
def tw10859100170076709403:=Q
def tw7620336127950774948:=Q
def tw6235543644864942612:=Q
def tw4320897594893139678:=Q
def tw14060225273099018307:=Q
def tw7953276122055116333:=Q
def tw15546240748609537878:=Q
def tw4841415155847861631:=Q
def tw8463442942921937630:=Q
def tw11327719503651225537:=Q
def tw17786516464325757661:=Q
def tw6718701006256054787:=Q
def tw7834145166989999638:=Q
def tw16798296900872251675:=Q
def tw1699164622411853191:=Q
def tw8636831501814468404:=Q
def tw3609870491603718989:=Q
def tw6602169110733007206:=Q
def tw1499217527217753587:=Q
def tw15242274265791501507:=Q
def tw15133473378616634236:=Q
def tw1637222664926305664:=Q
def tw11183427995550654717:=Q
def tw5035329283754188358:=Q
def tw13482576772416521643:=Q
def tw13203062591618608515:=Q
def tw883798145165634643:=Q
def tw8187711770832989162:=Q
def tw9420542968104753512:=Q
def tw3682959281667209416:=Q
def tw578953332856781397:=Q
def tw7115972014790619706:=Q
def tw9200158899757264468:=Q
def tw17631070264515962845:=Q
def tw944126824406670881:=Q
def tw16821417097174948178:=Q
def tw4314567519117062254:=Q
def tw17855276821704466440:=Q
def tw11056835200610424947:=Q
def tw1690105013083752352:=Q
def tw18067111581549875609:=Q
def tw8631858991203174297:=Q
def tw11590405818857986493:=Q
def tw14180984846326848306:=Q
def tw1764295001953022017:=Q
def tw13731340291194998836:=Q
def tw1221800110821858455:=Q
def tw378917115934360493:=Q
def tw11205171427076355910:=Q
def tw10201935370309687361:=Q
def tw4724967674365799365:=Q
def tw4087140035166909732:=Q
def tw13059412017633621441:=Q
def tw16922171345544274275:=Q
def tw15434652554861403092:=Q
def tw4293179252282679273:=Q
def tw12067050768783135012:=Q
def tw9392692788022092044:=Q
def tw2190943787638634309:=Q
def tw1824616693984092832:=Q
def tw16839269766359737304:=Q
def tw11215585195856272718:=Q
def tw3707147227774468160:=Q
def tw10098602066159741347:=Q
def tw10845762483175616212:=Q
def tw10529891779172467961:=Q
def tw11085842565436014099:=Q
def tw656845628592789871:=Q
def tw13508099722381288006:=Q
def tw4195203586264733054:=Q
def tw6948469933192467924:=Q
def tw8007255081036085949:=Q
def tw9858374135625418358:=Q
def tw852080077537066402:=Q
def tw1715407865133412458:=Q
def tw7058167692317064464:=Q
def tw8142243667412836052:=Q
def tw392168990801599164:=Q
def tw17417573730487325594:=Q
def tw12700855319640905791:=Q
def tw12505168666195170330:=Q
def tw11096366217329032189:=Q
def tw10177302702042432070:=Q
def tw6805725081545685924:=Q
def tw10234971617750504529:=Q
def tw18145977904599551074:=Q
def tw13760188627292148322:=Q
def tw1950285737936867824:=Q
def tw9746253562572190230:=Q
def tw10135573355766478887:=Q
def tw4119062719694464855:=Q
def tw2306135775482617190:=Q
def tw17555266322154838934:=Q
def tw13349386923962953072:=Q
def tw11414755807265913481:=Q
def tw4528651378408523462:=Q
def tw5882528053507353477:=Q
def tw7688443787404763468:=Q
def tw4452598267643545038:=Q
def tw17148974836534154472:=Q
def tw1903462659717917804:=Q
def tw2359682059854148166:=Q
def tw16303211250005450814:=Q
def tw5360123944208853261:=Q
def tw17899598629706284129:=Q
def tw12617283225599566882:=Q
def tw1691521549547932583:=Q
def tw9713749538849295069:=Q
def tw13650239321770170409:=Q
def tw6867701428319055824:=Q
def tw2531545375818856472:=Q
def tw3795346912241858734:=Q
def tw7379251378968661343:=Q
def tw12745268782339495267:=Q
def tw8569700456028294622:=Q
def tw8024358850966466099:=Q
def tw13725403606853492448:=Q
def tw16803463511436320233:=Q
def tw14835650670984986979:=Q
def tw8635328925945789683:=Q
def tw3034140581726712105:=Q
def tw10663793923684881612:=Q
def tw10556839605453460328:=Q
def tw2634642132851884859:=Q
def tw3222980052199413234:=Q
def tw12134015011443914694:=Q
def tw1079270135960130746:=Q
def tw10100247041281931829:=Q
def tw5911507133055269218:=Q
def tw11532149479991059631:=Q
def tw3250747964067092508:=Q
def tw17120931501051813014:=Q
def tw9083360562733626109:=Q
def tw6937328391732712648:=Q
def tw16240484649063181021:=Q
def tw8342616686368113712:=Q
def tw10444760274233812112:=Q
def tw4389492359815526486:=Q
def tw2229727919515161946:=Q
def tw8328973660889200691:=Q
def tw3265083831939128195:=Q
def tw3681577580627418386:=Q
def tw18243199063757975021:=Q
def tw15905197305922624406:=Q
def tw5485818221013824911:=Q
def tw17691123845793206838:=Q
def tw14813832495499331270:=Q
def tw6074183339479832146:=Q
def tw4005212583531633433:=Q
def tw15122985639121933132:=Q
def tw8978058563545788529:=Q
def tw16436975880393186125:=Q
def tw3567858076600283902:=Q
def tw16543456637802645448:=Q
def tw9234048447960100814:=Q
def tw10399367942307367078:=Q
def tw16386616978874268063:=Q
def tw5228168906987833042:=Q
def tw14893761143758763884:=Q
def tw7304562229608084712:=Q
def tw489185132185915574:=Q
end
end PySem.W.Fast
open PySem PySem.W PyProof.Rows
set_option maxRecDepth 100000 in
set_option maxHeartbeats 0 in
theorem PySem.Challenge.cw_ohmyard_k36_refused_then_good_holds : PySem.Challenge.rw_ohmyard_k36_refused_then_good.Holds := by
  w_on; o_law; z_head; (case hw => w_witness2)
  k_fill
  refine L2.Oh (fun _ => by kernel_rfl) (K36.qo3 (l := PySem.Challenge.rw_ohmyard_k36_refused_then_good) rfl rfl (fun w h Y => Y) ?F)
  case F =>
    intro w mg fa h KX G hmg
    refine' K36.Ze hmg (mg_of KX G ?Zcx) (mg_of KX G ?Zcy) (mg_of KX G ?Zcz) (mg_of KX G ?ZcA) (mg_of KX G ?ZcB) (mg_of KX G ?ZcC) (mg_of KX G ?ZcD) (mg_of KX G ?ZcE) (mg_of KX G ?ZcF) (mg_of KX G ?ZcG) (mg_of KX G ?ZcH) (mg_of KX G ?ZcI) (mg_of KX G ?ZcJ) (mg_of KX G ?ZcK) (mg_of KX G ?ZcL) (mg_of KX G ?ZcM) (mg_of KX G ?ZcN) (mg_of KX G ?ZcO) (mg_of KX G ?ZcP) (mg_of KX G ?ZcQ) ?ZcR ?i1 ?F1 ?ZcS ?i2 ?F2 (mg_of KX G ?a3) ?F3 (mg_of KX G ?a4) ?F4 (mg_of KX G ?a5) ?F5 (mg_of KX G ?a6) ?l6 ?c6 ?k6 ?lt6 (mg_of KX G ?a7) ?F7 (mg_of KX G ?a8) ?F8 (mg_of KX G ?a9) ?F9 (mg_of KX G ?a10) ?F10 (mg_of KX G ?a11) ?F11 (mg_of KX G ?a12) ?F12 ?ZcT ?ZcU ?ZcV ?i13 ?F13 ?ZcW ?i14 ?F14 ?ZcX ?i15 ?F15 ?ZcY ?i16 ?F16 ?ZcZ ?i17 ?F17 ?Zc0 ?i18 ?F18 ?Zc1 ?i19 ?F19 ?Zc2 ?Zc3 ?Zc4 ?i20 ?F20 (mg_of KX G ?a21) ?F21 ?Zc5 ?i22 ?F22 ?Zc6 ?i23 ?F23 ?Zc7 ?i24 ?F24 (mg_of KX G ?a25) ?F25 (mg_of KX G ?a26) ?F26 (mg_of KX G ?a27) ?F27 (mg_of KX G ?a28) ?F28 ?Zc8 ?i29 ?F29 ?Zc9 ?i30 ?F30 ?Zda ?i31 ?F31 ?Zdb ?i32 ?F32 ?Zdc ?i33 ?F33 (mg_of KX G ?a34) ?F34 (mg_of KX G ?a35) ?F35 (mg_of KX G ?a36) ?F36 (mg_of KX G ?a37) ?F37 (mg_of KX G ?a38) ?F38 (mg_of KX G ?a39) ?F39 (mg_of KX G ?a40) ?l40 ?c40 ?k40 ?Zdd (mg_of KX G ?a41) ?F41 (mg_of KX G ?a42) ?F42 (mg_of KX G ?a43) ?F43 (mg_of KX G ?a44) ?F44 (mg_of KX G ?a45) ?F45 (mg_of KX G ?a46) ?F46 (mg_of KX G ?a47) ?F47 (mg_of KX G ?a48) ?F48 (mg_of KX G ?a49) ?F49 (mg_of KX G ?a50) ?F50 (mg_of KX G ?a51) ?F51 (mg_of KX G ?a52) ?F52 (mg_of KX G ?a53) ?F53 (mg_of KX G ?a54) ?F54 (mg_of KX G ?a55) ?F55 ?Zde ?i56 ?F56 ?Zdf ?i57 ?F57 ?Zdg ?i58 ?F58 (mg_of KX G ?a59) ?F59 (mg_of KX G ?a60) ?F60 (mg_of KX G ?a61) ?F61 (mg_of KX G ?a62) ?F62 (mg_of KX G ?a63) ?F63 (mg_of KX G ?a64) ?F64 (mg_of KX G ?a65) ?F65 (mg_of KX G ?a66) ?F66 (mg_of KX G ?a67) ?F67 (mg_of KX G ?a68) ?F68 (mg_of KX G ?a69) ?F69 (mg_of KX G ?a70) ?F70 (mg_of KX G ?a71) ?F71 (mg_of KX G ?a72) ?F72 (mg_of KX G ?a73) ?F73 (mg_of KX G ?a74) ?F74 (mg_of KX G ?a75) ?l75 ?c75 ?k75 (mg_of KX G ?Zdh) (mg_of KX G ?Zdi) (mg_of KX G ?Zdj) (mg_of KX G ?Zdk) (mg_of KX G ?Zdl) ?lF ?lG ?lE ?Zdm ?Zdn ?tyF ?tyG ?ci1 ?ci2 ?ci3 ?Zdo ?Zdp ?Zdq ?Zdr ?Zds ?Zdt ?Zdu ?eFO ?eGO ?ePP ?t1F ?t1G ?t2F ?t2G ?vF ?vG ?gf1 ?gf2 ?Zdv ?Zdw ?Zdx ?Zdy ?Zdz ?ZdA ?ZdB ?ZdC ?ZdD ?ZdE ?ZdF ?ZdG ?ZdH ?ZdI ?ZdJ ?ZdK ?lO ?lN ?lJ ?ZdL ?ZdM ?ZdN ?ZdO ?ZdP ?ZdQ ?ZdR ?ZdS ?ZdT ?ZdU ?ZdV ?ZdW ?ZdX ?ZdY ?ZdZ ?Zd0 ?Zd1 ?Zd2 ?Zd3 ?Zd4 ?Zd5 ?Zd6 ?Zd7 ?Zd8 ?Zd9 ?Zea ?Zeb ?Zec ?Zed ?Zee ?Zef ?Zeg ?Zeh ?tt2 ?tt3 ?Zei ?Zej ?Zek ?Zel ?Zem ?Zen ?Zeo ?Zep ?Zeq ?Zer ?Zes ?Zet ?Zeu ?Zev ?Zew ?Zex ?Zey ?Zez ?ZeA ?ZeB ?ZeC ?ZeD ?ZeE ?ZeF ?ZeG ?ZeH ?ZeI ?ZeJ ?ZeK ?ZeL (mg_none_of KX G ?z1) (mg_none_of KX G ?z2) (mg_none_of KX G ?z3) (mg_none_of KX G ?z4) (mg_none_of KX G ?z5) (mg_none_of KX G ?z6) (mg_none_of KX G ?z7) (mg_none_of KX G ?z8) (mg_none_of KX G ?z9) (mg_none_of KX G ?z10) (mg_none_of KX G ?z11) (mg_none_of KX G ?z12) (mg_none_of KX G ?z13) (mg_none_of KX G ?z14)
    (case Zcx=>k_is);(case Zcy=>k_is);(case Zcz=>k_is);(case ZcA=>k_is);(case ZcB=>k_is);(case ZcC=>k_is);(case ZcD=>k_is);(case ZcE=>k_is);(case ZcF=>k_is);(case ZcG=>k_is);(case ZcH=>k_is);(case ZcI=>k_is);(case ZcJ=>k_is);(case ZcK=>k_is);(case ZcL=>k_is);(case ZcM=>k_is);(case ZcN=>k_is);(case ZcO=>k_is);(case ZcP=>k_is);(case ZcQ=>k_is);(case ZcR=>k_is);(case i1=>k_is);(case F1=>walk_at "F9");(case ZcS=>k_is);(case i2=>k_is);(case F2=>walk_at "F9");(case a3=>k_is);(case F3=>walk_at "F9");(case a4=>k_is);(case F4=>walk_at "F9");(case a5=>k_is);(case F5=>walk_at "F9");(case a6=>k_is);(case l6=>k_is);(case c6=>k_is);(case k6=>show _=_;k_is);(case lt6=>k_is);(case a7=>k_is);(case F7=>walk_at "F9");(case a8=>k_is);(case F8=>walk_at "F9");(case a9=>k_is);(case F9=>walk_at "F9");(case a10=>k_is);(case F10=>walk_at "F9");(case a11=>k_is);(case F11=>walk_at "F9");(case a12=>k_is);(case F12=>walk_at "F9")
    (case ZcT=>k_is);(case ZcU=>k_is);(case ZcV=>k_is);(case i13=>k_is);(case F13=>walk_at "F9");(case ZcW=>k_is);(case i14=>k_is);(case F14=>walk_at "F9");(case ZcX=>k_is);(case i15=>k_is);(case F15=>walk_at "F9");(case ZcY=>k_is);(case i16=>k_is);(case F16=>walk_at "F9");(case ZcZ=>k_is);(case i17=>k_is);(case F17=>walk_at "F9");(case Zc0=>k_is);(case i18=>k_is);(case F18=>walk_at "F9");(case Zc1=>k_is);(case i19=>k_is);(case F19=>walk_at "F9");(case Zc2=>k_is);(case Zc3=>k_is);(case Zc4=>k_is);(case i20=>k_is);(case F20=>walk_at "F9");(case a21=>k_is);(case F21=>walk_at "F9");(case Zc5=>k_is);(case i22=>k_is);(case F22=>walk_at "F9");(case Zc6=>k_is);(case i23=>k_is);(case F23=>walk_at "F9");(case Zc7=>k_is);(case i24=>k_is);(case F24=>walk_at "F9");(case a25=>k_is);(case F25=>walk_at "F9");(case a26=>k_is);(case F26=>walk_at "F9");(case a27=>k_is);(case F27=>walk_at "F9");(case a28=>k_is)
    (case F28=>walk_at "F9");(case Zc8=>k_is);(case i29=>k_is);(case F29=>walk_at "F9");(case Zc9=>k_is);(case i30=>k_is);(case F30=>walk_at "F9");(case Zda=>k_is);(case i31=>k_is);(case F31=>walk_at "F9");(case Zdb=>k_is);(case i32=>k_is);(case F32=>walk_at "F9");(case Zdc=>k_is);(case i33=>k_is);(case F33=>walk_at "F9");(case a34=>k_is);(case F34=>walk_at "F9");(case a35=>k_is);(case F35=>walk_at "F9");(case a36=>k_is);(case F36=>walk_at "F9");(case a37=>k_is);(case F37=>walk_at "F9");(case a38=>k_is);(case F38=>walk_at "F9");(case a39=>k_is);(case F39=>walk_at "F9");(case a40=>k_is);(case l40=>k_is);(case c40=>k_is);(case k40=>show _=_;k_is);(case Zdd=>k_is);(case a41=>k_is);(case F41=>walk_at "F9");(case a42=>k_is);(case F42=>walk_at "F9");(case a43=>k_is);(case F43=>walk_at "F9");(case a44=>k_is);(case F44=>walk_at "F9");(case a45=>k_is);(case F45=>walk_at "F9");(case a46=>k_is);(case F46=>walk_at "F9")
    (case a47=>k_is);(case F47=>walk_at "F9");(case a48=>k_is);(case F48=>walk_at "F9");(case a49=>k_is);(case F49=>walk_at "F9");(case a50=>k_is);(case F50=>walk_at "F9");(case a51=>k_is);(case F51=>walk_at "F9");(case a52=>k_is);(case F52=>walk_at "F9");(case a53=>k_is);(case F53=>walk_at "F9");(case a54=>k_is);(case F54=>walk_at "F9");(case a55=>k_is);(case F55=>walk_at "F9");(case Zde=>k_is);(case i56=>k_is);(case F56=>walk_at "F9");(case Zdf=>k_is);(case i57=>k_is);(case F57=>walk_at "F9");(case Zdg=>k_is);(case i58=>k_is);(case F58=>walk_at "F9");(case a59=>k_is);(case F59=>walk_at "F9");(case a60=>k_is);(case F60=>walk_at "F9");(case a61=>k_is);(case F61=>walk_at "F9");(case a62=>k_is);(case F62=>walk_at "F9");(case a63=>k_is);(case F63=>walk_at "F9");(case a64=>k_is);(case F64=>walk_at "F9");(case a65=>k_is);(case F65=>walk_at "F9");(case a66=>k_is);(case F66=>walk_at "F9");(case a67=>k_is)
    (case F67=>walk_at "F9");(case a68=>k_is);(case F68=>walk_at "F9");(case a69=>k_is);(case F69=>walk_at "F9");(case a70=>k_is);(case F70=>walk_at "F9");(case a71=>k_is);(case F71=>walk_at "F9");(case a72=>k_is);(case F72=>walk_at "F9");(case a73=>k_is);(case F73=>walk_at "F9");(case a74=>k_is);(case F74=>walk_at "F9");(case a75=>k_is);(case l75=>k_is);(case c75=>k_is);(case k75=>show _=_;k_is);(case Zdh=>k_is);(case Zdi=>k_is);(case Zdj=>k_is);(case Zdk=>k_is);(case Zdl=>k_is);(case lF=>k_is);(case lG=>k_is);(case lE=>k_is);(case Zdm=>k_exc);(case Zdn=>k_exc);(case tyF=>k_is);(case tyG=>k_is);(case ci1=>k_is);(case ci2=>k_is);(case ci3=>k_is);(case Zdo=>k_is);(case Zdp=>k_is);(case Zdq=>k_is);(case Zdr=>k_is);(case Zds=>k_is);(case Zdt=>k_is);(case Zdu=>k_is);(case eFO=>kts_exm);(case eGO=>kts_exm);(case ePP=>kts_exm);(case t1F=>kit_is);(case t1G=>kit_is);(case t2F=>kit_is);(case t2G=>kit_is)
    (case vF=>kit_is);(case vG=>kit_is);(case gf1=>kit_is);(case gf2=>kit_is);(case Zdv=>k_is);(case Zdw=>k_is);(case Zdx=>k_is);(case Zdy=>k_is);(case Zdz=>k_is);(case ZdA=>k_is);(case ZdB=>k_is);(case ZdC=>first | k_is | rfl | decide);(case ZdD=>k_is);(case ZdE=>k_is);(case ZdF=>k_is);(case ZdG=>k_is);(case ZdH=>k_is);(case ZdI=>k_is);(case ZdJ=>k_is);(case ZdK=>first | k_is | rfl | decide);(case lO=>k_is);(case lN=>k_is);(case lJ=>k_is);(case ZdL=>k_is);(case ZdM=>k_is);(case ZdN=>k_is);(case ZdO=>k_is);(case ZdP=>k_is);(case ZdQ=>show _=_;k_is);(case ZdR=>k_is);(case ZdS=>k_is);(case ZdT=>k_is);(case ZdU=>k_is);(case ZdV=>k_is);(case ZdW=>k_is);(case ZdX=>k_is);(case ZdY=>k_is);(case ZdZ=>k_is);(case Zd0=>k_is);(case Zd1=>show _=_;k_is);(case Zd2=>k_is);(case Zd3=>k_is);(case Zd4=>k_is);(case Zd5=>k_is);(case Zd6=>k_is);(case Zd7=>k_is);(case Zd8=>k_is);(case Zd9=>k_is);(case Zea=>k_is)
    (case Zeb=>k_is);(case Zec=>show _=_;k_is);(case Zed=>k_is);(case Zee=>k_is);(case Zef=>k_is);(case Zeg=>k_is);(case Zeh=>k_is);(case tt2=>k_is);(case tt3=>k_is);(case Zei=>kit_is);(case Zej=>kit_is);(case Zek=>kit_is);(case Zel=>kit_is);(case Zem=>kit_is);(case Zen=>kit_is);(case Zeo=>kit_is);(case Zep=>kit_is);(case Zeq=>kit_is);(case Zer=>k_is);(case Zes=>k_is);(case Zet=>k_is);(case Zeu=>k_is);(case Zev=>k_is);(case Zew=>show _=_;k_is);(case Zex=>k_is);(case Zey=>k_is);(case Zez=>k_is);(case ZeA=>k_is);(case ZeB=>k_is);(case ZeC=>k_is);(case ZeD=>k_is);(case ZeE=>k_is);(case ZeF=>k_is);(case ZeG=>show _=_;k_is);(case ZeH=>k_is);(case ZeI=>k_is);(case ZeJ=>k_is);(case ZeK=>k_is);(case ZeL=>k_is);(case z1=>k_is);(case z2=>k_is);(case z3=>k_is);(case z4=>k_is);(case z5=>k_is);(case z6=>k_is);(case z7=>k_is);(case z8=>k_is);(case z9=>k_is);(case z10=>k_is);(case z11=>k_is);(case z12=>k_is)
    (case z13=>k_is);(case z14=>k_is)
