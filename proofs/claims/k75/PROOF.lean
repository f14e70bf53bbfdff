import PyProof.Rows.All
import Wide.All
import OpenK.AllK
import Wide.FinOn
import Lean
import PyProof.EqAt
import PyProof.EqKinds
import PyProof.TupleCall
import PyProof.Cells
import PyProof.SumWalkG
import PyProof.EnumStmt
import PyProof.EnumMake
import PyProof.InstStoreFacts
import KE.KDictList
import PySem.Challenge.RW_ohmyard_k75_there_and_back
set_option Elab.async false
set_option linter.all false
set_option maxRecDepth 100000
open PySem.W (Frag)
set_option maxHeartbeats 4000000
open List
namespace L2
open PySem PySem.Spec PyProof.Rows
abbrev Key:=Sum Int Str
def xG:Key->Value->Bool
 | .inl k,v=>Value.isInt k v
 | .inr x,v=>Value.isStrOf x v
def qe5 (w:World):Key->Int
 | .inl k=>hashInt k
 | .inr x=>hashStr w x
theorem eO:∀{k:Key} {v:Value},xG k v=true->(∃i t,k=Sum.inl i/\v=Value.int i t)\/(∃x t,k=Sum.inr x/\v=Value.str x t)
 | .inl i,v,h=>by
  obtain⟨t,e⟩:=Value.isInt_shape (k:=i) (v:=v) h;exact .inl ⟨i,t,rfl,e⟩
 | .inr x,v,h=>by
  obtain⟨t,e⟩:=Value.isStrOf_shape (x:=x) (v:=v) h;exact .inr ⟨x,t,rfl,e⟩
theorem Kq (i:Int)(t:Tok):xG (.inl i) (.int i t)=true:=by simp[xG,Value.isInt]
theorem Jz (x:Str)(t:Tok):xG (.inr x) (.str x t)=true:=by simp[xG,Value.isStrOf]
theorem Xh (a b:Int):decide ((Sum.inl a:Key)=Sum.inl b)=(a == b):=by
 by_cases e:a=b
 ·subst e;simp
 ·have h:¬(Sum.inl a:Key)=Sum.inl b:=fun q=>e (Sum.inl.inj q);rw[decide_eq_false h];exact(beq_eq_false_iff_ne.mpr e).symm
theorem Ys (a b:Str):decide ((Sum.inr a:Key)=Sum.inr b)=decide (a=b):=by
 by_cases e:a=b
 ·subst e;simp
 ·have h:¬(Sum.inr a:Key)=Sum.inr b:=fun q=>e (Sum.inr.inj q);rw[decide_eq_false h,decide_eq_false e]
theorem Vx (a:Int)(b:Str):decide ((Sum.inl a:Key)=Sum.inr b)=false:=decide_eq_false (fun q=>nomatch q)
theorem Vm (a:Str)(b:Int):decide ((Sum.inr a:Key)=Sum.inl b)=false:=decide_eq_false (fun q=>nomatch q)
def eQ (prog:Program)(w:World):PySem.KeyKind prog w Key where
 is:=xG
 hash:=qe5 w
 inj:=fun v a b ha hb=>by
  rcases eO ha with ⟨i,t,rfl,rfl⟩ | ⟨x,t,rfl,rfl⟩
  ·rcases eO hb with ⟨j,u,rfl,e⟩ | ⟨y,u,rfl,e⟩
   ·injection e with e1 _;rw[e1]
   ·exact nomatch e
  ·rcases eO hb with ⟨j,u,rfl,e⟩ | ⟨y,u,rfl,e⟩
   ·exact nomatch e
   ·injection e with e1 _;rw[e1]
 byValue:=fun k v h=>by
  rcases eO h with ⟨i,t,rfl,rfl⟩ | ⟨x,t,rfl,rfl⟩<;>rfl
 pyHash:=fun hv h=>by
  rcases eO hv with ⟨i,t,rfl,rfl⟩ | ⟨x,t,rfl,rfl⟩
  ·exact wpAny_pyHash_int h
  ·exact wpAny_pyHash_str h
 eqBool:=fun hu hv h=>by
  rcases eO hu with ⟨i,t,rfl,rfl⟩ | ⟨x,t,rfl,rfl⟩
  ·rcases eO hv with ⟨j,u,rfl,rfl⟩ | ⟨y,u,rfl,rfl⟩
   ·rw[Xh] at h;exact wpAny_eqBool_int h
   ·rw[Vx] at h;exact SeqAt.EqAt.int_str i t y u _ _ _ _ h
  ·rcases eO hv with ⟨j,u,rfl,rfl⟩ | ⟨y,u,rfl,rfl⟩
   ·rw[Vm] at h;exact SeqAt.EqAt.str_int x t j u _ _ _ _ h
   ·rw[Ys] at h;exact wpAny_eqBool_str h
 «strs»:=fun k x t v h=>by
  rcases eO h with ⟨i,u,rfl,e⟩ | ⟨y,u,rfl,e⟩
  ·exact nomatch e
  ·injection e with e1 _
   subst e1
   cases v<;>rfl
theorem De (prog:Program)(w:World)(i:Int)(t:Tok):(eQ prog w).is (.inl i) (.int i t)=true:=Kq i t
theorem Dv (prog:Program)(w:World)(x:Str)(t:Tok):(eQ prog w).is (.inr x) (.str x t)=true:=Jz x t
inductive V where
 |non | bl (b:Bool) | int (i:Int) | str (x:Str) | byt (b:Array UInt8) | flt (b:UInt64) | ref (a:Addr) | ty (n:String)
 deriving DecidableEq
def cH:V->Value->Prop
 | .non,u=>u=Value.none
 | .bl b,u=>u=Value.bool b
 | .int i,u=>∃t,u=Value.int i t
 | .str x,u=>∃t,u=Value.str x t
 | .byt b,u=>∃t,u=Value.bytes b t
 | .flt b,u=>∃t,u=Value.float b t
 | .ref a,u=>u=Value.ref a
 | .ty n,u=>u=Value.type n
abbrev cB:List V->List Value->Prop:=Paired cH
theorem cB.length {xs:List V}{us:List Value}(r:cB xs us):xs.length=us.length:=Paired.length r
theorem cB.get:∀{xs:List V} {us:List Value} {i:Nat} {x:V},cB xs us->xs[i]?=some x->∃u,us[i]?=some u/\cH x u
 |_,_,_,_,.nil,e=>by simp at e
 |_,_,0,_,.cons r _,e=>by simp at e;subst e;exact⟨_,rfl,r⟩
 |_,_,i+1,x,.cons _ t,e=>by
  obtain⟨u,h1,h2⟩:=cB.get (i:=i) (x:=x) t (by simpa using e);exact⟨u,by simpa using h1,h2⟩
theorem cB.set {x:V}{u:Value}(r:cH x u):∀{xs:List V} {us:List Value} (i:Nat),cB xs us->cB (xs.set i x) (us.set i u)
 |_,_,_,.nil=>.nil
 |_,_,0,.cons _ t=>.cons r t
 |_,_,i+1,.cons q t=>.cons q (cB.set r i t)
theorem cB.append:∀{xs ys:List V} {us ws:List Value},cB xs us->cB ys ws->cB (xs++ys) (us++ws)
 |_,_,_,_,.nil,s=>s
 |_,_,_,_,.cons r t,s=>.cons r (cB.append t s)
theorem cB.take:∀{xs:List V} {us:List Value} (n:Nat),cB xs us->cB (xs.take n) (us.take n)
 |_,_,0,_=>.nil
 |_,_,_+1,.nil=>.nil
 |_,_,n+1,.cons r t=>.cons r (cB.take n t)
theorem cB.drop:∀{xs:List V} {us:List Value} (n:Nat),cB xs us->cB (xs.drop n) (us.drop n)
 |_,_,0,r=>r
 |_,_,_+1,.nil=>.nil
 |_,_,n+1,.cons _ t=>cB.drop n t
def kL:Option V->Option Value->Prop
 |some v,some u=>cH v u
 |none,none=>True
 |_,_=>False
def KV {κ:Type}:List (κ × V)->List (κ × Value)->Prop:=Paired fun (p:κ × V) (q:κ × Value)=>p.1=q.1/\cH p.2 q.2
def kV:Key->V
 | .inl i=>.int i
 | .inr x=>.str x
inductive HO where
 |lst (xs:List V)
 |tup (xs:List V)
 |dK (kvs:List (Key × V)) | dT (kvs:List (List Key × V))
 |set (S:Int->Bool) (n:Nat)
 |ins (C dx:Addr) (fs:List (Str × V))
 |own (x:Addr)
 |xd (fs:List (Str × V))
 |met (f x:Addr)
 |rng (lo hi:Int)
 |frz (o:Obj) (u:HO)
 |tbl (ps:Array Value)
 |ext (φ:Heap->Prop)
abbrev Hp:=Addr->Option HO
def upd (H:Hp)(a:Addr)(o:HO):Hp:=fun b=>if b=a then some o else H b
theorem aC {H:Hp}{a:Addr}{o:HO}:upd H a o a=some o:=by unfold upd;rw[if_pos rfl]
theorem aY {H:Hp}{a b:Addr}{o:HO}(h:b≠a):upd H a o b=H b:=by unfold upd;rw[if_neg h]
theorem pJ {H:Hp}{a:Addr}{o u:HO}:upd (upd H a o) a u=upd H a u:=by
 funext b;unfold upd;split<;>rfl
theorem dD {H:Hp}{a b:Addr}{o u:HO}(h:H a=some o)(h':H b=some u)(d:o≠u):a≠b:=by
 intro e;subst e;rw[h] at h';exact d (Option.some.inj h')
theorem aL {H:Hp}{a b:Addr}{o:HO}(h:H a=some o)(h':H b=none):a≠b:=by
 intro e;subst e;rw[h] at h';cases h'
section
variable (P:Program) (w:World)
def eJ (H:Hp)(h:Heap)(a:Addr):HO->Prop
 | .lst xs=>xs.length<=sizeLine/\∃(its:List Value) (n:Nat),cB xs its/\h.get? a=some { cls:=.type "list",data:=.seq its.toArray n }
 | .tup xs=>xs.length<=sizeLine/\∃its:List Value,cB xs its/\IsTup h a its.toArray
 | .dK kvs=>kvs.length<=sizeLine/\(a == sysModules)=false/\∃vs,KV kvs vs/\h.DictOf (eQ P w) a vs
 | .dT kvs=>kvs.length<=sizeLine/\(a == sysModules)=false/\∃xs:List (List Key × Addr × Value),
   Paired (fun (p:List Key × V) (q:List Key × Addr × Value)=>p.1=q.1/\H q.2.1=some (.tup (p.1.map kV))/\cH p.2 q.2.2) kvs xs/\
   ∃o es ep,h.get? a=some o/\o.ExactDict/\o.data=.dict es ep/\es.toList=xs.map (entryOfKey (tupleKind (eQ P w)))/\(xs.map (·.1)).Nodup
 | .set S n=>h.SetOf (intKind P w) a S n
 | .ins C dx fs=>H dx=some (.own a)/\fs.length<=1000/\dx≠a/\h.get? a=some (W.instObj C dx)/\
   ∃mA,h.Ns1 dx mA/\(∀f,kL (fs.lookup f) (mA f))/\PySem.Within mA (fs.map (·.1))
 | .own _=>∃o,h.get? a=some o
 | .xd fs=>∃mA,h.Ns1 a mA/\∀f,kL (fs.lookup f) (mA f)
 | .rng lo hi=>∃t u v,h.get? a=some { cls:=.type "range",data:=.fields #[.int lo t,.int hi u,.int 1 v] }
 | .frz o u=>h.get? a=some o/\eJ H h a u
 | .tbl ps=>h.get? a=some { cls:=.none,data:=.fields ps }
 | .met f x=>h.get? a=some (W.methodObj (.ref f) (.ref x))
 | .ext φ=>φ h/\(∃o,h.get? a=some o)/\∀h1 h2:Heap,φ h1->(∀o,h1.get? a=some o->h2.get? a=some o)->φ h2
def HOk (H:Hp)(h:Heap):Prop:=∀a o,H a=some o->eJ P w H h a o
end
section
variable {P:Program} {w:World} {H H':Hp} {h h':Heap} {a:Addr} {o:HO}
theorem eJ.lt (x:eJ P w H h a o):a < h.objs.size:=by
 cases o with
 |lst xs=>obtain⟨_,_,_,_,e⟩:=x;exact Heap.lt_size e
 |tup xs=>obtain⟨_,_,_,p⟩:=x;exact p.lt
 |dK kvs=>obtain⟨_,_,_,_,o,_,_,e,_⟩:=x;exact Heap.lt_size e
 |dT kvs=>obtain⟨_,_,_,_,o,_,_,e,_⟩:=x;exact Heap.lt_size e
 |set S n=>obtain⟨o,_,_,_,e,_⟩:=x;exact Heap.lt_size e
 |ins C dx fs=>obtain⟨_,_,_,e,_⟩:=x;exact Heap.lt_size e
 |own y=>obtain⟨_,e⟩:=x;exact Heap.lt_size e
 |xd fs=>obtain⟨_,⟨_,_,_,e,_⟩,_⟩:=x;exact Heap.lt_size e
 |rng lo hi=>obtain⟨_,_,_,e⟩:=x;exact Heap.lt_size e
 |frz ob u=>obtain⟨e,_⟩:=x;exact Heap.lt_size e
 |tbl ps=>exact Heap.lt_size (show h.get? a=some _ from x)
 |met f y=>exact Heap.lt_size (show h.get? a=some _ from x)
 |ext φ=>obtain⟨_,⟨_,e⟩,_⟩:=x;exact Heap.lt_size e
theorem Paired.mapP {α β:Type}{F G:α->β->Prop}:∀{l₁:List α} {l₂:List β},Paired F l₁ l₂->(∀a b,F a b->G a b)->Paired G l₁ l₂
 |_,_,.nil,_=>.nil
 |_,_,.cons r t,f=>.cons (f _ _ r) (Paired.mapP t f)
theorem eJ.stay (x:eJ P w H h a o)(k:∀b u,(b=a\/H b=some (.own a))->h.get? b=some u->h'.get? b=some u)(ho:∀b,H b=some (.own a)->H' b=some (.own a))(ht:∀b xs,H b=some (.tup xs)->H' b=some (.tup xs)):eJ P w H' h' a o:=by
 induction o with
 |lst xs=>obtain⟨z,its,n,r,e⟩:=x;exact⟨z,its,n,r,k _ _ (.inl rfl) e⟩
 |tup xs=>obtain⟨z,its,r,ob,e,c⟩:=x;exact⟨z,its,r,ob,k _ _ (.inl rfl) e,c⟩
 |dK kvs=>obtain⟨z,y,vs,r,ob,es,ep,e,c⟩:=x;exact⟨z,y,vs,r,ob,es,ep,k _ _ (.inl rfl) e,c⟩
 |dT kvs=>
  obtain⟨z,y,xs,r,ob,es,ep,e,c⟩:=x;exact⟨z,y,xs,Paired.mapP r fun p q z=>⟨z.1,ht _ _ z.2.1,z.2.2⟩,ob,es,ep,k _ _ (.inl rfl) e,c⟩
 |set S n=>obtain⟨ob,es,ep,t,e,c⟩:=x;exact⟨ob,es,ep,t,k _ _ (.inl rfl) e,c⟩
 |ins C dx fs=>
  obtain⟨d,z,ne,e,mA,⟨od,es,ep,e2,c⟩,r⟩:=x;exact⟨ho _ d,z,ne,k _ _ (.inl rfl) e,mA,⟨od,es,ep,k _ _ (.inr d) e2,c⟩,r⟩
 |own y=>obtain⟨ob,e⟩:=x;exact⟨ob,k _ _ (.inl rfl) e⟩
 |xd fs=>obtain⟨mA,⟨od,es,ep,e,c⟩,r⟩:=x;exact⟨mA,⟨od,es,ep,k _ _ (.inl rfl) e,c⟩,r⟩
 |rng lo hi=>obtain⟨t,u,v,e⟩:=x;exact⟨t,u,v,k _ _ (.inl rfl) e⟩
 |frz ob u ih=>obtain⟨e,q⟩:=x;exact⟨k _ _ (.inl rfl) e,ih q⟩
 |tbl ps=>
  have e:h.get? a=some { cls:=.none,data:=.fields ps }:=x;show h'.get? a=some { cls:=.none,data:=.fields ps };exact k a _ (.inl rfl) e
 |met f y=>
  have e:h.get? a=some (W.methodObj (.ref f) (.ref y)):=x;show h'.get? a=some (W.methodObj (.ref f) (.ref y));exact k a _ (.inl rfl) e
 |ext φ=>obtain⟨p,⟨o,e⟩,st⟩:=x;exact⟨st _ _ p fun o q=>k _ _ (.inl rfl) q,⟨o,k _ _ (.inl rfl) e⟩,st⟩
theorem HOk.lt (x:HOk P w H h)(e:H a=some o):a < h.objs.size:=(x a o e).lt
theorem HOk.fresh (x:HOk P w H h)(e:h.objs.size<=a):H a=none:=by
 cases q:H a with
 |none=>rfl
 |some u=>exact absurd (Nat.lt_of_lt_of_le (x.lt q) e) (Nat.lt_irrefl _)
theorem HOk.kept (x:HOk P w H h)(k:∀b u,h.get? b=some u->h'.get? b=some u):HOk P w H h':=fun a o e=>
 (x a o e).stay (fun b u _ q=>k b u q) (fun _ q=>q) fun _ _ q=>q
theorem HOk.laid (x:HOk P w H h)(k:∀b u,h.get? b=some u->h'.get? b=some u)(hp:h.objs.size<=a)(new:eJ P w (upd H a o) h' a o):HOk P w (upd H a o) h':=fun b u e=>by
 have hn:=x.fresh hp
 by_cases hb:b=a
 ·subst hb;rw[aC] at e;cases e;exact new
 ·rw[aY hb] at e;exact(x b u e).stay (fun c v _ q=>k c v q) (fun c q=>by rw[aY (aL q hn)];exact q) fun c xs q=>by rw[aY (aL q hn)];exact q
end
def Rd (H:Hp)(a:Addr)(u:HO):Prop:=H a=some u\/∃o,H a=some (.frz o u)
theorem Rd.ok {P:Program}{w:World}{H:Hp}{h:Heap}{a:Addr}{u:HO}(r:Rd H a u)(x:HOk P w H h):eJ P w H h a u:=by
 rcases r with r | ⟨o,r⟩
 ·exact x a u r
 ·obtain⟨_,q⟩:=x a _ r;exact q
def Mut:Option HO->Prop
 |some (.lst _)=>True
 |some (.dK _)=>True
 |some (.dT _)=>True
 |some (.set _ _)=>True
 |some (.ins _ _ _)=>True
 |some (.ext _)=>True
 |_=>False
section
variable {P:Program} {w:World} {H:Hp} {h h':Heap} {x e:Addr} {o':HO}
theorem HOk.write (ok:HOk P w H h)(mu:Mut (H x))(he:e=x\/H e=some (.own x))(k:∀b u,b≠e->h.get? b=some u->h'.get? b=some u)(heo:∃u,h'.get? e=some u)(new:eJ P w (upd H x o') h' x o'):HOk P w (upd H x o') h':=fun b u q=>by
 have nown:∀c y,H c=some (.own y)->c≠x:=fun c y r z=>by subst z;rw[r] at mu;exact mu
 have ntup:∀c xs,H c=some (.tup xs)->c≠x:=fun c xs r z=>by subst z;rw[r] at mu;exact mu
 by_cases hb:b=x
 ·subst hb;rw[aC] at q;cases q;exact new
 ·rw[aY hb] at q
  by_cases hbe:b=e
  ·have q':H b=some (.own x):=by
    rcases he with z | z
    ·exact absurd (hbe.trans z) hb
    ·rw[hbe];exact z
   rw[q] at q';cases q';obtain⟨v,hv⟩:=heo;exact⟨v,by rw[hbe];exact hv⟩
  ·refine(ok b u q).stay (fun c v hc r=>k c v ?_ r) (fun c r=>by rw[aY (nown c b r)];exact r) fun c xs r=>by rw[aY (ntup c xs r)];exact r
   rcases hc with rfl | hc
   ·exact hbe
   ·rintro rfl;rcases he with z | z
    ·exact nown c b hc z
    ·rw[hc] at z;cases z;exact hb rfl
end
structure Un (fs ex:List Addr) (H H':Hp) (h h':Heap):Prop where
 keep:∀b o,h.get? b=some o->H b=none->b∉fs->b∉ex->h'.get? b=some o
 slot:∀b o,h.get? b=some o->H b=none->b∈fs->b∉ex->∃sl,h'.get? b=some { o with slots:=sl }
 free:∀b o,h.get? b=some o->H b=none->b∉ex->H' b=none
 there:∀b o,h.get? b=some o->b∉ex->∃o',h'.get? b=some o'
 tups:∀b xs,H b=some (.tup xs)->H' b=some (.tup xs)
 frzs:∀b o u,H b=some (.frz o u)->H' b=some (.frz o u)
 tbls:∀b ps,H b=some (.tbl ps)->∃more,H' b=some (.tbl (ps++more))
section
variable {fs fs' ex ex':List Addr} {H H1 H2:Hp} {h h1 h2 h':Heap} {a x e:Addr} {o:HO}
theorem Un.any (u:Un fs ex H H1 h h1){b:Addr}{ob:Obj}(q:h.get? b=some ob)(n:H b=none)(hx:b∉ex):∃sl,h1.get? b=some { ob with slots:=sl }:=by
 by_cases hb:b∈fs
 ·exact u.slot b ob q n hb hx
 ·exact⟨ob.slots,u.keep b ob q n hb hx⟩
theorem Un.kept (k:∀b u,h.get? b=some u->h'.get? b=some u):Un fs ex H H h h':=
 ⟨fun b ob q _ _ _=>k b ob q,fun b ob q _ _ _=>⟨ob.slots,k b ob q⟩,fun _ _ _ n _=>n,fun b ob q _=>⟨ob,k b ob q⟩,fun _ _ q=>q,fun _ _ _ q=>q,fun _ ps q=>⟨#[],by rw[q];simp⟩⟩
theorem Un.refl:Un fs ex H H h h:=Un.kept fun _ _ q=>q
theorem Un.laid (k:∀b u,h.get? b=some u->h'.get? b=some u)(hp:h.objs.size<=a)(hn:H a=none):Un fs ex H (upd H a o) h h' where
 keep:=fun b u q _ _ _=>k b u q
 slot:=fun b u q _ _ _=>⟨u.slots,k b u q⟩
 free:=fun b u q n _=>by rw[aY (Nat.ne_of_lt (Nat.lt_of_lt_of_le (Heap.lt_size q) hp))];exact n
 there:=fun b u q _=>⟨u,k b u q⟩
 tups:=fun b xs q=>by rw[aY (aL q hn)];exact q
 frzs:=fun b u xs q=>by rw[aY (aL q hn)];exact q
 tbls:=fun b ps q=>⟨#[],by rw[aY (aL q hn),q];simp⟩
theorem Un.write (mu:Mut (H x))(he:e=x\/H e=some (.own x))(k:∀b u,b≠e->h.get? b=some u->h'.get? b=some u)(heo:∃u,h'.get? e=some u):Un fs ex H (upd H x o) h h':=by
 have hx:∀b,H b=none->b≠x:=fun b n z=>by subst z;rw[n] at mu;exact mu
 have hb:∀b,H b=none->b≠e:=fun b n z=>by
  subst z;rcases he with r | r
  ·exact hx b n r
  ·rw[n] at r;cases r
 have hm:∀b u,H b=some u->¬Mut (some u)->b≠x:=fun b u q nm z=>by subst z;rw[q] at mu;exact nm mu
 refine⟨fun b u q n _ _=>k b u (hb b n) q,fun b u q n _ _=>⟨u.slots,k b u (hb b n) q⟩,fun b u q n _=>by rw[aY (hx b n)];exact n,fun b u q _=>?_,
  fun b xs q=>by rw[aY (hm b _ q fun z=>z)];exact q,fun b u xs q=>by rw[aY (hm b _ q fun z=>z)];exact q,fun b ps q=>⟨#[],by rw[aY (hm b _ q fun z=>z),q];simp⟩⟩
 by_cases hbe:b=e
 ·subst hbe;exact heo
 ·exact⟨u,k b u hbe q⟩
end
def trk (h:Heap)(H:Hp):List Addr:=(range h.objs.size).filter fun a=>(H a).isSome
def zL (h:Heap)(H:Hp):Heap:=W.hideAll h (trk h H)
theorem Ju (h:Heap)(H:Hp):(zL h H).objs.size=h.objs.size:=W.hideAll_size _ _
theorem Qf {h:Heap}{H:Hp}{b:Addr}{o:Obj}(e:h.get? b=some o)(n:H b=none):(zL h H).get? b=some o:=
 W.hideAll_get _ e fun hm=>by
  have q:(H b).isSome=true:=(mem_filter.mp hm).2;rw[n] at q;simp at q
theorem Ug {h:Heap}{H:Hp}{b:Addr}{o:Obj}(e:(zL h H).get? b=some o):h.get? b=some o/\H b=none:=by
 have e':h.get? b=some o:=W.of_hideAll (trk h H) e;refine⟨e',?_⟩
 cases q:H b with
 |none=>rfl
 |some x=>
  have hm:b∈trk h H:=mem_filter.mpr ⟨mem_range.mpr (Heap.lt_size e'),by simp[q]⟩;have z:(zL h H).get? b=none:=W.hideAll_none (trk h H) hm;rw[z] at e;cases e
structure Mod (K:Frag) (mg:Str->Option Value) (base:Heap):Prop where
 kin:K.In base
 glob:base.Ns mainGlobals mg
 blt:∃mb,base.Ns builtinsNs mb/\∀x:Str,x≠"__name__"->mb x=bootBuiltins x
 nolimit:base.NoLimit
structure Cx where
 prog:Program
 w:World
 K:Frag
 mg:Str->Option Value
 base:Heap
 A:Around
 N:List Str
 s₀:Shared
 H₀:Hp
 env:Env
 outer:List Env
 stack:List Env
 ex:List Addr
 fn:Str->Bool
 calm:Bool
 pn:List (Addr × Obj)
 xe:Value->Shared->Prop
def frs (l:List Env):List Addr:=l.filterMap (·.frame)
abbrev Cx.fs (X:Cx):List Addr:=frs X.outer
def Vis (sc:Scope)(x:Str):Prop:=sc.names.lookup x=some .local\/sc.names.lookup x=some .cell\/sc.names.lookup x=some .free
def Loc (sc:Scope)(x:Str):Prop:=sc.names.lookup x=some .local\/sc.names.lookup x=some .cell
def qf6 (env:Env)(h:Heap)(m:Str->Option Value)(x:Str)(u:Value):Prop:=
 (env.kindOf x=some .local/\m x=some u)\/((env.kindOf x=some .cell\/env.kindOf x=some .free)/\∃c,env.cells.lookup x=some c/\h.IsCell c (some u))
structure Cx.Ok (X:Cx):Prop where
 mod:Mod X.K X.mg X.base
 kind:X.env.scope.kind=.function
 glob:X.env.globals=mainGlobals
 blt:X.env.builtins=builtinsNs
 above:X.s₀.heap.objs.size<=X.env.locals
 inj:∀x y c,X.env.cells.lookup x=some c->X.env.cells.lookup y=some c->x=y
 has:∀x,(X.env.kindOf x=some .cell\/X.env.kindOf x=some .free)->∃c,X.env.cells.lookup x=some c
 cab:∀x c,X.fn x=true->X.env.cells.lookup x=some c->X.s₀.heap.objs.size<=c
 hd:X.calm=true->X.A.handled=none
 frames:X.A.frames=some X.stack
 stk:X.stack=X.outer\/(X.stack=X.env :: X.outer/\X.env.frame=some X.env.locals)
 exf:∀b∈X.ex,b≠X.env.locals/\∀x c,X.env.cells.lookup x=some c->c≠b
 bs:∀b o,X.base.get? b=some o->X.s₀.heap.get? b=some o/\X.H₀ b=none
 bsz:X.base.objs.size<=X.s₀.heap.objs.size
 noex:∀b o,X.base.get? b=some o->b∉X.ex
 exfs:∀b∈X.ex,b∉X.fs
 funs:X.s₀.heap.FunFrames X.base X.outer
 frf:∀b∈X.fs,X.H₀ b=none
structure Inv (X:Cx) (pins:List (Addr × Obj)) (σ:List (Option V)) (H:Hp) (s:Shared):Prop where
 ok:X.Ok
 os:s.os=X.s₀.os
 bare:AllBare s.gens
 base:Un X.fs X.ex X.H₀ H X.s₀.heap s.heap
 loc:∃m,s.heap.Ns X.env.locals m/\∀(i:Nat) (x:Str) (v:V),X.N[i]?=some x->σ[i]?=some (some v)->Vis X.env.scope x->∃u,cH v u/\qf6 X.env s.heap m x u
 cell:∀x c,X.env.cells.lookup x=some c->∃v,s.heap.IsCell c v
 free:H X.env.locals=none
 freeC:∀x c,X.env.cells.lookup x=some c->H c=none
 pin:∀p∈X.pn++pins,s.heap.get? p.1=some p.2/\H p.1=none/\p.1≠X.env.locals/\p.1∉X.fs/\∀v,p.2.data≠.cell v
 hok:HOk X.prog X.w H s.heap
 len:σ.length=X.N.length
section
variable {X:Cx} {pins:List (Addr × Obj)} {σ:List (Option V)} {H H':Hp} {s:Shared} {h':Heap}
theorem Cx.Ok.nofr (ok:X.Ok){b:Addr}{o:Obj}(e:X.base.get? b=some o):b∉X.fs:=fun hb=>by
 have:=(ok.funs.mem hb).1;rw[e] at this;cases this
theorem Inv.bs (I:Inv X pins σ H s):∀b o,X.base.get? b=some o->s.heap.get? b=some o/\H b=none:=fun b o e=>
 ⟨I.base.keep b o (I.ok.bs b o e).1 (I.ok.bs b o e).2 (I.ok.nofr e) (I.ok.noex b o e),I.base.free b o (I.ok.bs b o e).1 (I.ok.bs b o e).2 (I.ok.noex b o e)⟩
theorem Inv.bk (I:Inv X pins σ H s):∀b o,X.base.get? b=some o->s.heap.get? b=some o:=fun b o e=>(I.bs b o e).1
theorem Inv.mod (I:Inv X pins σ H s):Mod X.K X.mg X.base:=I.ok.mod
theorem Inv.kIn (I:Inv X pins σ H s):X.K.In s.heap:=I.ok.mod.kin.keeps I.bk
theorem Inv.lt (I:Inv X pins σ H s):X.env.locals < s.heap.objs.size:=let ⟨_,hn,_⟩:=I.loc;hn.lt
theorem Inv.sz (I:Inv X pins σ H s):X.s₀.heap.objs.size<=s.heap.objs.size:=Nat.le_trans I.ok.above (Nat.le_of_lt I.lt)
theorem Inv.nofs (I:Inv X pins σ H s){a:Addr}(h:s.heap.objs.size<=a):a∉X.fs:=fun hb=>by
 obtain⟨_,o,ho,_⟩:=I.ok.funs.mem hb;exact absurd (Nat.lt_of_lt_of_le (Heap.lt_size ho) (Nat.le_trans I.sz h)) (Nat.lt_irrefl _)
theorem Inv.cne (I:Inv X pins σ H s):∀x c,X.env.cells.lookup x=some c->c≠X.env.locals:=fun x c e z=>by
 obtain⟨v,o,ho,hd⟩:=I.cell x c e;obtain⟨m,⟨o',es,ep,ho',hd',_⟩,_⟩:=I.loc;rw[z,ho'] at ho;cases ho;rw[hd'] at hd;cases hd
theorem Inv.funs (I:Inv X pins σ H s):s.heap.FunFrames X.base X.outer:=by
 have all:∀(l:List Env),(∀b∈frs l,b∈X.fs)->X.s₀.heap.FunFrames X.base l->s.heap.FunFrames X.base l:=by
  intro l
  induction l with
  |nil=>intro _ _;trivial
  |cons env r ih=>
   intro hs hl;obtain⟨hk,⟨L,o,hf,hn,ho,hd⟩,hr⟩:=hl;have hL:L∈X.fs:=hs L (by unfold frs;rw[filterMap_cons,hf];exact mem_cons_self);obtain⟨sl,e⟩:=I.base.slot L o ho (I.ok.frf L hL) hL fun z=>I.ok.exfs L z hL;exact⟨hk,⟨L,_,hf,hn,e,hd⟩,ih (fun b hb=>hs b (by unfold frs;rw[filterMap_cons,hf];exact mem_cons_of_mem _ hb)) hr⟩
 exact all X.outer (fun _ hb=>hb) I.ok.funs
theorem Inv.stack (I:Inv X pins σ H s):s.heap.FunFrames X.base X.stack:=by
 rcases I.ok.stk with e | ⟨e,hf⟩
 ·rw[e];exact I.funs
 ·rw[e];obtain⟨m,hn,_⟩:=I.loc;refine .cons (by rw[I.ok.kind];decide) hf hn ?_ I.funs;exact Heap.get?_none_of_le (Nat.le_trans I.ok.bsz I.ok.above)
theorem Inv.stkSub (I:Inv X pins σ H s):∀b∈frs X.stack,b∈X.env.locals :: X.fs:=fun b hb=>by
 rcases I.ok.stk with e | ⟨e,hf⟩
 ·rw[e] at hb;exact mem_cons_of_mem _ hb
 ·rw[e] at hb;unfold frs at hb;rw[filterMap_cons,hf] at hb;exact hb
theorem Inv.stkFree (I:Inv X pins σ H s):∀b∈frs X.stack,H b=none:=fun b hb=>by
 rcases mem_cons.mp (I.stkSub b hb) with e | hb
 ·rw[e];exact I.free
 ·obtain⟨_,o,ho,_⟩:=I.ok.funs.mem hb;exact I.base.free b o ho (I.ok.frf b hb) fun z=>I.ok.exfs b z hb
theorem Inv.step {g':Array GenState}{t':Nat}{d':Drawn}{ch:List Addr}(I:Inv X pins σ H s)(hch:∀b∈ch,(b∈X.ex\/X.s₀.heap.objs.size<=b)/\b≠X.env.locals/\(∀x c,X.env.cells.lookup x=some c->c≠b)/\∀p∈X.pn++pins,p.1≠b)(keep:∀b o,b≠X.env.locals->b∉X.fs->b∉ch->s.heap.get? b=some o->H b=none->h'.get? b=some o)(slot:∀b o,b≠X.env.locals->b∈X.fs->b∉ch->s.heap.get? b=some o->H b=none->∃sl,h'.get? b=some { o with slots:=sl })(free:∀b o,b∉ch->s.heap.get? b=some o->H b=none->H' b=none)(there:∀b o,b∉ch->s.heap.get? b=some o->∃o',h'.get? b=some o')(tups:∀b xs,H b=some (.tup xs)->H' b=some (.tup xs))(frzs:∀b o u,H b=some (.frz o u)->H' b=some (.frz o u))(tbls:∀b ps,H b=some (.tbl ps)->∃more,H' b=some (.tbl (ps++more)))(ns:∀m,s.heap.Ns X.env.locals m->h'.Ns X.env.locals m)(hok:HOk X.prog X.w H' h')(hg:AllBare g') :
  Inv X pins σ H' { s with heap:=h',gens:=g',drawn:=d',toks:=t' }:=by
 have neL:∀b o,X.s₀.heap.get? b=some o->b≠X.env.locals:=fun b o e=>Nat.ne_of_lt (Nat.lt_of_lt_of_le (Heap.lt_size e) I.ok.above);have neC:∀b o,X.s₀.heap.get? b=some o->b∉X.ex->b∉ch:=fun b o e hx hb=>by
  rcases (hch b hb).1 with z | z
  ·exact hx z
  ·exact absurd (Nat.lt_of_lt_of_le (Heap.lt_size e) z) (Nat.lt_irrefl _)
 have cellK:∀x c,X.env.cells.lookup x=some c->∀v,s.heap.IsCell c v->h'.IsCell c v:=fun x c e v ⟨o,ho,hd⟩=>by
  have nch:c∉ch:=fun z=>(hch c z).2.2.1 x c e rfl
  by_cases hc:c∈X.fs
  ·obtain⟨sl,q⟩:=slot c o (I.cne x c e) hc nch ho (I.freeC x c e);exact⟨_,q,hd⟩
  ·exact⟨o,keep c o (I.cne x c e) hc nch ho (I.freeC x c e),hd⟩
 refine⟨I.ok,I.os,hg,⟨fun b o e n hb hx=>?_,fun b o e n hb hx=>?_,fun b o e n hx=>?_,fun b o e hx=>?_,fun b xs e=>tups b xs (I.base.tups b xs e),fun b o xs e=>frzs b o xs (I.base.frzs b o xs e),fun b ps e=>?_⟩,?_,fun x c e=>?_,?_,fun x c e=>?_,fun p hp=>?_,hok,I.len⟩
 ·exact keep b o (neL b o e) hb (neC b o e hx) (I.base.keep b o e n hb hx) (I.base.free b o e n hx)
 ·obtain⟨sl,e1⟩:=I.base.slot b o e n hb hx;obtain⟨sl',e2⟩:=slot b _ (neL b o e) hb (neC b o e hx) e1 (I.base.free b o e n hx);exact⟨sl',e2⟩
 ·obtain⟨o',e1⟩:=I.base.there b o e hx;exact free b o' (neC b o e hx) e1 (I.base.free b o e n hx)
 ·obtain⟨o',e1⟩:=I.base.there b o e hx;exact there b o' (neC b o e hx) e1
 ·obtain⟨m1,e1⟩:=I.base.tbls b ps e;obtain⟨m2,e2⟩:=tbls b _ e1;exact⟨m1++m2,by rw[e2,Array.append_assoc]⟩
 ·obtain⟨m,hn,hl⟩:=I.loc;refine⟨m,ns m hn,fun i x v e1 e2 e3=>?_⟩;obtain⟨u,r,l⟩:=hl i x v e1 e2 e3;refine⟨u,r,?_⟩;rcases l with l | ⟨k,c,e,z⟩
  ·exact .inl l
  ·exact .inr ⟨k,c,e,cellK x c e _ z⟩
 ·obtain⟨v,z⟩:=I.cell x c e;exact⟨v,cellK x c e v z⟩
 ·obtain⟨m,⟨o,_,_,ho,_⟩,_⟩:=I.loc;exact free _ o (fun z=>(hch _ z).2.1 rfl) ho I.free
 ·obtain⟨v,o,ho,hd⟩:=I.cell x c e;exact free c o (fun z=>(hch c z).2.2.1 x c e rfl) ho (I.freeC x c e)
 ·obtain⟨e,n,ne,nf,d⟩:=I.pin p hp;have nch:p.1∉ch:=fun z=>(hch p.1 z).2.2.2 p hp rfl;exact⟨keep p.1 p.2 ne nf nch e n,free p.1 p.2 nch e n,ne,nf,d⟩
theorem Inv.un {t':Nat}(I:Inv X pins σ H s)(u:Un X.fs [] H H' s.heap h')(hok:HOk X.prog X.w H' h'):Inv X pins σ H' { s with heap:=h',toks:=t' }:=by
 obtain⟨m,⟨o,es,ep,ho,r⟩,_⟩:=id I.loc;obtain⟨sl,hL⟩:=u.any ho I.free (by simp);exact I.step (g':=s.gens) (d':=s.drawn) (ch:=[]) (fun _ z=>nomatch z) (fun b o _ hb _ e n=>u.keep b o e n hb (by simp)) (fun b o _ hb _ e n=>u.slot b o e n hb (by simp)) (fun b o _ e n=>u.free b o e n (by simp)) (fun b o _ e=>u.there b o e (by simp)) u.tups u.frzs u.tbls (fun m' hm=>by
  obtain⟨o',es',ep',ho',r'⟩:=hm;rw[ho] at ho';cases ho';exact⟨_,es',ep',hL,r'⟩) hok I.bare
theorem Inv.call {g':Array GenState}{t':Nat}{d':Drawn}{ch:List Addr}(I:Inv X pins σ H s)(u:Un (frs X.stack) ch H H' s.heap h')(hok:HOk X.prog X.w H' h')(hg:AllBare g')(hch:∀b∈ch,(b∈X.ex\/X.s₀.heap.objs.size<=b)/\b≠X.env.locals/\(∀x c,X.env.cells.lookup x=some c->c≠b)/\∀p∈X.pn++pins,p.1≠b) :
  Inv X pins σ H' { s with heap:=h',gens:=g',drawn:=d',toks:=t' }:=by
 obtain⟨m,⟨o,es,ep,ho,r⟩,_⟩:=id I.loc;obtain⟨sl,hL⟩:=u.any ho I.free fun z=>(hch _ z).2.1 rfl;exact I.step (ch:=ch) hch (fun b o hL hb hc e n=>u.keep b o e n (fun z=>(mem_cons.mp (I.stkSub b z)).elim hL hb) hc) (fun b o _ _ hc e n=>u.any e n hc) (fun b o hc e n=>u.free b o e n hc) (fun b o hc e=>u.there b o e hc) u.tups u.frzs u.tbls (fun m' hm=>by
  obtain⟨o',es',ep',ho',r'⟩:=hm;rw[ho] at ho';cases ho';exact⟨_,es',ep',hL,r'⟩) hok hg
theorem Inv.turned {t':Nat}{it:Addr}(I:Inv X pins σ H s)(k:∀b o,b≠it->s.heap.get? b=some o->h'.get? b=some o)(hn:H it=none)(hL:it≠X.env.locals)(h1:it∈X.ex\/X.s₀.heap.objs.size<=it)(h2:∀x c,X.env.cells.lookup x=some c->c≠it)(h3:∀p∈X.pn++pins,p.1≠it):Inv X pins σ H { s with heap:=h',toks:=t' }:=by
 have nit:∀b u,H b=some u->b≠it:=fun b u e z=>by rw[z,hn] at e;cases e
 refine I.step (g':=s.gens) (d':=s.drawn) (ch:=[it]) (fun b hb=>?_) (fun b o _ _ hc e _=>k b o (fun z=>hc (by simp[z])) e) (fun b o _ _ hc e _=>⟨o.slots,k b o (fun z=>hc (by simp[z])) e⟩) (fun _ _ _ _ n=>n)
  (fun b o hc e=>⟨o,k b o (fun z=>hc (by simp[z])) e⟩) (fun _ _ e=>e) (fun _ _ _ e=>e) (fun b ps e=>⟨#[],by rw[e];simp⟩) (fun m hm=>?_) (fun b u e=>?_) I.bare
 ·have e:b=it:=by simpa using hb
  subst e;exact⟨h1,hL,h2,h3⟩
 ·obtain⟨o,es,ep,ho,r⟩:=hm;exact⟨o,es,ep,k _ o (Ne.symm hL) ho,r⟩
 ·refine(I.hok b u e).stay (fun c v hc q=>k c v ?_ q) (fun _ q=>q) fun _ _ q=>q;rcases hc with z | z
  ·rw[z];exact nit b u e
  ·exact nit c _ z
theorem Inv.tok (I:Inv X pins σ H s)(t:Nat):Inv X pins σ H { s with toks:=t }:=I.un (h':=s.heap) (t':=t) Un.refl I.hok
theorem Inv.kept {t':Nat}(I:Inv X pins σ H s)(k:∀b u,s.heap.get? b=some u->h'.get? b=some u):Inv X pins σ H { s with heap:=h',toks:=t' }:=I.un (Un.kept k) (I.hok.kept k)
theorem Inv.laid {a:Addr}{o:HO}{t':Nat}(I:Inv X pins σ H s)(k:∀b u,s.heap.get? b=some u->h'.get? b=some u)(hp:s.heap.objs.size<=a)(new:eJ X.prog X.w (upd H a o) h' a o) :
  Inv X pins σ (upd H a o) { s with heap:=h',toks:=t' }:=I.un (Un.laid k hp (I.hok.fresh hp)) (I.hok.laid k hp new)
theorem Inv.write {x e:Addr}{o:HO}{t':Nat}(I:Inv X pins σ H s)(mu:Mut (H x))(he:e=x\/H e=some (.own x))(k:∀b u,b≠e->s.heap.get? b=some u->h'.get? b=some u)(heo:∃u,h'.get? e=some u)(new:eJ X.prog X.w (upd H x o) h' x o):Inv X pins σ (upd H x o) { s with heap:=h',toks:=t' }:=I.un (Un.write mu he k heo) (I.hok.write mu he k heo new)
theorem Inv.weak {σ':List (Option V)}(I:Inv X pins σ H s)(hl:σ'.length=σ.length)(w:∀(i:Nat) v,σ'[i]?=some (some v)->σ[i]?=some (some v)):Inv X pins σ' H s:=
 ⟨I.ok,I.os,I.bare,I.base,let ⟨m,hn,hl'⟩:=I.loc;⟨m,hn,fun i x v e1 e2 e3=>hl' i x v e1 (w i v e2) e3⟩,I.cell,I.free,I.freeC,I.pin,I.hok,hl.trans I.len⟩
theorem Inv.pins_of {pins':List (Addr × Obj)}(I:Inv X pins σ H s)(h:∀p∈pins',s.heap.get? p.1=some p.2/\H p.1=none/\p.1≠X.env.locals/\p.1∉X.fs/\∀v,p.2.data≠.cell v):Inv X pins' σ H s:=
 ⟨I.ok,I.os,I.bare,I.base,I.loc,I.cell,I.free,I.freeC,fun p hp=>(mem_append.mp hp).elim (fun z=>I.pin p (mem_append_left _ z)) (h p),I.hok,I.len⟩
theorem Df {N:List Str}(hN:N.Nodup){i j:Nat}{x:Str}(a:N[i]?=some x)(b:N[j]?=some x):i=j:=by
 obtain⟨h1,e1⟩:=List.getElem?_eq_some_iff.mp a;obtain⟨h2,e2⟩:=List.getElem?_eq_some_iff.mp b;exact(getElem_inj hN).mp (e1.trans e2.symm)
theorem yH {M:Model}{A:Around}{E:Value->Shared->Prop}{i:Nat}{x:Str}{v:V}{u:Value}{Q:Unit->Shared->Prop}(I:Inv X pins σ H s)(hN:X.N.Nodup)(hi:X.N[i]?=some x)(hx:Loc X.env.scope x)(r:cH v u)(h:∀s',Inv X pins (σ.set i (some v)) H s'->(∃a,Heap.SameBut a s.heap s'.heap/\(a=X.env.locals\/X.env.cells.lookup x=some a))->Q () s')(hf:X.fn x=true\/X.env.scope.names.lookup x=some .local:=by first | exact .inl rfl | exact .inr rfl | assumption):wpAny M A (storeName X.env x u) Q E s:=by
 obtain⟨m,hn,hl⟩:=id I.loc;have hcls:(X.env.scope.kind == .class || (X.env.scope.kind == .module && X.env.locals != X.env.globals))=false:=by rw[I.ok.kind];rfl
 have hiσ:i < σ.length:=by rw[I.len];exact(List.getElem?_eq_some_iff.mp hi).1
 have cne:=I.cne;have tracked:∀{a:Addr} {h':Heap},(∃o,s.heap.get? a=some o/\H a=none)->Heap.SameBut a s.heap h'->HOk X.prog X.w H h':=fun {a h'} ha hs b ob e=>by
  obtain⟨_,_,hfree⟩:=ha;refine(I.hok b ob e).stay (fun c w' hc q=>(hs.2 c ?_).trans q) (fun _ q=>q) fun _ _ q=>q;rintro rfl;rcases hc with rfl | hc
  ·rw[hfree] at e;cases e
  ·rw[hfree] at hc;cases hc
 rcases hx with hk | hk
 ·refine wpAny_storeName_local hk hn (fun h' hn' hs=>?_) hcls;obtain⟨oL,_,_,hoL,_⟩:=id hn;refine h _ ⟨I.ok,I.os,I.bare,⟨fun b o e n hb hx=>?_,fun b o e n hb hx=>?_,I.base.free,fun b o e hx=>?_,I.base.tups,I.base.frzs,I.base.tbls⟩,⟨_,hn',fun j y v' e1 e2 e3=>?_⟩,fun y c e=>?_,I.free,I.freeC,fun p hp=>?_,tracked ⟨oL,hoL,I.free⟩ hs,by simpa using I.len⟩ ⟨_,hs,.inl rfl⟩
  ·exact(hs.2 b (Nat.ne_of_lt (Nat.lt_of_lt_of_le (Heap.lt_size e) I.ok.above))).trans (I.base.keep b o e n hb hx)
  ·obtain⟨sl,e1⟩:=I.base.slot b o e n hb hx;exact⟨sl,(hs.2 b (Nat.ne_of_lt (Nat.lt_of_lt_of_le (Heap.lt_size e) I.ok.above))).trans e1⟩
  ·obtain⟨o',e1⟩:=I.base.there b o e hx;exact⟨o',(hs.2 b (Nat.ne_of_lt (Nat.lt_of_lt_of_le (Heap.lt_size e) I.ok.above))).trans e1⟩
  ·by_cases hj:j=i
   ·subst hj;rw[hi] at e1;cases e1;rw[getElem?_set_self hiσ] at e2
    cases e2
    exact⟨u,r,.inl ⟨hk,by simp⟩⟩
   ·rw[getElem?_set_ne (Ne.symm hj)] at e2;obtain⟨u',r',q⟩:=hl j y v' e1 e2 e3;refine⟨u',r',?_⟩;rcases q with ⟨k,e⟩ | ⟨k,c,e,z⟩
    ·refine .inl ⟨k,?_⟩;have:y≠x:=fun e=>hj (Df hN e1 (e ▸ hi));simp[this,e]
    ·exact .inr ⟨k,c,e,z.sameBut hs (cne y c e)⟩
  ·obtain⟨w',z⟩:=I.cell y c e;exact⟨w',z.sameBut hs (cne y c e)⟩
  ·obtain⟨e,n,ne,nf,d⟩:=I.pin p hp;exact⟨(hs.2 p.1 ne).trans e,n,ne,nf,d⟩
 ·have hfn:X.fn x=true:=by
   rcases hf with z | z
   ·exact z
   ·rw[z] at hk;cases hk
  obtain⟨c,hc⟩:=I.ok.has x (.inl hk);obtain⟨w',z⟩:=I.cell x c hc;refine wpAny_storeName_cell I.ok.kind hk hc z (fun h' hc' hs=>?_);obtain⟨oc,hoc,hocd⟩:=id z;refine h { s with heap:=h' } ⟨I.ok,I.os,I.bare,⟨fun b o e n hb hx=>?_,fun b o e n hb hx=>?_,I.base.free,fun b o e hx=>?_,I.base.tups,I.base.frzs,I.base.tbls⟩,⟨m,hn.sameBut hs (Ne.symm (cne x c hc)),fun j y v' e1 e2 e3=>?_⟩,fun y c' e=>?_,I.free,I.freeC,fun p hp=>?_,tracked ⟨oc,hoc,I.freeC x c hc⟩ hs,by simpa using I.len⟩ ⟨c,hs,.inr hc⟩
  ·exact(hs.2 b (Nat.ne_of_lt (Nat.lt_of_lt_of_le (Heap.lt_size e) (I.ok.cab x c hfn hc)))).trans (I.base.keep b o e n hb hx)
  ·obtain⟨sl,e1⟩:=I.base.slot b o e n hb hx;exact⟨sl,(hs.2 b (Nat.ne_of_lt (Nat.lt_of_lt_of_le (Heap.lt_size e) (I.ok.cab x c hfn hc)))).trans e1⟩
  ·obtain⟨o',e1⟩:=I.base.there b o e hx;exact⟨o',(hs.2 b (Nat.ne_of_lt (Nat.lt_of_lt_of_le (Heap.lt_size e) (I.ok.cab x c hfn hc)))).trans e1⟩
  ·by_cases hj:j=i
   ·subst hj;rw[hi] at e1;cases e1;rw[getElem?_set_self hiσ] at e2
    cases e2
    exact⟨u,r,.inr ⟨.inl hk,c,hc,hc'⟩⟩
   ·rw[getElem?_set_ne (Ne.symm hj)] at e2;obtain⟨u',r',q⟩:=hl j y v' e1 e2 e3;refine⟨u',r',?_⟩;rcases q with q | ⟨k,c',e,z'⟩
    ·exact .inl q
    ·refine .inr ⟨k,c',e,z'.sameBut hs ?_⟩;rintro rfl;exact hj (Df hN e1 (I.ok.inj _ _ _ e hc ▸ hi))
  ·by_cases hcc:c'=c
   ·subst hcc;exact⟨_,hc'⟩
   ·obtain⟨w2,z2⟩:=I.cell y c' e;exact⟨w2,z2.sameBut hs hcc⟩
  ·obtain⟨e,n,ne,nf,d⟩:=I.pin p hp;refine⟨(hs.2 p.1 ?_).trans e,n,ne,nf,d⟩;intro q;rw[q,hoc] at e;have q':oc=p.2:=Option.some.inj e;exact d w' (by rw[<- q'];exact hocd)
theorem kN {M:Model}{A:Around}{E:Value->Shared->Prop}{i:Nat}{x:Str}{v:V}{u:Value}{Q:Unit->Shared->Prop}(I:Inv X pins σ H s)(hN:X.N.Nodup)(hi:X.N[i]?=some x)(hx:Loc X.env.scope x)(r:cH v u)(h:∀s',Inv X pins (σ.set i (some v)) H s'->Q () s')(hf:X.fn x=true\/X.env.scope.names.lookup x=some .local:=by first | exact .inl rfl | exact .inr rfl | assumption):wpAny M A (storeName X.env x u) Q E s:=
 yH I hN hi hx r (fun s' I' _=>h s' I') hf
theorem Inv.call' {s':Shared}{ch:List Addr}(I:Inv X pins σ H s)(ho:s'.os=s.os)(u:Un (frs X.stack) ch H H' s.heap s'.heap)(hok:HOk X.prog X.w H' s'.heap)(hg:AllBare s'.gens)(hch:∀b∈ch,(b∈X.ex\/X.s₀.heap.objs.size<=b)/\b≠X.env.locals/\(∀x c,X.env.cells.lookup x=some c->c≠b)/\∀p∈X.pn++pins,p.1≠b):Inv X pins σ H' s':=by
 obtain⟨h',g',d',t',o'⟩:=s';have e:o'=s.os:=ho;subst e;exact I.call (g':=g') (t':=t') (d':=d') u hok hg hch
end
abbrev XK:=Value->Option Addr->Hp->Prop
abbrev St:=List (Option V)
abbrev VK:=V->Hp->Prop
abbrev TE:=St->Hp->VK->Prop
abbrev TT:=St->Hp->(Bool->Hp->Prop)->Prop
abbrev TA:=St->Hp->(List V->Hp->Prop)->Prop
structure kY where
 nx:St->Hp->Prop
 rt:VK
 bk:St->Hp->Prop:=fun _ _=>False
 ct:St->Hp->Prop:=fun _ _=>False
abbrev TS:=kY->St->Hp->Prop
def EP (X:Cx)(pins:List (Addr × Obj))(σ:St)(Q:VK)(u:Value)(s':Shared):Prop:=∃v H',Inv X pins σ H' s'/\cH v u/\Q v H'
def TP (X:Cx)(pins:List (Addr × Obj))(σ:St)(Q:Bool->Hp->Prop)(b:Bool)(s':Shared):Prop:=∃H',Inv X pins σ H' s'/\Q b H'
def AP (X:Cx)(pins:List (Addr × Obj))(σ:St)(Q:List V->Hp->Prop)(us:List Value)(s':Shared):Prop:=∃vs H',Inv X pins σ H' s'/\cB vs us/\Q vs H'
def SP (X:Cx)(pins:List (Addr × Obj))(D:kY)(f:Flow)(s':Shared):Prop:=
 match f with
 | .next=>∃σ' H',Inv X pins σ' H' s'/\D.nx σ' H'
 | .brk=>∃σ' H',Inv X pins σ' H' s'/\D.bk σ' H'
 | .cont=>∃σ' H',Inv X pins σ' H' s'/\D.ct σ' H'
 | .ret u=>∃v σ' H',Inv X pins σ' H' s'/\cH v u/\D.rt v H'
def PE (X:Cx)(e:Expr)(t:TE):Prop:=
 ∀(pins:List (Addr × Obj)) (s:Shared) (σ:St) (H:Hp) (Q:VK),Inv X pins σ H s->t σ H Q->wpAny (model X.prog X.w) X.A (eval e X.env) (EP X pins σ Q) X.xe s
def PT (X:Cx)(e:Expr)(t:TT):Prop:=
 ∀(pins:List (Addr × Obj)) (s:Shared) (σ:St) (H:Hp) (Q:Bool->Hp->Prop),Inv X pins σ H s->t σ H Q->wpAny (model X.prog X.w) X.A (isTrue e X.env (eval e X.env)) (TP X pins σ Q) X.xe s
def PW (X:Cx)(e:Expr)(t:TT):Prop:=
 ∀(whole:Sem Value) (pins:List (Addr × Obj)) (s:Shared) (σ:St) (H:Hp) (Q:Bool->Hp->Prop),Inv X pins σ H s->t σ H Q->wpAny (model X.prog X.w) X.A (isTrue e X.env whole) (TP X pins σ Q) X.xe s
theorem PW.pt {X:Cx}{e:Expr}{t:TT}(h:PW X e t):PT X e t:=h _
def PA (X:Cx)(es:List Expr)(t:TA):Prop:=
 ∀(pos:Pos) (pins:List (Addr × Obj)) (s:Shared) (σ:St) (H:Hp) (Q:List V->Hp->Prop),Inv X pins σ H s->t σ H Q->wpAny (model X.prog X.w) X.A (spliced (backTo pos (starEach es X.env))) (AP X pins σ Q) X.xe s
def PS (X:Cx)(st:Stmt)(t:TS):Prop:=
 ∀(pins:List (Addr × Obj)) (s:Shared) (σ:St) (H:Hp) (D:kY),Inv X pins σ H s->t D σ H->wpAny (model X.prog X.w) X.A (exec st X.env) (SP X pins D) X.xe s
def PSs (X:Cx)(st:List Stmt)(t:TS):Prop:=
 ∀(pins:List (Addr × Obj)) (s:Shared) (σ:St) (H:Hp) (D:kY),Inv X pins σ H s->t D σ H->wpAny (model X.prog X.w) X.A (execs st X.env) (SP X pins D) X.xe s
theorem thn {α:Type}{t:Sem α}{Q Q':α->Shared->Prop}{M:Model}{A:Around}{E:Value->Shared->Prop}{s:Shared}(h:wpAny M A t Q E s)(hQ:∀a s,Q a s->Q' a s):wpAny M A t Q' E s:=wpAny_mono h hQ fun _ _ x=>x
section
variable {X:Cx}
def Tc (i:Nat):TE:=fun σ H Q=>∃v,σ[i]?=some (some v)/\Q v H
def tC (v:V):TE:=fun _ H Q=>Q v H
theorem Lr {i:Nat}{x:Str}{pos:Pos}(hN:X.N[i]?=some x)(hv:Vis X.env.scope x)(hd:(x == ("__debug__":Str))=false:=by decide)(hcd:(x == ("__classdict__":Str))=false:=by decide):PE X (.Name x pos) (Tc i):=by
 intro pins s σ H Q I h;obtain⟨v,e,h⟩:=h;obtain⟨m,hn,hl⟩:=I.loc;obtain⟨u,r,l⟩:=hl i x v hN e hv;have fin:EP X pins σ Q u s:=⟨v,H,I,r,h⟩
 rcases l with ⟨hk,hm⟩ | ⟨hk,c,hc,hcell⟩
 ·exact wpAny_Name (wpAny_loadName_local I.ok.kind hk hn hm fin) hd
 ·rcases hk with hk | hk
  ·exact wpAny_Name (wpAny_loadName_cell I.ok.kind hk hc hcell fin) hd
  ·exact wpAny_Name (wpAny_loadName_free I.ok.kind hk hc hcell fin hcd) hd
theorem aF {i j pos}:PE X (.Constant (.int i) j pos) (tC (.int i)):=fun _ _ _ H _ I h=>wpAny_Constant_int ⟨.int i,H,I.tok _,⟨_,rfl⟩,h⟩
theorem fV {b j pos}:PE X (.Constant (.bool b) j pos) (tC (.bl b)):=fun _ _ _ H _ I h=>Constant_bool ⟨.bl b,H,I,rfl,h⟩
theorem Wr {j pos}:PE X (.Constant .none j pos) (tC .non):=fun _ _ _ H _ I h=>Constant_none ⟨.non,H,I,rfl,h⟩
theorem cQ {x j pos}:PE X (.Constant (.str x) j pos) (tC (.str x)):=fun _ _ _ H _ I h=>Calls.Constant_str ⟨.str x,H,I.tok _,⟨_,rfl⟩,h⟩
def Gl (X:Cx)(x:Str):Prop:=X.env.kindOf x=some .globalImplicit
theorem Ag {E:Value->Shared->Prop}{pins:List (Addr × Obj)}{s:Shared}{σ:St}{H:Hp}{x:Str}{u:Value}{pos:Pos}{Q:Value->Shared->Prop}(I:Inv X pins σ H s)(hg:Gl X x)(hm:X.mg x=some u)(h:Q u s)(hd:(x == ("__debug__":Str))=false:=by decide):wpAny (model X.prog X.w) X.A (eval (.Name x pos) X.env) Q E s:=
 Calls.Name_function_global I.ok.kind hg (Calls.loadGlobal_global (by rw[I.ok.glob];exact I.mod.glob.keeps I.bk) hm h) hd
theorem jY {E:Value->Shared->Prop}{pins:List (Addr × Obj)}{s:Shared}{σ:St}{H:Hp}{x:Str}{u:Value}{pos:Pos}{Q:Value->Shared->Prop}(I:Inv X pins σ H s)(hg:Gl X x)(hm:X.mg x=none)(hv:bootBuiltins x=some u)(h:Q u s)(hn:x≠"__name__":=by decide)(hd:(x == ("__debug__":Str))=false:=by decide):wpAny (model X.prog X.w) X.A (eval (.Name x pos) X.env) Q E s:=by
 obtain⟨mb,h1,h2⟩:=I.mod.blt;exact Calls.Name_function_global I.ok.kind hg (Calls.loadGlobal_builtin (by rw[I.ok.glob];exact I.mod.glob.keeps I.bk) hm (by rw[I.ok.blt];exact h1.keeps I.bk) ((h2 x hn).trans hv) h) hd
theorem cT {x:Str}{v:V}{u:Value}{pos:Pos}(hg:Gl X x)(hm:X.mg x=some u)(r:cH v u)(hd:(x == ("__debug__":Str))=false:=by decide):PE X (.Name x pos) (tC v):=
 fun _ _ _ H _ I h=>Ag I hg hm ⟨v,H,I,r,h⟩ hd
theorem Up {x:Str}{v:V}{u:Value}{pos:Pos}(hg:Gl X x)(hm:X.mg x=none)(hv:bootBuiltins x=some u)(r:cH v u)(hn:x≠"__name__":=by decide)(hd:(x == ("__debug__":Str))=false:=by decide):PE X (.Name x pos) (tC v):=
 fun _ _ _ H _ I h=>jY I hg hm hv ⟨v,H,I,r,h⟩ hn hd
variable {a b:Expr} {ta tb:TE} {pos:Pos}
def PC (X:Cx)(op:CmpOp)(a b:Expr)(t:TE):Prop:=
 ∀(pins:List (Addr × Obj)) (s:Shared) (σ:St) (H:Hp) (Q:VK),Inv X pins σ H s->t σ H Q->
  wpAny (model X.prog X.w) X.A (eval a X.env) (fun v s₁=>wpAny (model X.prog X.w) X.A (eval b X.env) (fun u s₂=>wpAny (model X.prog X.w) X.A (compareOp op v u) (EP X pins σ Q) X.xe s₂) X.xe s₁) X.xe s
theorem Nd (b:Expr){op:CmpOp}(h:op≠.In)(h2:op≠.NotIn):behindInMarks op b=false:=by
 have e1:(op == CmpOp.In)=false:=by cases op<;>first | rfl | exact absurd rfl h
 have e2:(op == CmpOp.NotIn)=false:=by cases op<;>first | rfl | exact absurd rfl h2
 cases b<;>simp[behindInMarks,e1,e2]
def qf7 (ta:TE):TE:=fun σ H Q=>ta σ H fun x H1=>Q (.bl (decide (x=.non))) H1
theorem cH.none_iff {x:V}{v:Value}(r:cH x v):(v == Value.none)=decide (x=.non):=by
 cases x with
 |non=>cases r;rfl
 |bl _=>cases r;rfl
 |int _=>obtain⟨t,rfl⟩:=r;rfl
 |str _=>obtain⟨t,rfl⟩:=r;rfl
 |byt _=>obtain⟨t,rfl⟩:=r;rfl
 |flt _=>obtain⟨t,rfl⟩:=r;rfl
 |ref _=>cases r;rfl
 |ty _=>cases r;rfl
theorem Ei {j pos'}(ha:PE X a ta):PC X .Is a (.Constant .none j pos') (qf7 ta):=by
 intro pins s σ H Q I h;refine thn (ha pins s σ H _ I h) fun v s1 ⟨x,H1,I1,r1,q1⟩=>?_;exact Constant_none (is_none_gen ⟨.bl _,H1,I1,by rw[r1.none_iff];rfl,q1⟩)
def tB (t:TE):TT:=fun σ H Q=>t σ H fun x H1=>∃c,x=.bl c/\Q c H1
theorem Av {op:CmpOp}{t:TE}(h:PC X op a b t)(h1:behindInMarks op b=false:=by first | exact Nd _ (by decide) (by decide) | rfl):PT X (.Compare a [op] [b] pos) (tB t):=by
 intro pins s σ H Q I hw;refine wpAny_isTrue_Compare1 (thn (h pins s σ H _ I hw) fun v s1 h1=>thn h1 fun u s2 h2=>thn h2 fun c s3 ⟨x,H1,I1,r1,q1⟩=>?_) h1;obtain⟨d,rfl,q⟩:=q1
 cases r1
 exact wpAny_truthy_bool ⟨H1,I1,q⟩
theorem dY {e:Expr}{t:TE}(h:PE X e t)(he:∀whole,isTrue e X.env whole=(do let v <- whole;standAt e.pos;holding [v] (truthy v)):=by intro _;rfl):PT X e (tB t):=by
 intro pins s σ H Q I hw;refine isTrue_plain (thn (h pins s σ H _ I hw) fun v s1 ⟨x,H1,I1,r1,q1⟩=>?_) (he _);obtain⟨d,rfl,q⟩:=q1
 cases r1
 exact wpAny_truthy_bool ⟨H1,I1,q⟩
variable {tA tB':TT} {rest:List Expr}
def qd9 (t u:TT):TT:=fun σ H Q=>t σ H fun c H1=>if c=true then u σ H1 Q else Q false H1
def tOr (t u:TT):TT:=fun σ H Q=>t σ H fun c H1=>if c=true then Q true H1 else u σ H1 Q
def qd5 (t:TT):TT:=fun σ H Q=>t σ H fun c H1=>Q (!c) H1
theorem oS (ha:PT X a tA):PW X (.BoolOp .And [a] pos) tA:=by
 intro wh pins s σ H Q I h;refine isTrue_and (thn (ha pins s σ H Q I h) fun c s1 e=>?_)
 cases c with
 |true=>exact isTrue_and_nil e
 |false=>exact e
theorem jI (ha:PT X a tA):PW X (.BoolOp .Or [a] pos) tA:=by
 intro wh pins s σ H Q I h;refine isTrue_or (thn (ha pins s σ H Q I h) fun c s1 e=>?_)
 cases c with
 |false=>exact isTrue_or_nil e
 |true=>exact e
theorem vJ (ha:PT X a tA)(hb:PW X (.BoolOp .And (b :: rest) pos) tB'):PW X (.BoolOp .And (a :: b :: rest) pos) (qd9 tA tB'):=by
 intro wh pins s σ H Q I h;refine isTrue_and (thn (ha pins s σ H _ I h) fun c s1 ⟨H1,I1,q1⟩=>?_)
 cases c with
 |true=>exact hb wh pins s1 σ H1 Q I1 q1
 |false=>exact⟨H1,I1,q1⟩
theorem kH (ha:PT X a tA)(hb:PW X (.BoolOp .Or (b :: rest) pos) tB'):PW X (.BoolOp .Or (a :: b :: rest) pos) (tOr tA tB'):=by
 intro wh pins s σ H Q I h;refine isTrue_or (thn (ha pins s σ H _ I h) fun c s1 ⟨H1,I1,q1⟩=>?_)
 cases c with
 |true=>exact⟨H1,I1,q1⟩
 |false=>exact hb wh pins s1 σ H1 Q I1 q1
theorem gE (ha:PT X a tA):PT X (.UnaryOp .Not a pos) (qd5 tA):=by
 intro pins s σ H Q I h;exact isTrue_not (ha pins s σ H (fun c H1=>Q (!c) H1) I h)
def Zs (ta tb:TE):TE:=fun σ H Q=>ta σ H fun x H1=>∃c,x=.bl c/\if c=true then tb σ H1 Q else Q (.bl false) H1
def Zo (ta:TE):TE:=fun σ H Q=>ta σ H fun x H1=>∃c,x=.bl c/\Q (.bl (!c)) H1
theorem pV {op}{t:TE}(h:PE X a t):PE X (.BoolOp op [a] pos) t:=fun pins s σ H Q I hw=>BoolOp_one (h pins s σ H Q I hw)
theorem kO (ha:PE X a ta)(hb:PE X (.BoolOp .And (b :: rest) pos) tb):PE X (.BoolOp .And (a :: b :: rest) pos) (Zs ta tb):=by
 intro pins s σ H Q I h;refine BoolOp_and (thn (ha pins s σ H _ I h) fun v s1 ⟨x,H1,I1,r1,q1⟩=>?_);obtain⟨c,rfl,q1⟩:=q1
 cases r1
 refine wpAny_truthy_bool ?_
 cases c with
 |true=>exact hb pins s1 σ H1 Q I1 q1
 |false=>exact⟨.bl false,H1,I1,rfl,q1⟩
theorem Wn (ha:PE X a ta):PE X (.UnaryOp .Not a pos) (Zo ta):=by
 intro pins s σ H Q I h;refine UnaryOp_ (thn (ha pins s σ H _ I h) fun v s1 ⟨x,H1,I1,r1,q1⟩=>?_);obtain⟨c,rfl,q1⟩:=q1
 cases r1
 exact not_of (wpAny_truthy_bool ⟨.bl (!c),H1,I1,rfl,q1⟩)
def tIf (t:TT)(ta tb:TE):TE:=fun σ H Q=>t σ H fun c H1=>if c=true then ta σ H1 Q else tb σ H1 Q
theorem uS {c:Expr}(hc:PT X c tA)(ha:PE X a ta)(hb:PE X b tb):PE X (.IfExp c a b pos) (tIf tA ta tb):=by
 intro pins s σ H Q I h;refine wpAny_IfExp (thn (hc pins s σ H _ I h) fun d s1 ⟨H1,I1,q1⟩=>?_)
 cases d with
 |true=>exact ha pins s1 σ H1 Q I1 q1
 |false=>exact hb pins s1 σ H1 Q I1 q1
end
def SqL (K:Frag)(H:Hp)(a:Addr)(xs:List V):Prop:=
 Rd H a (.lst xs)\/
  ∃(o:Obj) (its:Array Value) (n:Nat),K.lookup a=some o/\o.cls=.type "list"/\o.dict=none/\o.data=.seq its n/\its.size<=sizeLine/\cB xs its.toList
def SqT (K:Frag)(H:Hp)(a:Addr)(xs:List V):Prop:=
 Rd H a (.tup xs)\/
  ∃(o:Obj) (its:Array Value) (n:Nat),K.lookup a=some o/\o.cls=.type "tuple"/\o.data=.seq its n/\its.size<=sizeLine/\cB xs its.toList
def qe7:Value->Option V
 | .none=>some .non
 | .bool b=>some (.bl b)
 | .int i _=>some (.int i)
 | .str x _=>some (.str x)
 | .bytes b _=>some (.byt b)
 | .float b _=>some (.flt b)
 | .ref a=>some (.ref a)
 | .type n=>some (.ty n)
 |_=>none
theorem cH.abs {x:V}{u:Value}(r:cH x u):qe7 u=some x:=by
 cases x with
 |non=>cases r;rfl
 |bl _=>cases r;rfl
 |int _=>obtain⟨t,rfl⟩:=r;rfl
 |str _=>obtain⟨t,rfl⟩:=r;rfl
 |byt _=>obtain⟨t,rfl⟩:=r;rfl
 |flt _=>obtain⟨t,rfl⟩:=r;rfl
 |ref _=>cases r;rfl
 |ty _=>cases r;rfl
theorem cH.inj {x y:V}{u:Value}(r:cH x u)(q:cH y u):x=y:=Option.some.inj (r.abs.symm.trans q.abs)
theorem cB.inj:∀{xs ys:List V} {us:List Value},cB xs us->cB ys us->xs=ys
 |_,_,_,.nil,.nil=>rfl
 |_,_,_,.cons r t,.cons r' t'=>by rw[r.inj r',cB.inj t t']
section
variable {X:Cx} {pins:List (Addr × Obj)} {σ:St} {H:Hp} {s:Shared} {a:Addr} {xs ys:List V}
theorem SqL.of {K:Frag}(h:H a=some (.lst xs)):SqL K H a xs:=.inl (.inl h)
theorem SqT.of {K:Frag}(h:H a=some (.tup xs)):SqT K H a xs:=.inl (.inl h)
theorem Inv.list (I:Inv X pins σ H s)(h:SqL X.K H a xs):∃its:List Value,cB xs its/\PlainL s.heap a its.toArray/\xs.length<=sizeLine:=by
 rcases h with h | ⟨o,its,n,hk,hc,hd,hs,hz,r⟩
 ·obtain⟨z,its,n,r,e⟩:=h.ok I.hok;exact⟨its,r,⟨_,n,e,rfl,rfl,rfl⟩,z⟩
 ·refine⟨its.toList,r,⟨o,n,I.kIn a o hk,hc,hd,by simpa using hs⟩,?_⟩;have e:=r.length;simp only[Array.length_toList] at e;lia
theorem Inv.tuple (I:Inv X pins σ H s)(h:SqT X.K H a xs):∃its:List Value,cB xs its/\IsTup s.heap a its.toArray/\xs.length<=sizeLine:=by
 rcases h with h | ⟨o,its,n,hk,hc,hs,hz,r⟩
 ·obtain⟨z,its,r,p⟩:=h.ok I.hok;exact⟨its,r,p,z⟩
 ·refine⟨its.toList,r,⟨o,I.kIn a o hk,hc,n,by simpa using hs⟩,?_⟩;have e:=r.length;simp only[Array.length_toList] at e;lia
theorem Inv.list_inj (I:Inv X pins σ H s)(h:SqL X.K H a xs)(h':SqL X.K H a ys):xs=ys:=by
 obtain⟨its,r,⟨o,n,e,_,_,d⟩,_⟩:=I.list h;obtain⟨its',r',⟨o',n',e',_,_,d'⟩,_⟩:=I.list h';rw[e] at e';cases e';rw[d] at d';injection d' with d1 _
 have:its=its':=by simpa using congrArg Array.toList d1
 subst this;exact r.inj r'
theorem Inv.tuple_inj (I:Inv X pins σ H s)(h:SqT X.K H a xs)(h':SqT X.K H a ys):xs=ys:=by
 obtain⟨its,r,⟨o,e,_,n,d⟩,_⟩:=I.tuple h;obtain⟨its',r',⟨o',e',_,n',d'⟩,_⟩:=I.tuple h';rw[e] at e';cases e';rw[d] at d';injection d' with d1 _
 have:its=its':=by simpa using congrArg Array.toList d1
 subst this;exact r.inj r'
end
abbrev Cx.wish (X:Cx)(E:Value->Shared->Prop):Cx:={ X with xe:=E }
abbrev Cx.nox (X:Cx):Cx:=X.wish fun _ _=>False
theorem Cx.Ok.wish {X:Cx}(ok:X.Ok)(E:Value->Shared->Prop):(X.wish E).Ok:=
 ⟨ok.mod,ok.kind,ok.glob,ok.blt,ok.above,ok.inj,ok.has,ok.cab,ok.hd,ok.frames,ok.stk,ok.exf,ok.bs,ok.bsz,ok.noex,ok.exfs,ok.funs,ok.frf⟩
theorem Cx.Ok.unwish {X:Cx}{E:Value->Shared->Prop}(ok:(X.wish E).Ok):X.Ok:=
 ⟨ok.mod,ok.kind,ok.glob,ok.blt,ok.above,ok.inj,ok.has,ok.cab,ok.hd,ok.frames,ok.stk,ok.exf,ok.bs,ok.bsz,ok.noex,ok.exfs,ok.funs,ok.frf⟩
section
variable {X:Cx} {pins:List (Addr × Obj)} {σ:St} {H:Hp} {s:Shared} {E:Value->Shared->Prop}
theorem Inv.wish (I:Inv X pins σ H s)(E:Value->Shared->Prop):Inv (X.wish E) pins σ H s:=⟨I.ok.wish E,I.os,I.bare,I.base,I.loc,I.cell,I.free,I.freeC,I.pin,I.hok,I.len⟩
theorem Inv.unwish (I:Inv (X.wish E) pins σ H s):Inv X pins σ H s:=⟨I.ok.unwish,I.os,I.bare,I.base,I.loc,I.cell,I.free,I.freeC,I.pin,I.hok,I.len⟩
theorem SP.unwish {D:kY}{f:Flow}{s':Shared}(h:SP (X.wish E) pins D f s'):SP X pins D f s':=by
 cases f with
 |next=>obtain⟨σ',H',I,q⟩:=h;exact⟨σ',H',I.unwish,q⟩
 |brk=>obtain⟨σ',H',I,q⟩:=h;exact⟨σ',H',I.unwish,q⟩
 |cont=>obtain⟨σ',H',I,q⟩:=h;exact⟨σ',H',I.unwish,q⟩
 |ret u=>obtain⟨v,σ',H',I,r,q⟩:=h;exact⟨v,σ',H',I.unwish,r,q⟩
theorem PSs.nox {st:List Stmt}{t:TS}(h:PSs X.nox st t):PSs X st t:=fun pins s σ H D I hw=>
 wpAny_mono (h pins s σ H D (I.wish _) hw) (fun _ _ q=>q.unwish) fun _ _ z=>False.elim z
end
section
variable {X:Cx} {st:Stmt} {rest:List Stmt} {t u:TS} {e:Expr} {te:TE} {pos:Pos}
def qd1:TS:=fun D σ H=>D.nx σ H
def gF (t u:TS):TS:=fun D σ H=>t { D with nx:=u D } σ H
theorem bH:PSs X [] qd1:=fun _ _ σ H _ I h=>wpAny_execs_nil ⟨σ,H,I,h⟩
theorem aB (h1:PS X st t)(h2:PSs X rest u):PSs X (st :: rest) (gF t u):=by
 intro pins s σ H D I h;refine wpAny_execs_cons (thn (h1 pins s σ H { D with nx:=u D } I h) fun f s1 q=>?_)
 cases f with
 |next=>
  obtain⟨σ',H',I',q⟩:=q;exact h2 pins s1 σ' H' D I' q
 |ret v=>exact q
 |brk=>exact q
 |cont=>exact q
theorem aG (h1:PS X st t):PSs X [st] t:=by
 intro pins s σ H D I h;refine wpAny_execs_cons (thn (h1 pins s σ H D I h) fun f s1 q=>?_)
 cases f with
 |next=>exact wpAny_execs_nil q
 |ret v=>exact q
 |brk=>exact q
 |cont=>exact q
def qc9:TS:=fun D σ H=>D.ct σ H
theorem Dj:PS X (.Continue pos) qc9:=fun _ _ σ H _ I h=>wpAny_Continue ⟨σ,H,I,h⟩
theorem Inv.quiet {pins:List (Addr × Obj)}{σ:St}{H:Hp}{s:Shared}(I:Inv X pins σ H s):interactive X.env=false:=by simp[interactive,I.ok.kind]
def qa9 (te:TE):TS:=fun D σ H=>te σ H fun _ H1=>D.nx σ H1
theorem bY (he:PE X e te)(hs:swapsWith e none pos.line X.env=pure false:=by rfl):PS X (.Expr e pos) (qa9 te):=by
 intro pins s σ H D I h;exact wpAny_Expr_any (thn (he pins s σ H _ I h) fun v s1 ⟨x,H1,I1,r1,q1⟩=>⟨σ,H1,I1,q1⟩) I.quiet hs
def qf8 (te:TE):TS:=fun D σ H=>te σ H D.rt
theorem aX (he:PE X e te):PS X (.Return (some e) pos) (qf8 te):=by
 intro pins s σ H D I h;exact wpAny_Return_some (thn (he pins s σ H _ I h) fun v s1 ⟨x,H1,I1,r1,q1⟩=>⟨x,σ,H1,I1,r1,q1⟩)
def qg6 (c:TT)(t u:TS):TS:=fun D σ H=>c σ H fun b H1=>if b=true then t D σ H1 else u D σ H1
theorem cD {c:Expr}{a b:List Stmt}{tc:TT}(hc:PT X c tc)(ha:PSs X a t)(hb:PSs X b u):PS X (.If c a b pos) (qg6 tc t u):=by
 intro pins s σ H D I h;refine wpAny_If (thn (hc pins s σ H _ I h) fun d s1 ⟨H1,I1,q1⟩=>?_)
 cases d with
 |true=>exact ha pins s1 σ H1 D I1 q1
 |false=>exact hb pins s1 σ H1 D I1 q1
def Qg:TS:=fun _ _ _=>False
theorem fH:PS X st Qg:=fun _ _ _ _ _ _ h=>h.elim
theorem Km {sts:List Stmt}:PSs X sts Qg:=fun _ _ _ _ _ _ h=>h.elim
end
abbrev TG:=V->St->Hp->(St->Hp->Prop)->Prop
abbrev TGs:=List V->St->Hp->(St->Hp->Prop)->Prop
def PG (X:Cx)(target:Expr)(t:TG):Prop:=
 ∀(pins:List (Addr × Obj)) (s:Shared) (σ:St) (H:Hp) (v:V) (u:Value) (Q:St->Hp->Prop),Inv X pins σ H s->cH v u->t v σ H Q->
  wpAny (model X.prog X.w) X.A (assign target X.env u) (fun _ s'=>∃σ' H',Inv X pins σ' H' s'/\Q σ' H') X.xe s
def PGs (X:Cx)(ts:List Expr)(t:TGs):Prop:=
 ∀(pins:List (Addr × Obj)) (s:Shared) (σ:St) (H:Hp) (vs:List V) (us:List Value) (Q:St->Hp->Prop),Inv X pins σ H s->cB vs us->t vs σ H Q->
  wpAny (model X.prog X.w) X.A (assignInOrder ((assignEach ts X.env).map (·.2)) us) (fun _ s'=>∃σ' H',Inv X pins σ' H' s'/\Q σ' H') X.xe s
abbrev Xr:=V->V->V->Hp->(Hp->Prop)->Prop
def qc3 (X:Cx)(t:Xr):Prop:=
 ∀(pins:List (Addr × Obj)) (s:Shared) (σ:St) (H:Hp) (o i v:V) (ov iv u:Value) (Q:Hp->Prop),Inv X pins σ H s->cH o ov->cH i iv->cH v u->t o i v H Q->
  wpAny (model X.prog X.w) X.A (setItem ov iv u) (fun _ s'=>∃H',Inv X pins σ H' s'/\Q H') X.xe s
abbrev TIp:=V->V->Hp->VK->Prop
def PIp (X:Cx)(op:Operator)(t:TIp):Prop:=
 ∀(pins:List (Addr × Obj)) (s:Shared) (σ:St) (H:Hp) (x y:V) (v u:Value) (Q:VK),Inv X pins σ H s->cH x v->cH y u->t x y H Q->
  wpAny (model X.prog X.w) X.A (inplaceOp op v u) (EP X pins σ Q) X.xe s
section
variable {X:Cx} {pos:Pos}
def jQ (i:Nat):TG:=fun v σ H Q=>Q (σ.set i (some v)) H
theorem bU {i:Nat}{x:Str}(hN:X.N.Nodup)(hi:X.N[i]?=some x)(hx:Loc X.env.scope x)(hf:X.fn x=true\/X.env.scope.names.lookup x=some .local:=by first | exact .inl rfl | exact .inr rfl | assumption):PG X (.Name x pos) (jQ i):=by
 intro pins s σ H v u Q I r h;exact wpAny_assign_Name (kN I hN hi hx r (fun s' I'=>⟨_,H,I',h⟩) hf)
def Ll:TGs:=fun vs σ H Q=>vs=[]/\Q σ H
def kP (t:TG)(u:TGs):TGs:=fun vs σ H Q=>∃v r,vs=v :: r/\t v σ H fun σ' H'=>u r σ' H' Q
theorem kE:PGs X [] Ll:=by
 intro pins s σ H vs us Q I r h;obtain⟨e,h⟩:=h;subst e
 cases r
 exact assignInOrder_nil ⟨σ,H,I,h⟩
theorem eP {e:Expr}{es:List Expr}{t:TG}{u:TGs}(h1:PG X e t)(h2:PGs X es u)(hs:(assignEach (e :: es) X.env).map (·.2)=assign e X.env :: (assignEach es X.env).map (·.2):=by rfl):PGs X (e :: es) (kP t u):=by
 intro pins s σ H vs us Q I r h;obtain⟨v,vr,e1,h⟩:=h;subst e1
 cases r with
 |cons r rr=>
  rw[hs];refine assignInOrder_cons (thn (h1 pins s σ H _ _ _ I r h) fun _ s1 ⟨σ1,H1,I1,q1⟩=>?_);exact h2 pins s1 σ1 H1 _ _ Q I1 rr q1
def Kz (K:Frag)(n:Nat)(t:TGs):TG:=fun v σ H Q=>∃a xs,v=.ref a/\SqT K H a xs/\xs.length=n/\t xs σ H Q
theorem nT {es:List Expr}{k:Nat}{t:TGs}{n:Nat}(hc:X.calm=true)(h:PGs X es t)(hn:(assignEach es X.env).length=n:=by rfl)(hst:(assignEach es X.env).findIdx? (·.1)=none:=by rfl):PG X (.Tuple es k pos) (Kz X.K n t):=by
 intro pins s σ H v u Q I r hw;obtain⟨a,xs,e1,hq,hl,hw⟩:=hw;subst e1
 cases r
 obtain⟨its,rv,ht,hz⟩:=I.tuple hq;refine assign_Tuple_tuple (I.ok.hd hc) ht (by simp[hn,<- hl,rv.length]) hst fun h' hx=>?_;have I1:Inv X pins σ H { s with heap:=h' }:=I.kept (t':=s.toks) fun b o e=>hx b o (Nat.ne_of_lt (Heap.lt_size e)) e;exact h pins _ σ H xs _ Q I1 (by simpa using rv) hw
def qg8 (to ti:TE)(t:Xr):TG:=fun v σ H Q=>to σ H fun o H1=>ti σ H1 fun i H2=>t o i v H2 fun H3=>Q σ H3
theorem nU {o i:Expr}{to ti:TE}{t:Xr}(ho:PE X o to)(hi:PE X i ti)(hs:qc3 X t)(ha:∀v,assign (.Subscript o i pos) X.env v=(do
   let ov <- holding [v] (eval o X.env)
   let iv <- holding [v,ov] (eval i X.env)
   standAt pos
   holding [v,ov,iv] (setItem ov iv v)
   release [v,ov,iv] []):=by intro _;rfl):PG X (.Subscript o i pos) (qg8 to ti t):=by
 intro pins s σ H v u Q I r h;rw[ha];refine wpAny_bind (wpAny_holding (thn (ho pins s σ H _ I h) fun ov s1 ⟨x,H1,I1,r1,q1⟩=>?_));refine wpAny_bind (wpAny_holding (thn (hi pins s1 σ H1 _ I1 q1) fun iv s2 ⟨y,H2,I2,r2,q2⟩=>?_));refine wpAny_bind (wpAny_standAt (wpAny_bind (wpAny_holding (thn (hs pins s2 σ H2 x y v ov iv u _ I2 r1 r2 r q2) fun _ s3 ⟨H3,I3,q3⟩=>?_))));exact wpAny_release ⟨σ,H3,I3,q3⟩
def Vu (te:TE)(g:TG):TS:=fun D σ H=>te σ H fun x H1=>g x σ H1 D.nx
theorem oC {tg e:Expr}{te:TE}{g:TG}(he:PE X e te)(hg:PG X tg g)(hs:swapsWithSole [tg] e pos.line X.env=pure false:=by rfl)(hw:swappedStores [tg] e X.env=pure none:=by rfl)(h1:(assignEach [tg] X.env).map (·.2)=[assign tg X.env]:=by rfl):PS X (.Assign [tg] e pos) (Vu te g):=by
 intro pins s σ H D I h;refine wpAny_Assign_stores (thn (he pins s σ H _ I h) fun v s1 ⟨x,H1,I1,r1,q1⟩=>?_) hs hw;rw[h1];exact thn (hg pins s1 σ H1 x v _ I1 r1 q1) fun _ s2 q=>q
theorem aV {i:Nat}{x:Str}{e:Expr}{te:TE}{pos':Pos}(hN:X.N.Nodup)(hi:X.N[i]?=some x)(hx:Loc X.env.scope x)(he:PE X e te)(hs:swapsWith e (some (.Name x pos')) pos.line X.env=pure false:=by rfl)(hf:X.fn x=true\/X.env.scope.names.lookup x=some .local:=by first | exact .inl rfl | exact .inr rfl | assumption) :
  PS X (.Assign [.Name x pos'] e pos) (Vu te (jQ i)):=by
 intro pins s σ H D I h;refine wpAny_Assign_Name (thn (he pins s σ H _ I h) fun v s1 ⟨y,H1,I1,r1,q1⟩=>?_) hs;exact kN I1 hN hi hx r1 (fun s2 I2=>⟨_,H1,I2,q1⟩) hf
def qf0 (i j:Nat)(ta:TA):TS:=fun D σ H=>ta σ H fun vs H1=>∃v w,vs=[v,w]/\D.nx ((σ.set i (some v)).set j (some w)) H1
theorem Mv {i j:Nat}{x y:Str}{a b:Expr}{ta:TA}{px py pt:Pos}{kt k2 pt2}(hc:X.calm=true)(hN:X.N.Nodup)(hi:X.N[i]?=some x)(hj:X.N[j]?=some y)(hij:i≠j)(hx:X.env.scope.names.lookup x=some .local)(hy:X.env.scope.names.lookup y=some .local)(ha:PA X [a,b] ta)(hw:swappedStores [.Tuple [.Name x px,.Name y py] kt pt] (.Tuple [a,b] k2 pt2) X.env=pure (some [x,y]))(hs:swapsWithSole [.Tuple [.Name x px,.Name y py] kt pt] (.Tuple [a,b] k2 pt2) pos.line X.env=pure false:=by rfl) :
  PS X (.Assign [.Tuple [.Name x px,.Name y py] kt pt] (.Tuple [a,b] k2 pt2) pos) (qf0 i j ta):=by
 intro pins s σ H D I h;rw[exec_Assign_arm];refine wpAny_bind (wpAny_standAt ?_);rw[hs];refine wpAny_bind (wpAny_pure ?_);rw[if_neg (by decide)];refine wpAny_bind (Tuple_ (thn (ha _ pins s σ H _ I h) fun us s1 ⟨vs,H1,I1,r1,q1⟩=>?_));obtain⟨v,w,e1,q1⟩:=q1;subst e1;obtain⟨u1,u2,rfl,rv,rw'⟩:∃u1 u2,us=[u1,u2]/\cH v u1/\cH w u2:=by
  cases r1 with
  |cons p q=>
   cases q with
   |cons p' q'=>
    cases q'
    exact⟨_,_,rfl,p,p'⟩
 refine wpAny_newObj_type ?_ (by show 2<=sizeLine;decide);have I2:Inv X pins σ H1 { s1 with heap:=s1.heap.push { cls:=.type "tuple",data:=.seq [u1,u2].toArray } }:=I1.kept (t':=s1.toks) fun b o e=>Heap.get?_push_of_some _ e;rw[hw];refine wpAny_bind (wpAny_pure ?_);show wpAny (model X.prog X.w) X.A (do rule "assign.swapped-stores";let items <- unpackItems (.ref s1.heap.objs.size) 2 none;assignInOrder [fun v=>bindName X.env y v,fun v=>bindName X.env x v] items.reverse;pure Flow.next) _ _ _;refine wpAny_bind (wpAny_rule (wpAny_bind (unpackItems_tuple (items:=#[u1,u2]) (I.ok.hd hc) (IsTup.new s1.heap _) fun h' hx'=>?_)));have I3:=I2.kept (h':=h') (t':=s1.toks) fun b o e=>hx' b o (Nat.ne_of_lt (Heap.lt_size e)) e;show wpAny _ _ (assignInOrder [fun v=>bindName X.env y v,fun v=>bindName X.env x v] [u2,u1] >>= fun _=>pure Flow.next) _ _ _;refine wpAny_bind (assignInOrder_cons (wpAny_bindName (kN I3 hN hj (.inl hy) rw' (fun s2 I4=>?_) (.inr hy))));refine assignInOrder_cons (wpAny_bindName (kN I4 hN hi (.inl hx) rv (fun s3 I5=>assignInOrder_nil (wpAny_pure ?_)) (.inr hx)));rw[set_comm _ _ (Ne.symm hij)] at I5;exact⟨_,H1,I5,q1⟩
def qf2 (i:Nat)(te:TE)(ti:TIp):TS:=fun D σ H=>∃x,σ[i]?=some (some x)/\te σ H fun y H1=>ti x y H1 fun z H2=>D.nx (σ.set i (some z)) H2
theorem Gb {i:Nat}{x:Str}{e:Expr}{te:TE}{op:Operator}{ti:TIp}{pos':Pos}(hN:X.N.Nodup)(hi:X.N[i]?=some x)(hx:Loc X.env.scope x)(he:PE X e te)(ho:PIp X op ti)(hf:X.fn x=true\/X.env.scope.names.lookup x=some .local:=by first | exact .inl rfl | exact .inr rfl | assumption) :
  PS X (.AugAssign (.Name x pos') op e pos) (qf2 i te ti):=by
 intro pins s σ H D I h;obtain⟨v,e1,h⟩:=h;obtain⟨m,hn,hl⟩:=I.loc;have vis:Vis X.env.scope x:=by rcases hx with k | k;exact .inl k;exact .inr (.inl k)
 obtain⟨u,r,l⟩:=hl i x v hi e1 vis;refine wpAny_AugAssign_Name ?_;have go:wpAny (model X.prog X.w) X.A (eval e X.env) (fun w s₂=>wpAny (model X.prog X.w) X.A (inplaceOp op u w) (fun r s₃=>wpAny (model X.prog X.w) X.A (storeName X.env x r) (fun _=>SP X pins D .next) X.xe s₃) X.xe s₂) X.xe s:=by
  refine thn (he pins s σ H _ I h) fun w s1 ⟨y,H1,I1,r1,q1⟩=>?_;refine thn (ho pins s1 σ H1 v y u w _ I1 r r1 q1) fun z s2 ⟨zv,H2,I2,r2,q2⟩=>?_;exact kN I2 hN hi hx r2 (fun s3 I3=>⟨_,H2,I3,q2⟩) hf
 rcases l with ⟨hk,hm⟩ | ⟨hk,c,hc,hcell⟩
 ·exact wpAny_loadName_local I.ok.kind hk hn hm go
 ·rcases hk with hk | hk
  ·exact wpAny_loadName_cell I.ok.kind hk hc hcell go
  ·rcases hx with k | k
   ·have:X.env.scope.names.lookup x=some .free:=hk;rw[k] at this;cases this
   ·have:X.env.scope.names.lookup x=some .free:=hk;rw[k] at this;cases this
def ipI (f:Int->Int->Int):TIp:=fun x y H Q=>∃i j,x=.int i/\y=.int j/\Q (.int (f i j)) H
theorem Gc:PIp X .Add (ipI fun i j=>i+j):=by
 intro pins s σ H x y v u Q I r1 r2 h;obtain⟨i,j,e1,e2,q⟩:=h;subst e1;subst e2;obtain⟨t,rfl⟩:=r1;obtain⟨t',rfl⟩:=r2;exact iadd_int ⟨.int _,H,I.tok _,⟨_,rfl⟩,q⟩
def Pi (c:TT)(tb:TS):TS:=fun D σ H=>∃W:Nat->St->Hp->Prop,(∃m,W m σ H)/\∀m σ H,W m σ H->
 c σ H fun b H1=>if b=true then ∃N:St->Hp->Prop,(∀σ' H',N σ' H'->∃m',m' < m/\W m' σ' H')/\tb { D with nx:=N,ct:=N,bk:=D.nx } σ H1 else D.nx σ H1
theorem vD {c:Expr}{body:List Stmt}{tc:TT}{tb:TS}(hp:PassesOwn (model X.prog X.w) X.A X.env X.xe)(hc:PT X c tc)(hb:PSs X body tb):PS X (.While c body [] pos) (Pi tc tb):=by
 intro pins s σ H D I h;obtain⟨W,⟨m0,w0⟩,turn⟩:=h;refine wpAny_While (codeAny_whileLoop (fun n s'=>∃σ' H',Inv X pins σ' H' s'/\W n σ' H') ?_ m0 ⟨σ,H,I,w0⟩);rintro n s1 ⟨σ1,H1,I1,w1⟩;refine wpAny_passesOwn hp (thn (hc pins s1 σ1 H1 _ I1 (turn n σ1 H1 w1)) fun b s2 ⟨H2,I2,q2⟩=>?_)
 cases b with
 |true=>
  obtain⟨N,hN,q2⟩:=q2;rw[if_pos rfl];refine wpAny_passesOwn hp (thn (hb pins s2 σ1 H2 _ I2 q2) fun f s3 q3=>?_)
  cases f with
  |next=>
   obtain⟨σ3,H3,I3,n3⟩:=q3;obtain⟨m',hm,w3⟩:=hN σ3 H3 n3;exact⟨m',hm,σ3,H3,I3,w3⟩
  |cont=>
   obtain⟨σ3,H3,I3,n3⟩:=q3;obtain⟨m',hm,w3⟩:=hN σ3 H3 n3;exact⟨m',hm,σ3,H3,I3,w3⟩
  |brk=>exact q3
  |ret v=>exact q3
 |false=>
  rw[if_neg Bool.false_ne_true];exact wpAny_execs_nil ⟨σ1,H2,I2,q2⟩
end
structure It where
 go:Nat->Hp->Prop
 yld:Nat->Hp->V->Hp->Prop
 stop:Nat->Hp->Prop
def mU (X:Cx)(pins:List (Addr × Obj))(H:Hp)(b:Addr):Prop:=
 H b=none/\b≠X.env.locals/\b∉X.fs/\(b∈X.ex\/X.s₀.heap.objs.size<=b)/\(∀x c,X.env.cells.lookup x=some c->c≠b)/\∀p∈X.pn++pins,p.1≠b
theorem Inv.fpOk {X:Cx}{pins:List (Addr × Obj)}{σ:St}{H H':Hp}{s:Shared}{b:Addr}(I:Inv X pins σ H s)(hb:s.heap.objs.size<=b)(hn:H' b=none):mU X pins H' b:=by
 refine⟨hn,Nat.ne_of_gt (Nat.lt_of_lt_of_le I.lt hb),I.nofs hb,.inr (Nat.le_trans I.sz hb),fun x c e z=>?_,fun p hp z=>?_⟩
 ·obtain⟨v,q⟩:=I.cell x c e;exact absurd (Nat.lt_of_lt_of_le q.lt (by rw[z];exact hb)) (Nat.lt_irrefl _)
 ·exact absurd (Nat.lt_of_lt_of_le (Heap.lt_size (I.pin p hp).1) (by rw[z];exact hb)) (Nat.lt_irrefl _)
structure Ja (P:Program) (w:World) (K:Frag) (tg:Expr) (J:It) (fp:List Addr) (it:Addr) (tn:Nat->Heap->Prop):Prop where
 mem:it∈fp
 obj:∀i h,tn i h->∀b∈fp,∃o,h.get? b=some o/\∀v,o.data≠.cell v
 keep:∀i h h',tn i h->(∀b∈fp,∀o,h.get? b=some o->h'.get? b=some o)->tn i h'
 item:∀(X:Cx),X.prog=P->X.w=w->X.K=K->X.calm=true->∀(i:Nat) (pins:List (Addr × Obj)) (s:Shared) (σ:St) (H:Hp) (E:Value->Shared->Prop),Inv X pins σ H s->(∀b∈fp,mU X pins H b)->tn i s.heap->J.go i H->
  wpAny (model P w) X.A (pyNext (.ref it)) (fun r s1=>∃u,r=some u/\
   wpAny (model P w) X.A (letOwnedTupleGo tg (.ref it) u) (fun _ s2=>∃x H',Inv X pins σ H' s2/\cH x u/\J.yld i H x H'/\tn (i+1) s2.heap/\∀b∈fp,H' b=none) E s1) E s
 done:∀(X:Cx),X.prog=P->X.w=w->X.K=K->X.calm=true->∀(i:Nat) (pins:List (Addr × Obj)) (s:Shared) (σ:St) (H:Hp) (E:Value->Shared->Prop),Inv X pins σ H s->(∀b∈fp,mU X pins H b)->tn i s.heap->J.stop i H->
  wpAny (model P w) X.A (pyNext (.ref it)) (fun r s1=>r=none/\Inv X pins σ H s1) E s
 self:∀(A:Around) (i:Nat) (s:Shared) (Q:Value->Shared->Prop) (E:Value->Shared->Prop),tn i s.heap->Q (.ref it) s->wpAny (model P w) A (pyIter (.ref it)) Q E s
abbrev TI:=St->Hp->(It->Hp->Prop)->Prop
def PIE (X:Cx)(pins:List (Addr × Obj))(σ:St)(tg:Expr)(R:It->Hp->Prop)(itv:Value)(s2:Shared):Prop:=
 ∃(it:Addr) (fp:List Addr) (tn:Nat->Heap->Prop) (J:It) (H':Hp),itv=.ref it/\Inv X pins σ H' s2/\Ja X.prog X.w X.K tg J fp it tn/\tn 0 s2.heap/\(∀b∈fp,mU X pins H' b)/\R J H'
def PI (X:Cx)(tg iter:Expr)(wi:TI):Prop:=
 ∀(pins:List (Addr × Obj)) (s:Shared) (σ:St) (H:Hp) (R:It->Hp->Prop),Inv X pins σ H s->wi σ H R->
  wpAny (model X.prog X.w) X.A (eval iter X.env) (fun v s1=>wpAny (model X.prog X.w) X.A (pyIter v) (PIE X pins σ tg R) X.xe s1) X.xe s
theorem Mh {M : Model}{A : Around}{E : Value -> Shared -> Prop}{s : Shared}{tg : Expr}{it : Addr}{u : Value}{o : Obj}{n : String}{vs : Array Value}{Q : Unit -> Shared -> Prop}(ho : s.heap.get? it = some o)(hc : o.cls = .type n)(hd : o.data = .fields vs)(hn : ["enumerate", "zip", "dict_itemiterator", "dict_reverseitemiterator", "odict_iterator", "itertools.zip_longest", "itertools.pairwise"].contains n = false)(hQ : Q () s) : wpAny M A (letOwnedTupleGo tg (.ref it) u) Q E s := by
  unfold letOwnedTupleGo
  cases tg <;> first
    | exact wpAny_pure hQ
    | (cases u <;> first
        | exact wpAny_pure hQ
        | (refine wpAny_bind (wpAny_load ho ?_)
           rw [hc, hd];show wpAny M A (if (["enumerate", "zip", "dict_itemiterator", "dict_reverseitemiterator", "odict_iterator", "itertools.zip_longest", "itertools.pairwise"].contains n && vs[0]? == some (rawInt _)) = true then _ else _) Q E s;rw [if_neg (by intro h; rw [hn, Bool.false_and] at h; cases h)];exact wpAny_pure hQ))
def Itl (K:Frag)(a:Addr):It:=
 ⟨fun i H=>∃xs x,SqL K H a xs/\xs[i]?=some x,fun i H x H'=>H'=H/\∀xs,SqL K H a xs->xs[i]?=some x,fun i H=>∃xs,SqL K H a xs/\xs.length<=i⟩
def Itt (K:Frag)(a:Addr):It:=
 ⟨fun i H=>∃xs x,SqT K H a xs/\xs[i]?=some x,fun i H x H'=>H'=H/\∀xs,SqT K H a xs->xs[i]?=some x,fun i H=>∃xs,SqT K H a xs/\xs.length<=i⟩
def Itr (lo:Int)(n:Nat):It:=⟨fun i _=>i < n,fun i H x H'=>H'=H/\x=.int (lo+i),fun i _=>n<=i⟩
theorem Iw {P:Program}{w:World}{K:Frag}{tg:Expr}(a it:Addr):Ja P w K tg (Itl K a) [it] it (fun i h=>h.IsListIter it a i) where
 mem:=by simp
 obj:=fun i h st b hb=>by
  have e:b=it:=by simpa using hb
  subst e;obtain⟨o,e,c,d⟩:=st;exact⟨o,e,fun v z=>by rw[d] at z;cases z⟩
 keep:=fun i h h' st k=>st.at fun o e=>k it (by simp) o e
 item:=by
  intro X hP hw hK hc i pins s σ H E I hf st hg;subst hP hw hK;obtain⟨xs,x,hq,hx⟩:=hg;obtain⟨its,rv,p,hz⟩:=I.list hq;obtain⟨u,hu,ru⟩:=rv.get hx;obtain⟨f0,f1,f2,f3,f4,f5⟩:=hf it (by simp);refine wpAny_pyNext_list_item st p.isList (x:=u) (by simpa using hu) fun h' st' sb=>?_;have I1:Inv X pins σ H { s with heap:=h' }:=I.turned (t':=s.toks) (fun b o hb e=>(sb.2 b hb).trans e) f0 f1 f3 f4 f5;obtain⟨o,e,c,d⟩:=id st';exact⟨u,rfl,Mh (s:={ s with heap:=h' }) e c d (by decide) ⟨x,H,I1,ru,⟨rfl,fun ys hy=>by rw[I.list_inj hy hq];exact hx⟩,st',fun b hb=>(hf b hb).1⟩⟩
 done:=by
  intro X hP hw hK hc i pins s σ H E I hf st hg;subst hP hw hK;obtain⟨xs,hq,hx⟩:=hg;obtain⟨its,rv,p,hz⟩:=I.list hq;obtain⟨f0,f1,f2,f3,f4,f5⟩:=hf it (by simp);have hl:=rv.length;exact wpAny_pyNext_list_end (I.ok.hd hc) st p.isList (by simp;lia) fun h' eb=>⟨rfl,I.turned (t':=s.toks) (fun b o hb e=>eb b o hb e) f0 f1 f3 f4 f5⟩
 self:=fun _ _ _ _ _ st h=>wpAny_pyIter_listiter st h
theorem Fn {P:Program}{w:World}{K:Frag}{tg:Expr}(a it:Addr):Ja P w K tg (Itt K a) [it] it (fun i h=>h.IsTupleIter it a i) where
 mem:=by simp
 obj:=fun i h st b hb=>by
  have e:b=it:=by simpa using hb
  subst e;obtain⟨o,e,c,d⟩:=st;exact⟨o,e,fun v z=>by rw[d] at z;cases z⟩
 keep:=fun i h h' st k=>st.at fun o e=>k it (by simp) o e
 item:=by
  intro X hP hw hK hc i pins s σ H E I hf st hg;subst hP hw hK;obtain⟨xs,x,hq,hx⟩:=hg;obtain⟨its,rv,p,hz⟩:=I.tuple hq;obtain⟨u,hu,ru⟩:=rv.get hx;obtain⟨f0,f1,f2,f3,f4,f5⟩:=hf it (by simp);refine wpAny_pyNext_tuple_item st (show s.heap.IsTuple a its.toArray from p) (x:=u) (by simpa using hu) fun h' st' sb=>?_;have I1:Inv X pins σ H { s with heap:=h' }:=I.turned (t':=s.toks) (fun b o hb e=>(sb.2 b hb).trans e) f0 f1 f3 f4 f5;obtain⟨o,e,c,d⟩:=id st';exact⟨u,rfl,Mh (s:={ s with heap:=h' }) e c d (by decide) ⟨x,H,I1,ru,⟨rfl,fun ys hy=>by rw[I.tuple_inj hy hq];exact hx⟩,st',fun b hb=>(hf b hb).1⟩⟩
 done:=by
  intro X hP hw hK hc i pins s σ H E I hf st hg;subst hP hw hK;obtain⟨xs,hq,hx⟩:=hg;obtain⟨its,rv,p,hz⟩:=I.tuple hq;obtain⟨f0,f1,f2,f3,f4,f5⟩:=hf it (by simp);have hl:=rv.length;exact wpAny_pyNext_tuple_end (I.ok.hd hc) st (show s.heap.IsTuple a its.toArray from p) (by simp;lia) fun h' eb=>⟨rfl,I.turned (t':=s.toks) (fun b o hb e=>eb b o hb e) f0 f1 f3 f4 f5⟩
 self:=fun _ _ _ _ _ st h=>wpAny_pyIter_tupleiter st h
theorem Fm {P:Program}{w:World}{K:Frag}{tg:Expr}(it:Addr)(lo:Int)(n:Nat):Ja P w K tg (Itr lo n) [it] it (fun i h=>IsRangeIter h it (lo+(i:Nat)*1) ((n:Int) - (i:Nat)) 1) where
 mem:=by simp
 obj:=fun i h st b hb=>by
  have e:b=it:=by simpa using hb
  subst e;exact⟨_,st,fun v z=>by
   have z':Data.fields _=Data.cell v:=z
   cases z'⟩
 keep:=fun i h h' st k=>k it (by simp) _ st
 item:=by
  intro X hP hw hK hc i pins s σ H E I hf st hg;subst hP hw hK;obtain⟨f0,f1,f2,f3,f4,f5⟩:=hf it (by simp);have W:=Walks.range (prog:=X.prog) (w:=X.w) (I.ok.hd hc) it lo 1 n;refine W.item i s _ _ hg st fun v h' tk hv st' kk=>?_;obtain⟨t,rfl⟩:=hv;have I1:Inv X pins σ H { s with heap:=h',toks:=tk }:=I.turned (fun b o hb e=>kk b o (by simpa using hb) e) f0 f1 f3 f4 f5;refine⟨_,rfl,Mh (s:={ s with heap:=h',toks:=tk }) (n:="range_iterator") st' rfl rfl (by decide) ⟨.int (lo+i),H,I1,⟨t,?_⟩,⟨rfl,rfl⟩,st',fun b hb=>(hf b hb).1⟩⟩;rw[Int.mul_one]
 done:=by
  intro X hP hw hK hc i pins s σ H E I hf st hg;subst hP hw hK;obtain⟨f0,f1,f2,f3,f4,f5⟩:=hf it (by simp);exact wpAny_pyNext_range_end (I.ok.hd hc) st (by have:n<=i:=hg;lia) fun h' eb=>⟨rfl,I.turned (t':=s.toks) (fun b o hb e=>eb b o hb e) f0 f1 f3 f4 f5⟩
 self:=fun _ _ _ _ _ st h=>wpAny_pyIter_rangeiter st h
section
variable {X:Cx} {tg:Expr}
def qb6 (K:Frag)(tl:TE):TI:=fun σ H R=>tl σ H fun x H1=>∃a,x=.ref a/\(∃xs,SqL K H1 a xs)/\R (Itl K a) H1
def qg2 (K:Frag)(tl:TE):TI:=fun σ H R=>tl σ H fun x H1=>∃a,x=.ref a/\(∃xs,SqT K H1 a xs)/\R (Itt K a) H1
theorem dM {l:Expr}{tl:TE}(hl:PE X l tl):PI X tg l (qb6 X.K tl):=by
 intro pins s σ H R I h;refine thn (hl pins s σ H _ I h) fun v s1 ⟨x,H1,I1,r1,q1⟩=>?_;obtain⟨a,e,⟨xs,hq⟩,q⟩:=q1;subst e
 cases r1
 obtain⟨its,rv,p,hz⟩:=I1.list hq;refine wpAny_pyIter_list p.isList ?_;refine⟨s1.heap.objs.size,[s1.heap.objs.size],_,_,H1,rfl,I1.kept (t':=s1.toks) fun b o e=>Heap.get?_push_of_some _ e,Iw a _,⟨_,Heap.get?_push_size _ rfl,rfl,rfl⟩,fun b hb=>?_,q⟩;have e:b=s1.heap.objs.size:=by simpa using hb
 subst e;exact I1.fpOk (Nat.le_refl _) (I1.hok.fresh (Nat.le_refl _))
theorem Ya {l:Expr}{tl:TE}(hl:PE X l tl):PI X tg l (qg2 X.K tl):=by
 intro pins s σ H R I h;refine thn (hl pins s σ H _ I h) fun v s1 ⟨x,H1,I1,r1,q1⟩=>?_;obtain⟨a,e,⟨xs,hq⟩,q⟩:=q1;subst e
 cases r1
 obtain⟨its,rv,p,hz⟩:=I1.tuple hq;refine wpAny_pyIter_tuple (show s1.heap.IsTuple a its.toArray from p) ?_;refine⟨s1.heap.objs.size,[s1.heap.objs.size],_,_,H1,rfl,I1.kept (t':=s1.toks) fun b o e=>Heap.get?_push_of_some _ e,Fn a _,⟨_,Heap.get?_push_size _ rfl,rfl,rfl⟩,fun b hb=>?_,q⟩;have e:b=s1.heap.objs.size:=by simpa using hb
 subst e;exact I1.fpOk (Nat.le_refl _) (I1.hok.fresh (Nat.le_refl _))
theorem Dx {pins:List (Addr × Obj)}{σ:St}{H:Hp}{s:Shared}{R:It->Hp->Prop}{E:Value->Shared->Prop}{lo hi:Int}{t u v:Tok}{tk:Nat}(I:Inv X pins σ H s)(h1:-(2 ^ 62)<=lo)(h2:lo < 2 ^ 62)(h3:-(2 ^ 62)<=hi)(h4:hi < 2 ^ 62)(q:R (Itr lo (hi - lo).toNat) H):wpAny (model X.prog X.w) X.A (pyIter (.ref s.heap.objs.size)) (PIE X pins σ tg R) E { s with heap:=s.heap.push { cls:=.type "range",data:=.fields #[.int lo t,.int hi u,.int 1 v] },toks:=tk }:=by
 refine wpAny_pyIter_range (IsRange.new ..) (small_one h1 h2 h3 h4) ?_;have I1:Inv X pins σ H { s with heap:=s.heap.push { cls:=.type "range",data:=.fields #[.int lo t,.int hi u,.int 1 v] },toks:=tk }:=I.kept fun b o e=>Heap.get?_push_of_some _ e;refine⟨(s.heap.push { cls:=.type "range",data:=.fields #[.int lo t,.int hi u,.int 1 v] }).objs.size,[(s.heap.push { cls:=.type "range",data:=.fields #[.int lo t,.int hi u,.int 1 v] }).objs.size],_,_,H,rfl,
  I1.kept (t':=tk) fun b o e=>Heap.get?_push_of_some _ e,Fm _ lo (hi - lo).toNat,?_,fun b hb=>?_,q⟩
 ·have e1:lo+((0:Nat):Int)*1=lo:=by simp
  have e2:(((hi - lo).toNat:Nat):Int) - ((0:Nat):Int)=Builtin.Range.rangeSize lo hi 1:=by rw[rangeSize_one];split<;>lia
  show IsRangeIter _ _ (lo+((0:Nat):Int)*1) ((((hi - lo).toNat:Nat):Int) - ((0:Nat):Int)) 1;rw[e1,e2];exact Heap.get?_push_size _ rfl
 ·have e:b=(s.heap.push { cls:=.type "range",data:=.fields #[.int lo t,.int hi u,.int 1 v] }).objs.size:=by simpa using hb
  subst e;exact I1.fpOk (Nat.le_refl _) (I1.hok.fresh (Nat.le_refl _))
def qb2 (ta:TA):TI:=fun σ H R=>ta σ H fun vs H1=>∃j:Int,vs=[.int j]/\-(2 ^ 62)<=j/\j < 2 ^ 62/\R (Itr 0 j.toNat) H1
def qa1 (ta:TA):TI:=fun σ H R=>ta σ H fun vs H1=>∃i j:Int,vs=[.int i,.int j]/\(-(2 ^ 62)<=i/\i < 2 ^ 62/\-(2 ^ 62)<=j/\j < 2 ^ 62)/\R (Itr i (j - i).toNat) H1
theorem mC {a:Expr}{ta:TA}{p pos:Pos}(hg:Gl X "range")(hm:X.mg "range"=none)(ha:PA X [a] ta)(hs:starEach [a] X.env=[(false,eval a X.env)]:=by rfl):PI X tg (.Call (.Name "range" p) [a] [] pos) (qb2 ta):=by
 intro pins s σ H R I h;refine Call_ (jY I hg hm boot_range (PyProof.Rows.callWith_type1 (thn (ha pos pins s σ H _ I h) fun us s1 ⟨vs,H1,I1,r1,q1⟩=>?_) hs rfl));obtain⟨j,e,q1,q2,q⟩:=q1;subst e
 cases r1 with
 |cons r rr=>
  cases rr
  obtain⟨t,rfl⟩:=r;exact call_range_1 (Dx I1 (by lia) (by lia) q1 q2 (by simpa using q))
theorem yQ {a b:Expr}{ta:TA}{p pos:Pos}(hg:Gl X "range")(hm:X.mg "range"=none)(ha:PA X [a,b] ta)(hs:starEach [a,b] X.env=[(false,eval a X.env),(false,eval b X.env)]:=by rfl)(hs2:starEach [b] X.env=[(false,eval b X.env)]:=by rfl) :
  PI X tg (.Call (.Name "range" p) [a,b] [] pos) (qa1 ta):=by
 intro pins s σ H R I h;refine Call_ (jY I hg hm boot_range (PyProof.Rows.callWith_type1 (thn (ha pos pins s σ H _ I h) fun us s1 ⟨vs,H1,I1,r1,q1⟩=>?_) (by rw[hs,hs2]) (by rw[hs2];rfl)));obtain⟨i,j,e,⟨q1,q2,q3,q4⟩,q⟩:=q1;subst e
 cases r1 with
 |cons r rr=>
  cases rr with
  |cons r' rr=>
   cases rr
   obtain⟨t,rfl⟩:=r;obtain⟨t',rfl⟩:=r';exact call_range_2 (Dx I1 q1 q2 q3 q4 q)
def qd6 (wi:TI)(g:TG)(tb:TS):TS:=fun D σ H=>wi σ H fun J H1=>∃W:Nat->Nat->St->Hp->Prop,(∃m,W 0 m σ H1)/\∀i m σ H,W i m σ H->
 (J.stop i H/\D.nx σ H)\/(J.go i H/\∃N:St->Hp->Prop,(∀σ' H',N σ' H'->∃m',m' < m/\W (i+1) m' σ' H')/\∀x H',J.yld i H x H'->g x σ H' fun σ2 H2=>tb { D with nx:=N,ct:=N,bk:=D.nx } σ2 H2)
def vZ (fp:List Addr)(h:Heap):List (Addr × Obj):=fp.filterMap fun b=>(h.get? b).map fun o=>(b,o)
theorem jV {fp:List Addr}{h:Heap}{b:Addr}{o:Obj}(hb:b∈fp)(e:h.get? b=some o):(b,o)∈vZ fp h:=mem_filterMap.mpr ⟨b,hb,by rw[e];rfl⟩
theorem Ku {fp:List Addr}{h:Heap}{p:Addr × Obj}(hp:p∈vZ fp h):p.1∈fp/\h.get? p.1=some p.2:=by
 obtain⟨b,hb,e⟩:=mem_filterMap.mp hp
 cases q:h.get? b with
 |none=>rw[q] at e;cases e
 |some o=>
  rw[q] at e;have e':(b,o)=p:=Option.some.inj e;subst e';exact⟨hb,q⟩
theorem Inv.pinned {pins:List (Addr × Obj)}{σ:St}{H:Hp}{s:Shared}{fp:List Addr}(I:Inv X pins σ H s)(hf:∀b∈fp,mU X pins H b)(ho:∀b∈fp,∃o,s.heap.get? b=some o/\∀v,o.data≠.cell v):Inv X (pins++vZ fp s.heap) σ H s:=
 I.pins_of fun p hp=>(mem_append.mp hp).elim (fun z=>I.pin p (mem_append_right _ z)) fun z=>by
  obtain⟨hb,e⟩:=Ku z;obtain⟨f0,f1,f2,_⟩:=hf p.1 hb;obtain⟨o,e',d⟩:=ho p.1 hb;rw[e] at e';cases e';exact⟨e,f0,f1,f2,d⟩
theorem Inv.unpinned {pins pl:List (Addr × Obj)}{σ:St}{H:Hp}{s:Shared}(I:Inv X (pins++pl) σ H s):Inv X pins σ H s:=I.pins_of fun p hp=>I.pin p (mem_append_right _ (mem_append_left _ hp))
theorem fU {iter:Expr}{body:List Stmt}{wi:TI}{g:TG}{tb:TS}{pos:Pos}(hp:PassesOwn (model X.prog X.w) X.A X.env X.xe)(hc:X.calm=true)(hi:PI X tg iter wi)(hg:PG X tg g)(hb:PSs X body tb)(hs:∀x,foldedSetIterable iter X.env x=pure x:=by intro _;rfl):PS X (.For tg iter body [] pos) (qd6 wi g tb):=by
 intro pins s σ H D I h;refine wpAny_For (thn (hi pins s σ H _ I h) fun v s1 h1=>thn h1 fun itv s2 h2=>?_) hs;obtain⟨it,fp,tn,J,H2,e,I2,T,st2,f2,W,⟨m0,w0⟩,turn⟩:=h2;subst e;have stat:∀{H':Hp},(∀b∈fp,H' b=none)->∀b∈fp,mU X pins H' b:=fun hn b hb=>⟨hn b hb,(f2 b hb).2⟩
 refine codeAny_forLoop_any (fun n s'=>∃i σ' H',Inv X pins σ' H' s'/\tn i s'.heap/\(∀b∈fp,H' b=none)/\W i n σ' H') ?_ m0 ⟨0,σ,H2,I2,st2,fun b hb=>(f2 b hb).1,w0⟩;rintro n s3 ⟨i,σ3,H3,I3,st3,fr3,w3⟩;rcases turn i n σ3 H3 w3 with ⟨stop,qn⟩ | ⟨go,N,hN,step⟩
 ·refine wpAny_passesOwn hp (thn (T.done X rfl rfl rfl hc i pins s3 σ3 H3 X.xe I3 (stat fr3) st3 stop) fun r s4 ⟨hr,I4⟩=>?_);subst hr;exact wpAny_execs_nil ⟨σ3,H3,I4,qn⟩
 ·refine wpAny_passesOwn hp (thn (T.item X rfl rfl rfl hc i pins s3 σ3 H3 X.xe I3 (stat fr3) st3 go) fun r s4 ⟨u,hr,h4⟩=>?_);subst hr;refine wpAny_passesOwn hp (thn h4 fun _ s5 ⟨x,H5,I5,r5,y5,st5,fr5⟩=>?_);have I5':=I5.pinned (stat fr5) (T.obj _ _ st5);refine wpAny_passesOwn hp (thn (hg _ s5 σ3 H5 x u _ I5' r5 (step x H5 y5)) fun _ s6 ⟨σ6,H6,I6,q6⟩=>?_);refine wpAny_passesOwn hp (thn (hb _ s6 σ6 H6 _ I6 q6) fun f s7 q7=>?_);have again:∀{σ7:St} {H7:Hp},Inv X (pins++vZ fp s5.heap) σ7 H7 s7->N σ7 H7->∃m,m < n/\∃i σ' H',Inv X pins σ' H' s7/\tn i s7.heap/\(∀b∈fp,H' b=none)/\W i m σ' H':=fun {σ7 H7} I7 n7=>by
   obtain⟨m',hm,w7⟩:=hN σ7 H7 n7;refine⟨m',hm,i+1,σ7,H7,I7.unpinned,T.keep _ _ _ st5 fun b hb o e=>(I7.pin (b,o) (mem_append_right _ (mem_append_right _ (jV hb e)))).1,fun b hb=>?_,w7⟩;obtain⟨o,e,d⟩:=T.obj _ _ st5 b hb;exact(I7.pin (b,o) (mem_append_right _ (mem_append_right _ (jV hb e)))).2.1
  cases f with
  |next=>obtain⟨σ7,H7,I7,n7⟩:=q7;exact again I7 n7
  |cont=>obtain⟨σ7,H7,I7,n7⟩:=q7;exact again I7 n7
  |brk=>obtain⟨σ7,H7,I7,q7⟩:=q7;exact⟨σ7,H7,I7.unpinned,q7⟩
  |ret v=>obtain⟨x7,σ7,H7,I7,r7,q7⟩:=q7;exact⟨x7,σ7,H7,I7.unpinned,r7,q7⟩
end
theorem gH {K:Frag}{a:Addr}{xs:List V}{g:TG}{tb:TS}{D:kY}{σ:St}{H:Hp}(Pv:Nat->St->Hp->Prop)(h0:Pv 0 σ H)(hl:∀i σ H,i<=xs.length->Pv i σ H->SqL K H a xs)(hs:∀i x σ H,xs[i]?=some x->Pv i σ H->g x σ H fun σ2 H2=>tb { D with nx:=Pv (i+1),ct:=Pv (i+1),bk:=D.nx } σ2 H2)(hd:∀σ H,Pv xs.length σ H->D.nx σ H) :
  ∃W:Nat->Nat->St->Hp->Prop,(∃m,W 0 m σ H)/\∀i m σ H,W i m σ H->
   ((Itl K a).stop i H/\D.nx σ H)\/((Itl K a).go i H/\∃N:St->Hp->Prop,(∀σ' H',N σ' H'->∃m',m' < m/\W (i+1) m' σ' H')/\∀x H',(Itl K a).yld i H x H'->g x σ H' fun σ2 H2=>tb { D with nx:=N,ct:=N,bk:=D.nx } σ2 H2):=by
 refine⟨fun i m σ H=>m=xs.length - i/\i<=xs.length/\Pv i σ H,⟨xs.length,by simp,Nat.zero_le _,h0⟩,?_⟩;rintro i m σ H ⟨rfl,hi,p⟩;have q:=hl i σ H hi p
 by_cases hlt:i < xs.length
 ·refine .inr ⟨⟨xs,xs[i],q,by simp[hlt]⟩,Pv (i+1),fun σ' H' p'=>⟨xs.length - (i+1),by lia,rfl,hlt,p'⟩,fun x H' y=>?_⟩;obtain⟨e,y⟩:=y;subst e;exact hs i x σ _ (y xs q) p
 ·have e:i=xs.length:=by lia
  subst e;exact .inl ⟨⟨xs,q,Nat.le_refl _⟩,hd σ H p⟩
theorem Sg {K:Frag}{a:Addr}{xs:List V}{g:TG}{tb:TS}{D:kY}{σ:St}{H:Hp}(Pv:Nat->St->Hp->Prop)(h0:Pv 0 σ H)(hl:∀i σ H,i<=xs.length->Pv i σ H->SqT K H a xs)(hs:∀i x σ H,xs[i]?=some x->Pv i σ H->g x σ H fun σ2 H2=>tb { D with nx:=Pv (i+1),ct:=Pv (i+1),bk:=D.nx } σ2 H2)(hd:∀σ H,Pv xs.length σ H->D.nx σ H) :
  ∃W:Nat->Nat->St->Hp->Prop,(∃m,W 0 m σ H)/\∀i m σ H,W i m σ H->
   ((Itt K a).stop i H/\D.nx σ H)\/((Itt K a).go i H/\∃N:St->Hp->Prop,(∀σ' H',N σ' H'->∃m',m' < m/\W (i+1) m' σ' H')/\∀x H',(Itt K a).yld i H x H'->g x σ H' fun σ2 H2=>tb { D with nx:=N,ct:=N,bk:=D.nx } σ2 H2):=by
 refine⟨fun i m σ H=>m=xs.length - i/\i<=xs.length/\Pv i σ H,⟨xs.length,by simp,Nat.zero_le _,h0⟩,?_⟩;rintro i m σ H ⟨rfl,hi,p⟩;have q:=hl i σ H hi p
 by_cases hlt:i < xs.length
 ·refine .inr ⟨⟨xs,xs[i],q,by simp[hlt]⟩,Pv (i+1),fun σ' H' p'=>⟨xs.length - (i+1),by lia,rfl,hlt,p'⟩,fun x H' y=>?_⟩;obtain⟨e,y⟩:=y;subst e;exact hs i x σ _ (y xs q) p
 ·have e:i=xs.length:=by lia
  subst e;exact .inl ⟨⟨xs,q,Nat.le_refl _⟩,hd σ H p⟩
theorem jR {lo:Int}{n:Nat}{g:TG}{tb:TS}{D:kY}{σ:St}{H:Hp}(Pv:Nat->St->Hp->Prop)(h0:Pv 0 σ H)(hs:∀i σ H,i < n->Pv i σ H->g (.int (lo+i)) σ H fun σ2 H2=>tb { D with nx:=Pv (i+1),ct:=Pv (i+1),bk:=D.nx } σ2 H2)(hd:∀σ H,Pv n σ H->D.nx σ H) :
  ∃W:Nat->Nat->St->Hp->Prop,(∃m,W 0 m σ H)/\∀i m σ H,W i m σ H->
   ((Itr lo n).stop i H/\D.nx σ H)\/((Itr lo n).go i H/\∃N:St->Hp->Prop,(∀σ' H',N σ' H'->∃m',m' < m/\W (i+1) m' σ' H')/\∀x H',(Itr lo n).yld i H x H'->g x σ H' fun σ2 H2=>tb { D with nx:=N,ct:=N,bk:=D.nx } σ2 H2):=by
 refine⟨fun i m σ H=>m=n - i/\i<=n/\Pv i σ H,⟨n,by simp,Nat.zero_le _,h0⟩,?_⟩;rintro i m σ H ⟨rfl,hi,p⟩
 by_cases hlt:i < n
 ·refine .inr ⟨hlt,Pv (i+1),fun σ' H' p'=>⟨n - (i+1),by lia,rfl,hlt,p'⟩,fun x H' y=>?_⟩;obtain⟨e,y⟩:=y;subst e y;exact hs i σ _ hlt p
 ·have e:i=n:=by lia
  subst e;exact .inl ⟨Nat.le_refl _,hd σ H p⟩
theorem uO {c:TT}{tb:TS}{D:kY}{σ:St}{H:Hp}(Pv:St->Hp->Prop)(μ:St->Hp->Nat)(h0:Pv σ H)(hs:∀σ H,Pv σ H->c σ H fun b H1=>if b=true then tb { D with nx:=fun σ' H'=>Pv σ' H'/\μ σ' H' < μ σ H,ct:=fun σ' H'=>Pv σ' H'/\μ σ' H' < μ σ H,bk:=D.nx } σ H1 else D.nx σ H1)(mono:∀σ H Q Q',(∀b H1,Q b H1->Q' b H1)->c σ H Q->c σ H Q'):Pi c tb D σ H:=by
 refine⟨fun m σ H=>m=μ σ H/\Pv σ H,⟨_,rfl,h0⟩,?_⟩;rintro m σ H ⟨rfl,p⟩;refine mono σ H _ _ (fun b H1 q=>?_) (hs σ H p)
 cases b with
 |true=>exact⟨_,fun σ' H' ⟨p',l⟩=>⟨_,l,rfl,p'⟩,q⟩
 |false=>exact q
abbrev R2:=V->V->Hp->VK->Prop
def OpR (X:Cx)(f:Value->Value->Sem Value)(r:R2):Prop:=
 ∀(pins:List (Addr × Obj)) (s:Shared) (σ:St) (H:Hp) (x y:V) (v u:Value) (Q:VK),Inv X pins σ H s->cH x v->cH y u->r x y H Q->
  wpAny (model X.prog X.w) X.A (f v u) (EP X pins σ Q) X.xe s
def UnR (X:Cx)(f:Value->Sem Value)(r:V->Hp->VK->Prop):Prop:=
 ∀(pins:List (Addr × Obj)) (s:Shared) (σ:St) (H:Hp) (x:V) (v:Value) (Q:VK),Inv X pins σ H s->cH x v->r x H Q->
  wpAny (model X.prog X.w) X.A (f v) (EP X pins σ Q) X.xe s
def vS (X:Cx)(f:Value)(r:List V->Hp->VK->Prop):Prop:=
 ∀(pins:List (Addr × Obj)) (s:Shared) (σ:St) (H:Hp) (xs:List V) (us:List Value) (Q:VK),Inv X pins σ H s->cB xs us->r xs H Q->
  wpAny (model X.prog X.w) X.A (call f us) (EP X pins σ Q) X.xe s
def tOp (r:R2)(ta tb:TE):TE:=fun σ H Q=>ta σ H fun x H1=>tb σ H1 fun y H2=>r x y H2 Q
def tUn (r:V->Hp->VK->Prop)(ta:TE):TE:=fun σ H Q=>ta σ H fun x H1=>r x H1 Q
def rI (C:Int->Int->Prop)(g:Int->Int->V):R2:=fun x y H Q=>∃i j,x=.int i/\y=.int j/\C i j/\Q (g i j) H
def rI0 (g:Int->Int->V):R2:=fun x y H Q=>∃i j,x=.int i/\y=.int j/\Q (g i j) H
def rU (g:Int->V):V->Hp->VK->Prop:=fun x H Q=>∃i,x=.int i/\Q (g i) H
section
variable {X:Cx} {a b c:Expr} {ta tb tc:TE} {pos:Pos}
theorem Yk (ha:PE X a ta)(hb:PE X b tb){pins:List (Addr × Obj)}{s:Shared}{σ:St}{H:Hp}{R:V->V->Hp->Prop}(I:Inv X pins σ H s)(h:ta σ H fun x H1=>tb σ H1 fun y H2=>R x y H2){Q:Value->Shared->Prop}{f:Value->Value->Sem Value}(hf:∀v u s2 x y H2,Inv X pins σ H2 s2->cH x v->cH y u->R x y H2->wpAny (model X.prog X.w) X.A (f v u) Q X.xe s2) :
  wpAny (model X.prog X.w) X.A (eval a X.env) (fun v s₁=>wpAny (model X.prog X.w) X.A (eval b X.env) (fun u s₂=>wpAny (model X.prog X.w) X.A (f v u) Q X.xe s₂) X.xe s₁) X.xe s:=by
 refine thn (ha pins s σ H _ I h) fun v s1 ⟨x,H1,I1,r1,q1⟩=>?_;refine thn (hb pins s1 σ H1 _ I1 q1) fun u s2 ⟨y,H2,I2,r2,q2⟩=>?_;exact hf v u s2 x y H2 I2 r1 r2 q2
theorem aZ {op:Operator}{r:R2}(ho:OpR X (binaryOp op) r)(ha:PE X a ta)(hb:PE X b tb):PE X (.BinOp a op b pos) (tOp r ta tb):=by
 intro pins s σ H Q I h;exact wpAny_BinOp (Yk ha hb I h fun v u s2 x y H2 I2 rx ry q=>ho pins s2 σ H2 x y v u Q I2 rx ry q)
theorem Dh {op:UnaryOp}{r:V->Hp->VK->Prop}(ho:UnR X (unaryOp op) r)(ha:PE X a ta):PE X (.UnaryOp op a pos) (tUn r ta):=by
 intro pins s σ H Q I h;exact UnaryOp_ (thn (ha pins s σ H _ I h) fun v s1 ⟨x,H1,I1,r1,q1⟩=>ho pins s1 σ H1 x v Q I1 r1 q1)
theorem opI {f:Value->Value->Sem Value}{C:Int->Int->Prop}{g:Int->Int->Int}(rule:∀(i j:Int) (t u:Tok) (s:Shared) (Q:Value->Shared->Prop) (E:Value->Shared->Prop),C i j->Q (.int (g i j) s.toks) { s with toks:=s.toks+1 }->wpAny (model X.prog X.w) X.A (f (.int i t) (.int j u)) Q E s) :
  OpR X f (rI C fun i j=>.int (g i j)):=by
 intro pins s σ H x y v u Q I rx ry h;obtain⟨i,j,rfl,rfl,hc,q⟩:=h;obtain⟨t,rfl⟩:=rx;obtain⟨t',rfl⟩:=ry;exact rule i j t t' s _ _ hc ⟨.int (g i j),H,I.tok _,⟨_,rfl⟩,q⟩
theorem Zf {f:Value->Value->Sem Value}{g:Int->Int->Int}(rule:∀(i j:Int) (t u:Tok) (s:Shared) (Q:Value->Shared->Prop) (E:Value->Shared->Prop),Q (.int (g i j) s.toks) { s with toks:=s.toks+1 }->wpAny (model X.prog X.w) X.A (f (.int i t) (.int j u)) Q E s) :
  OpR X f (rI0 fun i j=>.int (g i j)):=by
 intro pins s σ H x y v u Q I rx ry h;obtain⟨i,j,rfl,rfl,q⟩:=h;obtain⟨t,rfl⟩:=rx;obtain⟨t',rfl⟩:=ry;exact rule i j t t' s _ _ ⟨.int (g i j),H,I.tok _,⟨_,rfl⟩,q⟩
theorem Vt {f:Value->Value->Sem Value}{g:Int->Int->Bool}(rule:∀(i j:Int) (t u:Tok) (s:Shared) (Q:Value->Shared->Prop) (E:Value->Shared->Prop),Q (.bool (g i j)) s->wpAny (model X.prog X.w) X.A (f (.int i t) (.int j u)) Q E s) :
  OpR X f (rI0 fun i j=>.bl (g i j)):=by
 intro pins s σ H x y v u Q I rx ry h;obtain⟨i,j,rfl,rfl,q⟩:=h;obtain⟨t,rfl⟩:=rx;obtain⟨t',rfl⟩:=ry;exact rule i j t t' s _ _ ⟨.bl (g i j),H,I,rfl,q⟩
def qf9 (i j:Int):Prop:=0 < j/\j < 1073741824
def qg9 (i j:Int):Prop:=0<=j/\j<=1000000/\i.natAbs < 2 ^ 64
def Yw (i j:Int):Prop:=(-(2 ^ 64) < i/\i < 2 ^ 64)\/(-(2 ^ 64) < j/\j < 2 ^ 64)
theorem Yw.ok {i j:Int}(h:Yw i j):IntMulOk i j:=by
 rcases h with ⟨h1,h2⟩ | ⟨h1,h2⟩
 ·exact .of_left (intBits_le_64 h1 h2)
 ·exact .of_right (intBits_le_64 h1 h2)
theorem dR:OpR X (binaryOp .Add) (rI0 fun i j=>.int (i+j)):=Zf fun _ _ _ _ _ _ _ q=>add_int q
theorem iF:OpR X (binaryOp .Sub) (rI0 fun i j=>.int (i - j)):=Zf fun _ _ _ _ _ _ _ q=>sub_int q
theorem uQ:OpR X (binaryOp .Mult) (rI Yw fun i j=>.int (i*j)):=opI fun _ _ _ _ _ _ _ hc q=>mul_int q hc.ok
theorem oP:OpR X (binaryOp .FloorDiv) (rI qf9 fun i j=>.int (i / j)):=opI fun i j _ _ _ _ _ hc q=>by
 have h1:(0:Int) < j:=hc.1;have h2:j < 1073741824:=hc.2;exact floordiv_int (by lia) (by rw[Int.fdiv_eq_ediv_of_nonneg i (by lia)];exact q) (.inl (PyProof.noPylong_small (by lia)))
theorem kQ:OpR X (binaryOp .Mod) (rI (fun _ j=>0 < j) fun i j=>.int (i % j)):=opI fun i j _ _ _ _ _ hc q=>by
 have h1:(0:Int) < j:=hc;exact mod_int' (by lia) (by rw[Int.fmod_eq_emod_of_nonneg i (by lia)];exact q)
theorem kG:OpR X (binaryOp .Mod) (rI (fun _ j=>j≠0) fun i j=>.int (i.fmod j)):=opI fun _ _ _ _ _ _ _ hc q=>mod_int' hc q
theorem lC:OpR X (binaryOp .Pow) (rI qg9 fun i j=>.int (i ^ j.toNat)):=opI fun _ _ _ _ _ _ _ hc q=>pow_int_small hc.1 hc.2.1 hc.2.2 q
theorem unI {f:Value->Sem Value}{g:Int->Int}(rule:∀(i:Int) (t:Tok) (s:Shared) (Q:Value->Shared->Prop) (E:Value->Shared->Prop),Q (.int (g i) s.toks) { s with toks:=s.toks+1 }->wpAny (model X.prog X.w) X.A (f (.int i t)) Q E s) :
  UnR X f (rU fun i=>.int (g i)):=by
 intro pins s σ H x v Q I rx h;obtain⟨i,rfl,q⟩:=h;obtain⟨t,rfl⟩:=rx;exact rule i t s _ _ ⟨.int (g i),H,I.tok _,⟨_,rfl⟩,q⟩
theorem uZ:UnR X (unaryOp .USub) (rU fun i=>.int (-i)):=unI fun _ _ _ _ _ q=>neg_int q
end
def Zb:V->V->Bool
 | .non,.non=>true | .non,.int _=>true | .int _,.non=>true | .non,.bl _=>true | .bl _,.non=>true | .non,.str _=>true | .str _,.non=>true
 | .int _,.int _=>true | .bl _,.bl _=>true | .str _,.str _=>true | .byt _,.byt _=>true
 | .int _,.str _=>true | .str _,.int _=>true | .bl _,.str _=>true | .str _,.bl _=>true
 |_,_=>false
def rEq:R2:=fun x y H Q=>Zb x y=true/\Q (.bl (decide (x=y))) H
def rNe:R2:=fun x y H Q=>Zb x y=true/\Q (.bl (!decide (x=y))) H
theorem Hk {i j:Int}:decide (V.int i=V.int j)=(i == j):=by
 rw[Bool.eq_iff_iff];simp
theorem Ms {i j:Bool}:decide (V.bl i=V.bl j)=(i == j):=by
 rw[Bool.eq_iff_iff];simp
theorem Ik {i j:Str}:decide (V.str i=V.str j)=(i == j):=by
 rw[Bool.eq_iff_iff];simp
theorem Hh {i j:Array UInt8}:decide (V.byt i=V.byt j)=(i.toList == j.toList):=by
 rw[Bool.eq_iff_iff]
 cases i
 cases j
 simp
section
variable {X:Cx} {a b c:Expr} {ta tb tc:TE} {pos:Pos}
theorem cW {pins:List (Addr × Obj)}{σ:St}{H:Hp}{s:Shared}{Q:VK}{k k':Bool}(I:Inv X pins σ H s)(q:Q (.bl k) H)(e:k=k'):EP X pins σ Q (.bool k') s:=by
 subst e;exact⟨.bl k,H,I,rfl,q⟩
theorem eZ:OpR X (compareOp .Eq) rEq:=by
 intro pins s σ H x y v u Q I rx ry h;obtain⟨hs,q⟩:=h
 cases x with
 |non=>
  cases rx
  cases y with
  |non=>cases ry;exact PySem.EqNone.eq_none_none (cW I q (by simp))
  |bl j=>cases ry;exact PySem.EqNone.eq_none_bool (cW I q (by simp))
  |int j=>obtain⟨t',rfl⟩:=ry;exact PySem.EqNone.eq_none_int (cW I q (by simp))
  |str j=>obtain⟨t',rfl⟩:=ry;exact PySem.EqNone.eq_none_str (cW I q (by simp))
  |_=>exact absurd (show false=true from hs) Bool.false_ne_true
 |bl i=>
  cases rx
  cases y with
  |non=>cases ry;exact PySem.EqNone.eq_bool_none (cW I q (by simp))
  |bl j=>cases ry;exact eq_bool (cW I q Ms)
  |str j=>obtain⟨t',rfl⟩:=ry;exact PySem.EqMixed.eq_bool_str (cW I q (by simp))
  |_=>exact absurd (show false=true from hs) Bool.false_ne_true
 |int i=>
  obtain⟨t,rfl⟩:=rx
  cases y with
  |non=>cases ry;exact PySem.EqNone.eq_int_none (cW I q (by simp))
  |int j=>obtain⟨t',rfl⟩:=ry;exact eq_int (cW I q Hk)
  |str j=>obtain⟨t',rfl⟩:=ry;exact PySem.EqMixed.eq_int_str (cW I q (by simp))
  |_=>exact absurd (show false=true from hs) Bool.false_ne_true
 |str i=>
  obtain⟨t,rfl⟩:=rx
  cases y with
  |non=>cases ry;exact PySem.EqNone.eq_str_none (cW I q (by simp))
  |bl j=>cases ry;exact PySem.EqMixed.eq_str_bool (cW I q (by simp))
  |int j=>obtain⟨t',rfl⟩:=ry;exact PySem.EqMixed.eq_str_int (cW I q (by simp))
  |str j=>obtain⟨t',rfl⟩:=ry;exact eq_str (cW I q Ik)
  |_=>exact absurd (show false=true from hs) Bool.false_ne_true
 |byt i=>
  obtain⟨t,rfl⟩:=rx
  cases y with
  |byt j=>obtain⟨t',rfl⟩:=ry;exact W.eq_bytes (cW I q Hh)
  |_=>exact absurd (show false=true from hs) Bool.false_ne_true
 |_=>cases y<;>exact absurd (show false=true from hs) Bool.false_ne_true
theorem rG:OpR X (compareOp .NotEq) rNe:=by
 intro pins s σ H x y v u Q I rx ry h;obtain⟨hs,q⟩:=h
 cases x with
 |non=>
  cases rx
  cases y with
  |non=>cases ry;exact PySem.EqNone.ne_none_none (cW I q (by simp))
  |bl j=>cases ry;exact PySem.EqNone.ne_none_bool (cW I q (by simp))
  |int j=>obtain⟨t',rfl⟩:=ry;exact PySem.EqNone.ne_none_int (cW I q (by simp))
  |str j=>obtain⟨t',rfl⟩:=ry;exact PySem.EqNone.ne_none_str (cW I q (by simp))
  |_=>exact absurd (show false=true from hs) Bool.false_ne_true
 |bl i=>
  cases rx
  cases y with
  |non=>cases ry;exact PySem.EqNone.ne_bool_none (cW I q (by simp))
  |bl j=>cases ry;exact ne_bool (cW I q (congrArg not Ms))
  |str j=>obtain⟨t',rfl⟩:=ry;exact PySem.EqMixed.ne_bool_str (cW I q (by simp))
  |_=>exact absurd (show false=true from hs) Bool.false_ne_true
 |int i=>
  obtain⟨t,rfl⟩:=rx
  cases y with
  |non=>cases ry;exact PySem.EqNone.ne_int_none (cW I q (by simp))
  |int j=>obtain⟨t',rfl⟩:=ry;exact ne_int (cW I q (congrArg not Hk))
  |str j=>obtain⟨t',rfl⟩:=ry;exact PySem.EqMixed.ne_int_str (cW I q (by simp))
  |_=>exact absurd (show false=true from hs) Bool.false_ne_true
 |str i=>
  obtain⟨t,rfl⟩:=rx
  cases y with
  |non=>cases ry;exact PySem.EqNone.ne_str_none (cW I q (by simp))
  |bl j=>cases ry;exact PySem.EqMixed.ne_str_bool (cW I q (by simp))
  |int j=>obtain⟨t',rfl⟩:=ry;exact PySem.EqMixed.ne_str_int (cW I q (by simp))
  |str j=>obtain⟨t',rfl⟩:=ry;exact ne_str (cW I q (congrArg not Ik))
  |_=>exact absurd (show false=true from hs) Bool.false_ne_true
 |byt i=>
  obtain⟨t,rfl⟩:=rx
  cases y with
  |byt j=>obtain⟨t',rfl⟩:=ry;exact W.ne_bytes (cW I q (congrArg not Hh))
  |_=>exact absurd (show false=true from hs) Bool.false_ne_true
 |_=>cases y<;>exact absurd (show false=true from hs) Bool.false_ne_true
theorem yG:OpR X (compareOp .Lt) (rI0 fun i j=>.bl (decide (i < j))):=Vt fun _ _ _ _ _ _ _ q=>lt_int q
theorem Id:OpR X (compareOp .Gt) (rI0 fun i j=>.bl (decide (j < i))):=Vt fun _ _ _ _ _ _ _ q=>gt_int q
theorem Nq:OpR X (compareOp .GtE) (rI0 fun i j=>.bl (decide (j<=i))):=Vt fun _ _ _ _ _ _ _ q=>ge_int q
theorem bG (b:Expr){op:CmpOp}(h:op≠.In:=by decide)(h2:op≠.NotIn:=by decide):behindInMarks op b=false:=by
 have e1:(op == CmpOp.In)=false:=by cases op<;>first | rfl | exact absurd rfl h
 have e2:(op == CmpOp.NotIn)=false:=by cases op<;>first | rfl | exact absurd rfl h2
 cases b<;>simp[behindInMarks,e1,e2]
theorem iC {op:CmpOp}{r:R2}(ho:OpR X (compareOp op) r)(ha:PE X a ta)(hb:PE X b tb)(hm:behindInMarks op b=false):PE X (.Compare a [op] [b] pos) (tOp r ta tb):=by
 intro pins s σ H Q I h;exact wpAny_Compare1 (Yk ha hb I h fun v u s2 x y H2 I2 rx ry q=>ho pins s2 σ H2 x y v u Q I2 rx ry q) hm
def qc2 (t:TE):TT:=fun σ H Q=>t σ H fun x H'=>∃k,x=.bl k/\Q k H'
theorem bF {op:CmpOp}{r:R2}(ho:OpR X (compareOp op) r)(ha:PE X a ta)(hb:PE X b tb)(hm:behindInMarks op b=false):PT X (.Compare a [op] [b] pos) (qc2 (tOp r ta tb)):=by
 intro pins s σ H Q I h;refine wpAny_isTrue_Compare1 (thn (ha pins s σ H _ I h) fun v s1 ⟨x,H1,I1,r1,q1⟩=>thn (hb pins s1 σ H1 _ I1 q1) fun u s2 ⟨y,H2,I2,r2,q2⟩=>
  thn (ho pins s2 σ H2 x y v u _ I2 r1 r2 q2) fun c s3 ⟨z,H3,I3,r3,k,e,q3⟩=>?_) hm
 subst e
 cases r3
 exact wpAny_truthy_bool ⟨H3,I3,q3⟩
theorem Bg:(sizeLine:Nat) < 2 ^ 63:=by rw[sizeLine_eq];decide
theorem Ea {x:V}{us:List Value}(r:cB [x] us):∃u,us=[u]/\cH x u:=by
 cases r with
 |cons r1 r2=>cases r2;exact⟨_,rfl,r1⟩
theorem Qj {x y:V}{us:List Value}(r:cB [x,y] us):∃u w',us=[u,w']/\cH x u/\cH y w':=by
 cases r with
 |cons r1 r2=>
  cases r2 with
  |cons r3 r4=>cases r4;exact⟨_,_,rfl,r1,r3⟩
theorem pD:vS X (.builtin "abs") (fun xs H Q=>∃i,xs=[.int i]/\Q (.int (if i < 0 then -i else i)) H):=by
 intro pins s σ H xs us Q I r h;obtain⟨i,rfl,q⟩:=h;obtain⟨u,rfl,t,rfl⟩:=Ea r;exact call_abs_int fun u tk=>⟨.int (if i < 0 then -i else i),H,I.tok _,⟨_,rfl⟩,q⟩
end
structure Ep (h:Heap) (x dx C:Addr) (mA:Str->Option Value):Prop where
 obj:h.get? x=some (W.instObj C dx)
 ns:h.Ns1 dx mA
 ne:dx≠x
theorem Lc {h:Heap}{dx:Addr}{mA:Str->Option Value}(n:h.Ns1 dx mA):∃od,h.get? dx=some od/\∀name,W.lookIn name od=some (mA name):=by
 obtain⟨o,es,ep,ho,hd,hk,_,hm⟩:=n;refine⟨o,ho,fun name=>?_⟩;have e:=hm name;unfold nsFind findBy at e;rw[<- Array.find?_toList] at e;unfold W.lookIn;rw[hd];dsimp only;split
 ·rename_i y q
  rw[q] at e;exact congrArg some e
 ·rename_i q
  rw[q] at e;have a:es.toList.any (·.refKey)=false:=by
   rw[any_eq_false];intro y hy;obtain⟨z,t,hkey⟩:=hk y (Array.mem_toList_iff.mp hy);simp[DictEntry.refKey,hkey]
  have a':¬es.toList.any (·.refKey)=true:=by rw[a];exact Bool.false_ne_true
  rw[if_neg a'];exact congrArg some e
theorem Ep.look {h:Heap}{x dx C:Addr}{mA:Str->Option Value}(I:Ep h x dx C mA):∃od,W.InstAt h x (W.instObj C dx) C (some od)/\∀name,W.lookIn name od=some (mA name):=
 let ⟨od,ho,hl⟩:=Lc I.ns
 ⟨od,⟨I.obj,rfl,rfl,ho⟩,hl⟩
section
variable {prog:Program} {w:World} {A:Around} {E:Value->Shared->Prop} {s:Shared} {K:Frag} {x dx C f:Addr} {mA:Str->Option Value} {name:Str} {v:Value}
theorem Rp {expr:Bool}{Q:Value->Shared->Prop}(X:K.In s.heap)(I:Ep s.heap x dx C mA)(hg:W.plainGet K C name=true)(hh:W.hasDictIn K C=true)(ha:W.findIn K (.ref C) name=some none)(hv:mA name=some v)(hv':W.handedIn v=true)(h:Q v { s with toks:=s.toks+1 }) :
  wpAny (model prog w) A (getAttr (.ref x) name expr) Q E s:=by
 obtain⟨od,J,hl⟩:=I.look;exact W.get_value X J (W.plainGet_of hg).1 (W.findObj_own hh ha rfl (by rw[hl,hv])) hv' h
theorem Lu {pl:Sem Bool}{Q:Value × List Value->Shared->Prop}(X:K.In s.heap)(I:Ep s.heap x dx C mA)(hg:W.plainGet K C name=true)(hf:W.findIn K (.ref C) name=some (some (.ref f)))(ht:W.isFn K (.ref f)=true)(hv:mA name=none)(h:Q (.ref f,[.ref x]) s) :
  wpAny (model prog w) A (getMethod (.ref x) name pl) Q E s:=by
 obtain⟨od,J,hl⟩:=I.look;exact W.method_fn X J (W.plainGet_of hg).1 (W.plainGet_of hg).2 hf (beq_iff_eq.mp ht) (by show (W.lookIn name od).map (·.isSome)=some false;rw[hl,hv];rfl) h
theorem Ts {ns:List Str}{Q:Unit->Shared->Prop}(X:K.In s.heap)(I:Ep s.heap x dx C mA)(hs:W.findIn K (.ref C) "__setattr__"=some (some (.builtin "object.__setattr__")))(hp:W.plainOver K C=true)(ht:W.takerIn K C name=some none)(hh:W.hasDictIn K C=true)(hw:PySem.Within mA ns)(hsz:ns.length<=sizeLine)(h:∀h',Ep h' x dx C (fun y=>if y=name then some v else mA y)->Heap.SameBut dx s.heap h'->Q () { s with heap:=h',toks:=s.toks+2 }) :
  wpAny (model prog w) A (setAttr (.ref x) name v) Q E s:=by
 obtain⟨od,J,hl⟩:=I.look;refine W.set_plain X J hs (W.osa_open (s:={ s with toks:=s.toks+1 }) (r:=none) X J hp ht fun b=>?_);obtain⟨cd,hc,hd'⟩:=W.any_some hh;have hx:s.heap.get? x=some ⟨.ref C,some dx,.plain,#[]⟩:=I.obj;refine wpAny_bind (wpAny_pure (wpAny_bind (wpAny_bind (wpAny_loadPart hx (wpAny_bind (W.Looks.here (s:={ s with toks:=s.toks+1 }) (W.looks_clsIn X hc) ?_))))));rw[hd'];refine wpAny_pure (a:=some dx) (wpAny_bind (wpAny_pure (wpAny_bind ?_)));refine wpAny_nsSet1 (s:={ s with toks:=s.toks+1 }) I.ns fun h' hn2 hs2=>?_;obtain⟨oD,esD,epD,hoD,hdD,hcD⟩:=hn2.count (PySem.Within.cons name v hw);refine wpAny_bind (wpAny_lookBehind hoD (by rw[hdD];exact pastItsLine_dict (Nat.le_trans hcD (by rw[length_cons];lia))) ?_);exact wpAny_pure (h _ ⟨(hs2.2 _ (Ne.symm I.ne)).trans I.obj,hn2,I.ne⟩ hs2)
theorem Qk {R:Result->Shared->Prop}{vs:List Value}{kw:List (Str × Value)}(X:K.In s.heap)(hm:W.makesIn K C=true)(hi:W.findIn K (.ref C) "__init__"=some (some (.ref f)))(hf:W.typeIn K (.ref f)=some (.type "function"))(h:codeAny (model prog w) (A.under (.builtin "type.__call__" ⟨.ref C :: vs,kw⟩)) (.call (.ref f) ⟨.ref (s.heap.objs.size+1) :: vs,kw⟩) (W.InitBack (s.heap.objs.size+1) R)
   { s with heap:=(s.heap.push W.emptyDict).push (W.instObj C s.heap.objs.size) }) :
  codeAny (model prog w) A (.call (.ref C) ⟨vs,kw⟩) R s:=by
 obtain⟨hh,g,d,t,os⟩:=s;exact W.make_core (W.makes_of X hm) (W.looks_findIn X hi) (fun self=>W.bind_fn X self hf) (.inl rfl) h
end
def cP (f:Str)(v:V):List (Str × V)->List (Str × V)
 | []=>[(f,v)]
 | (g,x) :: r=>if g=f then (g,v) :: r else (g,x) :: cP f v r
theorem bK (f g:Str)(v:V):∀fs:List (Str × V),(cP f v fs).lookup g=if g=f then some v else fs.lookup g
 | []=>by
  show List.lookup g [(f,v)]=_
  by_cases h:g=f
  ·have hb:(g == f)=true:=beq_iff_eq.mpr h;simp only[List.lookup,hb,if_pos h]
  ·have hb:(g == f)=false:=beq_eq_false_iff_ne.mpr h;simp only[List.lookup,hb,if_neg h]
 | (k,x) :: r=>by
  have ih:=bK f g v r;rw[show cP f v ((k,x) :: r)=(if k=f then (k,v) :: r else (k,x) :: cP f v r) from rfl]
  by_cases hk:k=f
  ·rw[if_pos hk]
   by_cases h:g=k
   ·have hb:(g == k)=true:=beq_iff_eq.mpr h;simp only[List.lookup,hb,if_pos (h.trans hk)]
   ·have hb:(g == k)=false:=beq_eq_false_iff_ne.mpr h;simp only[List.lookup,hb,if_neg (fun e:g=f=>h (e.trans hk.symm))]
  ·rw[if_neg hk]
   by_cases h:g=k
   ·have hb:(g == k)=true:=beq_iff_eq.mpr h;simp only[List.lookup,hb,if_neg (fun e:g=f=>hk (h.symm.trans e))]
   ·have hb:(g == k)=false:=beq_eq_false_iff_ne.mpr h;simp only[List.lookup,hb];exact ih
theorem qX (f:Str)(v:V):∀fs:List (Str × V),f∈(cP f v fs).map (·.1)/\∀g,g∈fs.map (·.1)->g∈(cP f v fs).map (·.1)
 | []=>⟨by simp[cP],fun g h=>by simp at h⟩
 | (k,x) :: r=>by
  obtain⟨i1,i2⟩:=qX f v r;rw[show cP f v ((k,x) :: r)=(if k=f then (k,v) :: r else (k,x) :: cP f v r) from rfl]
  by_cases hk:k=f
  ·rw[if_pos hk];subst hk;exact⟨by simp,fun g h=>by simpa using h⟩
  ·rw[if_neg hk];refine⟨?_,fun g h=>?_⟩
   ·rw[map_cons];exact mem_cons_of_mem _ i1
   ·rw[map_cons] at h ⊢;rcases mem_cons.mp h with e | e
    ·exact mem_cons.mpr (.inl e)
    ·exact mem_cons_of_mem _ (i2 g e)
theorem dQ (f:Str)(v:V):∀fs:List (Str × V),(cP f v fs).length<=fs.length+1
 | []=>by simp[cP]
 | (k,x) :: r=>by
  have ih:=dQ f v r;rw[show cP f v ((k,x) :: r)=(if k=f then (k,v) :: r else (k,x) :: cP f v r) from rfl]
  by_cases hk:k=f
  ·rw[if_pos hk,length_cons,length_cons];lia
  ·rw[if_neg hk,length_cons,length_cons];lia
theorem kL.some_of {v:V}{o:Option Value}(r:kL (some v) o):∃u,o=some u/\cH v u:=by
 cases o with
 |none=>exact(show False from r).elim
 |some u=>exact⟨u,rfl,r⟩
theorem kL.none_of {o:Option Value}(r:kL none o):o=none:=by
 cases o with
 |none=>rfl
 |some u=>exact(show False from r).elim
theorem Je {v:V}{u:Value}(r:cH v u):W.handedIn u=true:=by
 cases v with
 |non=>cases (show u=Value.none from r);rfl
 |bl b=>cases (show u=Value.bool b from r);rfl
 |int i=>obtain⟨t,e⟩:=(show ∃t,u=Value.int i t from r);cases e;rfl
 |str x=>obtain⟨t,e⟩:=(show ∃t,u=Value.str x t from r);cases e;rfl
 |byt b=>obtain⟨t,e⟩:=(show ∃t,u=Value.bytes b t from r);cases e;rfl
 |flt b=>obtain⟨t,e⟩:=(show ∃t,u=Value.float b t from r);cases e;rfl
 |ref a=>cases (show u=Value.ref a from r);rfl
 |ty n=>cases (show u=Value.type n from r);rfl
section
variable {P:Program} {w:World} {H H':Hp} {h h':Heap} {a C dx:Addr} {fs fs':List (Str × V)}
theorem rR (hok:HOk P w H h)(e:H a=some (.ins C dx fs)):∃mA,Ep h a dx C mA/\(∀f,kL (fs.lookup f) (mA f))/\PySem.Within mA (fs.map (·.1))/\fs.length<=1000/\H dx=some (.own a):=by
 obtain⟨d,z,ne,ob,mA,n,r,q⟩:=(show eJ P w H h a (.ins C dx fs) from hok a _ e)
 exact⟨mA,⟨ob,n,ne⟩,r,q,z,d⟩
end
structure Cls (K:Frag) (C:Addr):Prop where
 pg:W.plainGet K C Str.empty=true
 hd:W.hasDictIn K C=true
 po:W.plainOver K C=true
 sa:W.findIn K (.ref C) "__setattr__"=some (some (.builtin "object.__setattr__"))
theorem Cls.get {K:Frag}{C:Addr}(c:Cls K C)(f:Str):W.plainGet K C f=true:=c.pg
def gG (K:Frag)(C:Addr)(f:Str):Prop:=W.findIn K (.ref C) f=some none
theorem gG.taker {K:Frag}{C:Addr}{f:Str}(n:gG K C f):W.takerIn K C f=some none:=by
 unfold W.takerIn;rw[show W.findIn K (.ref C) f=some none from n];rfl
structure dX (K:Frag) (C:Addr) (m:Str) (f:Addr):Prop where
 at_:W.findIn K (.ref C) m=some (some (.ref f))
 fn:W.isFn K (.ref f)=true
 kp:W.keepIn K (.ref f)=true
section
variable {X:Cx} {pins:List (Addr × Obj)} {σ:St} {H:Hp} {s:Shared} {a C dx:Addr} {fs:List (Str × V)} {f:Str} {v:V} {A:Around} {E:Value->Shared->Prop}
theorem Ew {b:Bool}{Q:Value->Shared->Prop}(I:Inv X pins σ H s)(e:H a=some (.ins C dx fs))(c:Cls X.K C)(n:gG X.K C f)(l:fs.lookup f=some v)(h:∀u s',Inv X pins σ H s'->cH v u->Q u s'):wpAny (model X.prog X.w) A (getAttr (.ref a) f b) Q E s:=by
 obtain⟨mA,O,r,_,_,_⟩:=rR I.hok e;obtain⟨u,hu,ru⟩:=kL.some_of (v:=v) (o:=mA f) (by rw[<- l];exact r f);exact Rp I.kIn O (c.get f) c.hd n hu (Je ru) (h u _ (I.tok _) ru)
theorem kA {m:Str}{g:Addr}{pl:Sem Bool}{Q:Value × List Value->Shared->Prop}(I:Inv X pins σ H s)(e:H a=some (.ins C dx fs))(c:Cls X.K C)(k:dX X.K C m g)(l:fs.lookup m=none)(h:Q (.ref g,[.ref a]) s):wpAny (model X.prog X.w) A (getMethod (.ref a) m pl) Q E s:=by
 obtain⟨mA,O,r,_,_,_⟩:=rR I.hok e;have hn:mA m=none:=kL.none_of (by rw[<- l];exact r m);exact Lu I.kIn O (c.get m) k.at_ k.fn hn h
theorem Ff {y:V}{u:Value}{Q:Unit->Shared->Prop}(I:Inv X pins σ H s)(e:H a=some (.ins C dx fs))(c:Cls X.K C)(n:gG X.K C f)(hl:fs.length < 1000)(ry:cH y u)(h:∀s',Inv X pins σ (upd H a (.ins C dx (cP f y fs))) s'->Q () s'):wpAny (model X.prog X.w) A (setAttr (.ref a) f u) Q E s:=by
 obtain⟨mA,O,r,wi,_,ho⟩:=rR I.hok e;have hz:(fs.map (·.1)).length<=sizeLine:=by rw[length_map,sizeLine_eq];lia
 refine Ts I.kIn O c.sa c.po n.taker c.hd wi hz fun h' O' sb=>h _ ?_;have hd:∃o,h'.get? dx=some o:=let ⟨o,_,_,e',_⟩:=O'.ns;⟨o,e'⟩
 refine I.write (x:=a) (e:=dx) (by rw[e];exact True.intro) (.inr ho) (fun b q hb z=>(sb.2 b hb).trans z) hd ?_;refine⟨by rw[aY O.ne];exact ho,?_,O.ne,O'.obj,_,O'.ns,fun g=>?_,fun g hg=>?_⟩
 ·have:=dQ f y fs;lia
 ·show kL ((cP f y fs).lookup g) (if g=f then some u else mA g);rw[bK]
  by_cases q:g=f
  ·rw[if_pos q,if_pos q];exact ry
  ·rw[if_neg q,if_neg q];exact r g
 ·by_cases q:g=f
  ·rw[q];exact(qX f y fs).1
  ·refine(qX f y fs).2 g (wi g fun z=>hg ?_);show (if g=f then some u else mA g)=none;rw[if_neg q];exact z
theorem Inv.made (I:Inv X pins σ H s):Inv X pins σ (upd (upd H s.heap.objs.size (.own (s.heap.objs.size+1))) (s.heap.objs.size+1) (.ins C s.heap.objs.size []))
  { s with heap:=(s.heap.push W.emptyDict).push (W.instObj C s.heap.objs.size) }:=by
 have e1:(s.heap.push W.emptyDict).get? s.heap.objs.size=some W.emptyDict:=Heap.get?_push_size s.heap rfl;have e2:((s.heap.push W.emptyDict).push (W.instObj C s.heap.objs.size)).get? (s.heap.objs.size+1)=some (W.instObj C s.heap.objs.size):=by
  have:=Heap.get?_push_size (s.heap.push W.emptyDict) (o:=W.instObj C s.heap.objs.size) rfl
  rwa [Heap.size_push] at this
 have e3:(s.heap.push W.emptyDict).Ns s.heap.objs.size (fun _=>none):=⟨W.emptyDict,#[],_,e1,rfl,(fun e he=>absurd he (by simp)),fun _=>rfl⟩
 have I1:=I.laid (a:=s.heap.objs.size) (o:=.own (s.heap.objs.size+1)) (h':=s.heap.push W.emptyDict) (t':=s.toks) (fun b u q=>Heap.get?_push_of_some _ q) (Nat.le_refl _) ⟨_,e1⟩;refine I1.laid (a:=s.heap.objs.size+1) (o:=.ins C s.heap.objs.size []) (t':=s.toks) (fun b u q=>Heap.get?_push_of_some _ q) (Nat.le_of_eq (Heap.size_push _ _)) ?_;have ne:s.heap.objs.size≠s.heap.objs.size+1:=Nat.ne_of_lt (Nat.lt_succ_self _);refine⟨by rw[aY ne,aC],Nat.zero_le _,ne,e2,fun _=>none,(Heap.Ns1.of_empty e3).at fun o q=>Heap.get?_push_of_some _ q,fun _=>True.intro,fun y hy=>absurd rfl hy⟩
theorem Rz {prog:Program}{w:World}{env:Env}{e:Expr}{f:Str}{pos:Pos}{s:Shared}{Q:Value->Shared->Prop}(hb:attributeBase e f env (eval e env)=eval e env)(h:wpAny (model prog w) A (eval e env) (fun o s₁=>wpAny (model prog w) A (getAttr o f true) Q E s₁) E s):wpAny (model prog w) A (eval (.Attribute e f pos) env) Q E s:=
 Attribute_any_ h (by rw[arm_eval_Attribute,hb])
end
def qe6 (K:Frag)(ta:TE)(f:Str):TE:=fun σ H Q=>ta σ H fun x H1=>∃a C dx fs v,x=.ref a/\H1 a=some (.ins C dx fs)/\Cls K C/\gG K C f/\fs.lookup f=some v/\Q v H1
def qf4 (K:Frag)(ta tv:TE)(f:Str):TS:=fun D σ H=>tv σ H fun y H1=>ta σ H1 fun x H2=>∃a C dx fs,x=.ref a/\H2 a=some (.ins C dx fs)/\Cls K C/\gG K C f/\fs.length < 1000/\
 D.nx σ (upd H2 a (.ins C dx (cP f y fs)))
section
variable {X:Cx} {o e value:Expr} {f:Str} {pos pos' tpos:Pos} {ta tv:TE}
theorem bL (he:PE X e ta)(hb:attributeBase e f X.env (eval e X.env)=eval e X.env):PE X (.Attribute e f pos) (qe6 X.K ta f):=by
 intro pins s σ H Q I h;refine Rz hb (thn (he pins s σ H _ I h) fun u s1 ⟨x,H1,I1,rx,a,C,dx,fs,v,ex,ea,c,n,l,q⟩=>?_);subst ex;obtain rfl:u=Value.ref a:=rx;exact Ew I1 ea c n l fun u' s2 I2 ru=>⟨v,H1,I2,ru,q⟩
theorem gY (ha:PE X o ta)(hv:PE X value tv)(hs:swapsWith value (some (.Attribute o f pos')) pos.line X.env=pure false):PS X (.Assign [.Attribute o f pos'] value pos) (qf4 X.K ta tv f):=by
 intro pins s σ H D I h;refine plainObj_wpAny_Assign_Attribute (thn (hv pins s σ H _ I h) fun u s1 ⟨y,H1,I1,ry,q⟩=>thn (ha pins s1 σ H1 _ I1 q) fun ov s2 ⟨x,H2,I2,rx,a,C,dx,fs,ex,ea,c,n,l,q2⟩=>?_) hs;subst ex;obtain rfl:ov=Value.ref a:=rx;exact Ff I2 ea c n l ry fun s3 I3=>⟨σ,_,I3,q2⟩
end
section
variable {X:Cx} {pins:List (Addr × Obj)} {σ:St} {H:Hp} {s:Shared} {A:Around} {E:Value->Shared->Prop} {Q:Value->Shared->Prop} {c:Value} {b:Bool}
inductive mV (K:Frag) (H:Hp):V->Value->Prop where
 |non:mV K H .non (.type "NoneType")
 |bl (x:Bool):mV K H (.bl x) (.type "bool")
 |int (i:Int):mV K H (.int i) (.type "int")
 |str (x:Str):mV K H (.str x) (.type "str")
 |flt (x:UInt64):mV K H (.flt x) (.type "float")
 |lst {a:Addr} {xs:List V} (e:H a=some (.lst xs)):mV K H (.ref a) (.type "list")
 |frz {a:Addr} {o:Obj} {xs:List V} (e:H a=some (.frz o (.lst xs))):mV K H (.ref a) (.type "list")
 |tup {a:Addr} {xs:List V} (e:H a=some (.tup xs)):mV K H (.ref a) (.type "tuple")
 |dK {a:Addr} {kvs:List (Key × V)} (e:H a=some (.dK kvs)):mV K H (.ref a) (.type "dict")
 |dT {a:Addr} {kvs:List (List Key × V)} (e:H a=some (.dT kvs)):mV K H (.ref a) (.type "dict")
 |ins {a C dx:Addr} {fs:List (Str × V)} (e:H a=some (.ins C dx fs)) (cl:Cls K C) (ha:W.findIn K (.ref C) "__class__"=some (some (.builtin "object.__class__")))
   (hn:W.specialIn K (.builtin "object.__class__") "__get__"=some (some (.builtin "getset_descriptor.__get__"))) (htk:W.takesIn K (.builtin "object.__class__")=some true)
   (hm:W.mroIn K C (.type "object")=some true):mV K H (.ref a) (.ref C)
theorem Kf {x:V}{u t:Value}(I:Inv X pins σ H s)(rx:cH x u)(ty:mV X.K H x t)(e:W.kitOne X.K t c=some b)(h:∀tk,Q (.bool b) { s with toks:=tk }) :
  wpAny (model X.prog X.w) A (call (.builtin "isinstance") [u,c]) Q E s:=by
 cases ty with
 |non=>cases (show u=Value.none from rx);exact W.kia_one W.kitx_none I.kIn True.intro e (fun z=>nomatch z) h
 |bl y=>cases (show u=Value.bool y from rx);exact W.kia_one W.kitx_bool I.kIn True.intro e (fun z=>nomatch z) h
 |int i=>obtain⟨t,q⟩:=(show ∃t,u=Value.int i t from rx);cases q;exact W.kia_one W.kitx_int I.kIn True.intro e (fun z=>nomatch z) h
 |str y=>obtain⟨t,q⟩:=(show ∃t,u=Value.str y t from rx);cases q;exact W.kia_one W.kitx_str I.kIn True.intro e (fun z=>nomatch z) h
 |flt y=>obtain⟨t,q⟩:=(show ∃t,u=Value.float y t from rx);cases q;exact W.kia_one W.kitx_float I.kIn True.intro e (fun z=>nomatch z) h
 | @lst a xs ea=>
  cases (show u=Value.ref a from rx)
  obtain⟨_,_,n,_,h1⟩:=(show eJ X.prog X.w H s.heap a (.lst xs) from I.hok a _ ea)
  exact W.kia_one W.kitx_list I.kIn ⟨_,h1,rfl⟩ e (fun z=>nomatch z) h
 | @frz a ob xs ea=>
  cases (show u=Value.ref a from rx)
  obtain⟨_,_,_,n,_,h1⟩:=(show eJ X.prog X.w H s.heap a (.frz ob (.lst xs)) from I.hok a _ ea)
  exact W.kia_one W.kitx_list I.kIn ⟨_,h1,rfl⟩ e (fun z=>nomatch z) h
 | @tup a xs ea=>
  cases (show u=Value.ref a from rx)
  obtain⟨_,_,_,p⟩:=(show eJ X.prog X.w H s.heap a (.tup xs) from I.hok a _ ea)
  obtain⟨o,h1,h2,_⟩:=p;exact W.kia_one W.kitx_tuple I.kIn ⟨o,h1,h2⟩ e (fun z=>nomatch z) h
 | @dK a kvs ea=>
  cases (show u=Value.ref a from rx)
  obtain⟨_,_,vs,_,p⟩:=(show eJ X.prog X.w H s.heap a (.dK kvs) from I.hok a _ ea)
  obtain⟨o,es,ep,h1,h2,_⟩:=p;exact W.kia_one W.kitx_dict I.kIn ⟨o,h1,h2.1⟩ e (fun z=>nomatch z) h
 | @dT a kvs ea=>
  cases (show u=Value.ref a from rx)
  obtain⟨_,_,xs,_,o,es,ep,h1,h2,_⟩:=(show eJ X.prog X.w H s.heap a (.dT kvs) from I.hok a _ ea)
  exact W.kia_one W.kitx_dict I.kIn ⟨o,h1,h2.1⟩ e (fun z=>nomatch z) h
 | @ins a C dx fs ea cl ha hn htk hm=>
  cases (show u=Value.ref a from rx)
  obtain⟨mA,O,_⟩:=rR I.hok ea;obtain⟨od,J,_⟩:=O.look;exact W.kia_one (W.kitx_own (cl.get _) cl.hd ha hn htk hm) I.kIn J e (fun z=>nomatch z) h
end
structure gR (k:Nat) (A:Around):Prop where
 hd:A.handled=none
 dp:A.depth+3*k+5 < recursionLimit
 un:A.units+16*k+200 < cLine
theorem gR.mono {j k:Nat}{A:Around}(r:gR k A)(h:j<=k):gR j A:=⟨r.hd,by have:=r.dp;lia,by have:=r.un;lia⟩
theorem gR.deeper {k:Nat}{A:Around}(r:gR (k+1) A)(env:Env):gR k (A.deeper env):=
 ⟨r.hd,by have:=r.dp;show A.depth+1+3*k+5 < _;lia,by have:=r.un;show A.units+3+16*k+200 < _;lia⟩
theorem Fv {A:Around}{C:Addr}{us:List Value}{kw:List (Str × Value)}:(A.under (.builtin "type.__call__" ⟨.ref C :: us,kw⟩)).depth=A.depth+1:=by
 first | rfl | simp[Around.under,Code.weight,Code.isCreation,Code.isGuard,Code.isCaller,Code.frames,Code.isFrame,guardIds]
theorem Ft {A:Around}{C:Addr}{us:List Value}{kw:List (Str × Value)}:(A.under (.builtin "type.__call__" ⟨.ref C :: us,kw⟩)).units=A.units+1:=by
 first | rfl | simp[Around.under,Code.cUnits,Code.frames,Code.isFrame]
theorem gR.make {k:Nat}{A:Around}(r:gR (k+1) A)(C:Addr)(us:List Value)(kw:List (Str × Value)):gR k (A.under (.builtin "type.__call__" ⟨.ref C :: us,kw⟩)):=
 ⟨r.hd,by have:=r.dp;rw[Fv];lia,by have:=r.un;rw[Ft];lia⟩
theorem gR.depth {k:Nat}{A:Around}(r:gR k A):A.depth < recursionLimit:=by have:=r.dp;lia
theorem gR.units {k:Nat}{A:Around}(r:gR k A):A.units+64 < cLine:=by have:=r.un;lia
def Yt:TA:=fun _ H Q=>Q [] H
def Zl (ta:TE)(tr:TA):TA:=fun σ H Q=>ta σ H fun x H1=>tr σ H1 fun xs H2=>Q (x :: xs) H2
section
variable {X:Cx} {e:Expr} {es:List Expr} {te:TE} {t:TA} {pos:Pos}
theorem aE:PA X [] Yt:=fun _ _ _ _ H Q I h=>Calls.spliced_nil ⟨[],H,I,.nil,h⟩
theorem aA (ha:PE X e te)(hr:PA X es t)(hs:starEach (e :: es) X.env=(false,eval e X.env) :: starEach es X.env:=by rfl):PA X (e :: es) (Zl te t):=by
 intro pos pins s σ H Q I h;rw[hs];show wpAny _ _ (spliced ((false,eval e X.env) :: backTo pos (starEach es X.env))) _ _ s;refine Calls.spliced_cons (thn (ha pins s σ H _ I h) fun u s1 ⟨x,H1,I1,r1,q1⟩=>?_);exact thn (hr pos pins s1 σ H1 _ I1 q1) fun us s2 ⟨xs,H2,I2,r2,q2⟩=>⟨x :: xs,H2,I2,.cons r1 r2,q2⟩
def Zy (t:TA):TE:=fun σ H Q=>t σ H fun xs H1=>xs.length<=sizeLine/\∀p,H1 p=none->Q (.ref p) (upd H1 p (.tup xs))
def qd3 (t:TA):TE:=fun σ H Q=>t σ H fun xs H1=>xs.length<=sizeLine/\∀p,H1 p=none->Q (.ref p) (upd H1 p (.lst xs))
theorem dI {x1}(h:PA X es t):PE X (.Tuple es x1 pos) (Zy t):=by
 intro pins s σ H Q I hq;refine wpAny_Tuple_spliced (thn (h pos pins s σ H _ I hq) fun us s1 ⟨xs,H1,I1,r,z,q⟩=>⟨by rw[<- r.length];exact z,?_⟩);have hf:H1 s1.heap.objs.size=none:=I1.hok.fresh (Nat.le_refl _);refine⟨.ref s1.heap.objs.size,upd H1 s1.heap.objs.size (.tup xs),I1.laid (t':=s1.toks) (fun b u e=>Heap.get?_push_of_some _ e) (Nat.le_refl _) ?_,rfl,q _ hf⟩;exact⟨z,us,r,⟨_,Heap.get?_push_size _ rfl,rfl,_,rfl⟩⟩
theorem cU (h:PA X es t):PE X (.List es pos) (qd3 t):=by
 intro pins s σ H Q I hq;refine wpAny_List_spliced (thn (h pos pins s σ H _ I hq) fun us s1 ⟨xs,H1,I1,r,z,q⟩=>⟨by rw[<- r.length];exact z,?_⟩);have hf:H1 s1.heap.objs.size=none:=I1.hok.fresh (Nat.le_refl _);refine⟨.ref s1.heap.objs.size,upd H1 s1.heap.objs.size (.lst xs),I1.laid (t':=s1.toks) (fun b u e=>Heap.get?_push_of_some _ e) (Nat.le_refl _) ?_,rfl,q _ hf⟩;exact⟨z,us,0,r,Heap.get?_push_size _ rfl⟩
end
abbrev Sp:=List V->Hp->VK->XK->Prop
abbrev CXT:=List Env->Hp->Shared->XK->Value->Shared->Prop
structure Fy (P:Program) (w:World) (K:Frag) (mg:Str->Option Value) (base:Heap) (A:Around) (outer:List Env) (s:Shared) (H:Hp):Prop where
 frames:A.frames=some outer
 mod:Mod K mg base
 bs:∀b o,base.get? b=some o->s.heap.get? b=some o/\H b=none
 bsz:base.objs.size<=s.heap.objs.size
 funs:s.heap.FunFrames base outer
 frf:∀b∈frs outer,H b=none
 hok:HOk P w H s.heap
 bare:AllBare s.gens
def CE (outer:List Env)(P:Program)(w:World)(H:Hp)(s:Shared)(Q:VK)(u:Value)(s':Shared):Prop:=
 ∃v H',s'.os=s.os/\AllBare s'.gens/\Un (frs outer) [] H H' s.heap s'.heap/\HOk P w H' s'.heap/\cH v u/\Q v H'
def CR (CX:CXT)(outer:List Env)(P:Program)(w:World)(H:Hp)(s:Shared)(Q:VK)(E:XK)(r:Result)(s':Shared):Prop:=
 match r with
 | .ok (.ret u)=>CE outer P w H s Q u s'
 | .ok _=>False
 | .error e=>CX outer H s E e s'
structure aP (P:Program) (w:World) (K:Frag) (mg:Str->Option Value) (base:Heap) (CX:CXT) (k:Nat) (f:Addr) (fd:FuncData) (ps:List Str) (sp:Sp):Prop where
 len:∀vs H Q E,sp vs H Q E->vs.length=ps.length
 run:∀(A:Around) (outer:List Env) (s:Shared) (H:Hp) (args:Args) (us:List Value) (vs:List V) (Q:VK) (E:XK),gR k A->Fy P w K mg base A outer s H->BindsTo s fd args (ps.zip us)->cB vs us->sp vs H Q E->
  codeAny (model P w) A (.call (.ref f) args) (CR CX outer P w H s Q E) s
theorem Fy.make {P:Program}{w:World}{K:Frag}{mg:Str->Option Value}{base:Heap}{A:Around}{outer:List Env}{s:Shared}{H:Hp}(e:Fy P w K mg base A outer s H)(C:Addr)(us:List Value)(kw:List (Str × Value)) :
  Fy P w K mg base (A.under (.builtin "type.__call__" ⟨.ref C :: us,kw⟩)) outer s H:=⟨by first | exact e.frames | (simpa[Around.under,Code.envs,Code.isFrame,pushEnvs] using e.frames),e.mod,e.bs,e.bsz,e.funs,e.frf,e.hok,e.bare⟩
section
variable {X:Cx} {pins:List (Addr × Obj)} {σ:St} {H:Hp} {s s':Shared}
theorem Inv.env0 (I:Inv X pins σ H s):Fy X.prog X.w X.K X.mg X.base X.A X.stack s H:=
 ⟨I.ok.frames,I.ok.mod,I.bs,Nat.le_trans I.ok.bsz I.sz,I.stack,I.stkFree,I.hok,I.bare⟩
theorem Inv.after {Q:VK}{u:Value}(I:Inv X pins σ H s)(h:CE X.stack X.prog X.w H s Q u s'):EP X pins σ Q u s':=by
 obtain⟨v,H',os,bare,un,hok,r,q⟩:=h;obtain⟨hh,g,d,t,os'⟩:=s';obtain rfl:os'=s.os:=os;exact⟨v,H',I.call (h':=hh) (g':=g) (d':=d) (t':=t) (ch:=[]) un hok bare (fun b z=>absurd z (by simp)),r,q⟩
end
def qa2 (sp:Sp)(dvs:List V)(E:XK)(t:TA):TE:=fun σ H Q=>t σ H fun vs H1=>sp (vs++dvs) H1 Q E
def Uv (C:Addr)(m:Str)(sp:Sp)(dvs:List V)(E:XK)(ta:TE)(t:TA):TE:=fun σ H Q=>ta σ H fun x H1=>∃a dx fs,x=.ref a/\H1 a=some (.ins C dx fs)/\fs.lookup m=none/\
 t σ H1 fun vs H2=>sp (x :: (vs++dvs)) H2 Q E
def Zj (C:Addr)(sp:Sp)(dvs:List V)(E:XK)(t:TA):TE:=fun σ H Q=>t σ H fun vs H1=>∀x dx,H1 x=none->H1 dx=none->dx≠x->
 sp (.ref x :: (vs++dvs)) (upd (upd H1 dx (.own x)) x (.ins C dx [])) (fun v H2=>v=.non/\Q (.ref x) H2) E
def aQ (K:Frag)(fd:FuncData)(ps:List Str)(ds:List Value):Prop:=
 ∀(s:Shared) (us:List Value),K.In s.heap->(us++ds).length=ps.length->BindsTo s fd ⟨us,[]⟩ (ps.zip (us++ds))
theorem aQ.all {K:Frag}{fd:FuncData}{ps:List Str}(h:∀us:List Value,us.length=ps.length->bindArgs fd ⟨us,[]⟩=pure (ps.zip us)):aQ K fd ps []:=fun s us _ hl=>by
 rw[append_nil] at hl ⊢;exact .of_eq (h us hl)
def kB (CX:CXT)(X:Cx)(E:XK):Prop:=∀(pins:List (Addr × Obj)) (σ:St) (H:Hp) (s:Shared) (e:Value) (s':Shared),Inv X pins σ H s->CX X.stack H s E e s'->X.xe e s'
section
variable {X:Cx} {CX:CXT} {k:Nat} {f C:Addr} {fd:FuncData} {ps:List Str} {sp:Sp} {dvs:List V} {ds:List Value} {E:XK} {x m:Str} {p pos apos:Pos} {e o:Expr} {es:List Expr} {ta:TE} {t:TA}
theorem vT {pins:List (Addr × Obj)}{σ:St}{H:Hp}{s:Shared}{Q:VK}{us:List Value}{vs:List V}(F:aP X.prog X.w X.K X.mg X.base CX k f fd ps sp)(hr:gR k X.A)(hb:aQ X.K fd ps ds)(hd:cB dvs ds)(hx:kB CX X E)(I:Inv X pins σ H s)(r:cB vs us)(h:sp (vs++dvs) H Q E):wpAny (model X.prog X.w) X.A (call (.ref f) us) (EP X pins σ Q) X.xe s:=by
 have r2:cB (vs++dvs) (us++ds):=r.append hd;have hl:(us++ds).length=ps.length:=by rw[<- r2.length];exact F.len _ _ _ _ h
 refine wpAny_call (codeAny_mono (F.run X.A X.stack s H ⟨us,[]⟩ (us++ds) (vs++dvs) Q E hr I.env0 (hb s us I.kIn hl) r2 h) fun r s' hq=>?_)
 cases r with
 |error e=>exact hx pins σ H s e s' I hq
 |ok fl=>
  cases fl with
  |ret u=>exact I.after hq
  |next=>exact False.elim hq
  |brk=>exact False.elim hq
  |cont=>exact False.elim hq
theorem aH (F:aP X.prog X.w X.K X.mg X.base CX k f fd ps sp)(hr:gR k X.A)(hg:Gl X x)(hm:X.mg x=some (.ref f))(hk:W.keepIn X.K (.ref f)=true)(hb:aQ X.K fd ps ds)(hd:cB dvs ds)(hx:kB CX X E)(ha:PA X (e :: es) t)(hdb:(x == ("__debug__":Str))=false:=by decide)(he:starEach (e :: es) X.env=(false,eval e X.env) :: starEach es X.env:=by rfl)(hpl:(backTo pos (starEach es X.env)).any (·.1)=false:=by rfl) :
  PE X (.Call (.Name x p) (e :: es) [] pos) (qa2 sp dvs E t):=by
 intro pins s σ H Q I h;refine wpAny_Call_Name_kw (Ag I hg hm ?_ hdb);refine W.callWith_K (h₀:=X.base) I.ok.mod.kin hk (thn (ha pos pins s σ H _ I h) fun us s1 ⟨vs,H1,I1,r,q⟩=>⟨I1.kIn,?_⟩) he hpl;exact vT F hr hb hd hx I1 r q
theorem zU {pl:Sem Bool}(he:PE X o ta)(c:Cls X.K C)(hm:dX X.K C m f)(F:aP X.prog X.w X.K X.mg X.base CX k f fd ps sp)(hr:gR k X.A)(hb:aQ X.K fd ps ds)(hd:cB dvs ds)(hx:kB CX X E)(ha:PA X (e :: es) t)(hst:starEach (e :: es) X.env=(false,eval e X.env) :: starEach es X.env:=by rfl)(hpl:(backTo pos (starEach es X.env)).any (·.1)=false:=by rfl)(ht:eval (.Call (.Attribute o m apos) (e :: es) [] pos) X.env=(do
   let ov <- eval o X.env
   standAt apos.atName
   let (f,first) <- holding [ov] (getMethod ov m pl)
   callWith pos f first (backTo pos (starEach (e :: es) X.env)) (backToKw pos (keywordEach [] X.env))):=by rfl) :
  PE X (.Call (.Attribute o m apos) (e :: es) [] pos) (Uv C m sp dvs E ta t):=by
 intro pins s σ H Q I h;refine W.methodCall_KW (pl:=pl) (thn (he pins s σ H _ I h) fun u s1 ⟨x,H1,I1,rx,a,dx,fs,ex,ea,l,q⟩=>?_) ht;subst ex;obtain rfl:u=Value.ref a:=rx;refine kA I1 ea c hm l ?_;refine W.callWith_K (first:=[.ref a]) (h₀:=X.base) I.ok.mod.kin hm.kp (thn (ha pos pins s1 σ H1 _ I1 q) fun us s2 ⟨vs,H2,I2,r,q2⟩=>⟨I2.kIn,?_⟩) hst hpl;exact vT (us:=.ref a :: us) (vs:=.ref a :: vs) F hr hb hd hx I2 (.cons rfl r) q2
theorem cC {pl:Sem Bool}(he:PE X o ta)(c:Cls X.K C)(hm:dX X.K C m f)(F:aP X.prog X.w X.K X.mg X.base CX k f fd ps sp)(hr:gR k X.A)(hb:aQ X.K fd ps ds)(hd:cB dvs ds)(hx:kB CX X E)(ht:eval (.Call (.Attribute o m apos) [] [] pos) X.env=(do
   let ov <- eval o X.env
   standAt apos.atName
   let (f,first) <- holding [ov] (getMethod ov m pl)
   callWith pos f first (backTo pos (starEach [] X.env)) (backToKw pos (keywordEach [] X.env))):=by rfl) :
  PE X (.Call (.Attribute o m apos) [] [] pos) (Uv C m sp dvs E ta Yt):=by
 intro pins s σ H Q I h;refine W.methodCall_KW (pl:=pl) (thn (he pins s σ H _ I h) fun u s1 ⟨x,H1,I1,rx,a,dx,fs,ex,ea,l,q⟩=>?_) ht;subst ex;obtain rfl:u=Value.ref a:=rx;refine kA I1 ea c hm l ?_;exact W.callWith_K0 (first:=[.ref a]) I1.kIn hm.kp (vT (us:=[.ref a]) (vs:=[.ref a]) F hr hb hd hx I1 (.cons rfl .nil) q)
structure Mk (K:Frag) (C f:Addr):Prop where
 makes:W.makesIn K C=true
 init:W.findIn K (.ref C) "__init__"=some (some (.ref f))
 fn:W.isFn K (.ref f)=true
 kp:W.keepIn K (.ref C)=true
theorem Qq {pins:List (Addr × Obj)}{σ:St}{H:Hp}{s:Shared}{Q:VK}{us:List Value}{vs:List V}(M:Mk X.K C f)(F:aP X.prog X.w X.K X.mg X.base CX k f fd ps sp)(hr:gR (k+1) X.A)(hb:aQ X.K fd ps ds)(hd:cB dvs ds)(hx:kB CX X E)(I:Inv X pins σ H s)(r:cB vs us)(h:∀x dx,H x=none->H dx=none->dx≠x->sp (.ref x :: (vs++dvs)) (upd (upd H dx (.own x)) x (.ins C dx [])) (fun v H2=>v=.non/\Q (.ref x) H2) E) :
  wpAny (model X.prog X.w) X.A (call (.ref C) us) (EP X pins σ Q) X.xe s:=by
 have hq:=h (s.heap.objs.size+1) s.heap.objs.size (I.hok.fresh (Nat.le_succ _)) (I.hok.fresh (Nat.le_refl _)) (Nat.ne_of_lt (Nat.lt_succ_self _));have I2:=Inv.made (C:=C) I;have r2:cB (V.ref (s.heap.objs.size+1) :: (vs++dvs)) (Value.ref (s.heap.objs.size+1) :: (us++ds)):=.cons rfl (r.append hd);have hl:(Value.ref (s.heap.objs.size+1) :: us++ds).length=ps.length:=by
  have e:=r2.length;rw[F.len _ _ _ _ hq] at e;exact e.symm
 refine wpAny_call (Qk (f:=f) I.kIn M.makes M.init (beq_iff_eq.mp M.fn) (codeAny_mono (F.run _ X.stack _ _ ⟨Value.ref (s.heap.objs.size+1) :: us,[]⟩ (Value.ref (s.heap.objs.size+1) :: (us++ds)) _ _ E (hr.make C us [])
  (I2.env0.make C us []) (hb _ (Value.ref (s.heap.objs.size+1) :: us) I2.kIn hl) r2 hq) fun r s' hq'=>?_))
 cases r with
 |error e=>exact hx pins σ _ _ e s' I2 hq'
 |ok fl=>
  cases fl with
  |ret u=>
   obtain⟨v,H',I3,rv,ev,q3⟩:=I2.after hq';subst ev;exact⟨rv,⟨V.ref (s.heap.objs.size+1),H',I3,rfl,q3⟩⟩
  |next=>exact False.elim hq'
  |brk=>exact False.elim hq'
  |cont=>exact False.elim hq'
theorem hV (M:Mk X.K C f)(F:aP X.prog X.w X.K X.mg X.base CX k f fd ps sp)(hr:gR (k+1) X.A)(hg:Gl X x)(hm:X.mg x=some (.ref C))(hb:aQ X.K fd ps ds)(hd:cB dvs ds)(hx:kB CX X E)(ha:PA X (e :: es) t)(hdb:(x == ("__debug__":Str))=false:=by decide)(he:starEach (e :: es) X.env=(false,eval e X.env) :: starEach es X.env:=by rfl)(hpl:(backTo pos (starEach es X.env)).any (·.1)=false:=by rfl) :
  PE X (.Call (.Name x p) (e :: es) [] pos) (Zj C sp dvs E t):=by
 intro pins s σ H Q I h;refine wpAny_Call_Name_kw (Ag I hg hm ?_ hdb);refine W.callWith_K (h₀:=X.base) I.ok.mod.kin M.kp (thn (ha pos pins s σ H _ I h) fun us s1 ⟨vs,H1,I1,r,q⟩=>⟨I1.kIn,?_⟩) he hpl;exact Qq M F hr hb hd hx I1 r q
end
structure aT (N P:List Str) (sc:Scope):Prop where
 kind:sc.kind=.function
 co:sc.isCoroutine=false
 gen:sc.isGenerator=false
 nd:N.Nodup
 pre:N.take P.length=P
 par:∀x∈P,sc.names.lookup x=some .local\/sc.names.lookup x=some .cell
 nofree:∀y∈sc.names,y.2≠.free
theorem sK9 {N P:List Str}{sc:Scope}(a:sc.kind=.function:=by exact rfl)(b:sc.isCoroutine=false:=by exact rfl)(c:sc.isGenerator=false:=by exact rfl)(d:N.take P.length=P:=by exact rfl)(e:(decide N.Nodup&&decide (∀x∈P,sc.names.lookup x=some .local\/sc.names.lookup x=some .cell)&&decide (∀y∈sc.names,y.2≠.free))=true:=by decide +kernel):aT N P sc:=by
 rw[Bool.and_eq_true,Bool.and_eq_true] at e
 exact ⟨a,b,c,of_decide_eq_true e.1.1,d,of_decide_eq_true e.1.2,of_decide_eq_true e.2⟩
theorem zl9 (n:Nat)(h:n<=16:=by decide):n<=sizeLine:=Nat.le_trans h (by decide)
abbrev kI9 (K:Frag)(g:Addr):Prop:=W.keepIn K (.ref g)=true
abbrev mI9 (mg:Str->Option Value)(x:Str)(g:Addr):Prop:=mg x=some (.ref g)
theorem yI {kindOf:Str->Option NameKind}{x:Str}:∀{binds:List (Str × Value)} {m:Str->Option Value},(∀v,(x,v)∉binds)->bindL kindOf binds m x=m x
 | [],_,_=>rfl
 | (n,v) :: r,m,h=>by
  unfold bindL;rw[yI fun w hw=>h w (mem_cons_of_mem _ hw)];split
  ·have:x≠n:=by rintro rfl;exact h v mem_cons_self
   simp[this]
  ·rfl
theorem xC {kindOf:Str->Option NameKind}{x:Str}:∀{binds:List (Str × Value)} {m:Str->Option Value},(∀v,(x,v)∉binds)->bindC kindOf binds m x=m x
 | [],_,_=>rfl
 | (n,v) :: r,m,h=>by
  unfold bindC;rw[xC fun w hw=>h w (mem_cons_of_mem _ hw)];split
  ·rfl
  ·have:x≠n:=by rintro rfl;exact h v mem_cons_self
   simp[this]
theorem yM {kindOf:Str->Option NameKind}{x:Str}{v:Value}:∀{P:List Str} {vs:List Value} {i:Nat} {m:Str->Option Value},P.Nodup->P[i]?=some x->vs[i]?=some v->kindOf x=some .local->
  bindL kindOf (P.zip vs) m x=some v
 | [],_,_,_,_,h,_,_=>by simp at h
 |_ :: _,[],_,_,_,_,h,_=>by simp at h
 |p :: P,w :: vs,0,m,nd,h1,h2,hk=>by
  simp at h1 h2;subst h1;subst h2;show bindL kindOf ((p,w) :: P.zip vs) m p=_;unfold bindL;rw[yI fun v hv=>(nodup_cons.mp nd).1 (of_mem_zip hv).1,if_pos hk];simp
 |p :: P,w :: vs,i+1,m,nd,h1,h2,hk=>by
  show bindL kindOf ((p,w) :: P.zip vs) m x=_;unfold bindL;exact yM (i:=i) (nodup_cons.mp nd).2 (by simpa using h1) (by simpa using h2) hk
theorem yV {kindOf:Str->Option NameKind}{x:Str}{v:Value}:∀{P:List Str} {vs:List Value} {i:Nat} {m:Str->Option Value},P.Nodup->P[i]?=some x->vs[i]?=some v->kindOf x≠some .local->
  bindC kindOf (P.zip vs) m x=some v
 | [],_,_,_,_,h,_,_=>by simp at h
 |_ :: _,[],_,_,_,_,h,_=>by simp at h
 |p :: P,w :: vs,0,m,nd,h1,h2,hk=>by
  simp at h1 h2;subst h1;subst h2;show bindC kindOf ((p,w) :: P.zip vs) m p=_;unfold bindC;rw[xC fun v hv=>(nodup_cons.mp nd).1 (of_mem_zip hv).1,if_neg hk];simp
 |p :: P,w :: vs,i+1,m,nd,h1,h2,hk=>by
  show bindC kindOf ((p,w) :: P.zip vs) m x=_;unfold bindC;exact yV (i:=i) (nodup_cons.mp nd).2 (by simpa using h1) (by simpa using h2) hk
def start (N:List Str)(vs:List V):St:=vs.map some++replicate (N.length - vs.length) none
def El (CX:CXT)(P:Program)(w:World)(K:Frag)(mg:Str->Option Value)(base:Heap)(N:List Str)(qual:Str)(scope:Scope)(f:Addr)(cd:Value)(A:Around)(outer:List Env)(s:Shared)(H:Hp)(E:XK):Cx where
 prog:=P
 w:=w
 K:=K
 mg:=mg
 base:=base
 A:=A.deeper (envOfC qual scope s.heap.objs.size f cd)
 N:=N
 s₀:=s
 H₀:=H
 env:=envOfC qual scope s.heap.objs.size f cd
 outer:=outer
 stack:=envOfC qual scope s.heap.objs.size f cd :: outer
 ex:=[]
 calm:=true
 fn:=fun _=>true
 pn:=[]
 xe:=fun e s'=>wpAny (model P w) (A.deeper (envOfC qual scope s.heap.objs.size f cd)) (leaving (envOfC qual scope s.heap.objs.size f cd) e) (fun _ s''=>CX outer H s E e s'') (fun e' s''=>CX outer H s E e' s'') s'
theorem Di {sc:Scope}{n:Nat}{x:Str}(h:sc.names.lookup x=some .cell):∃c,(cellsFrom n sc.names []).lookup x=some c:=by
 have q:=W.cellsFrom_some sc.names n [] (.inl h);exact Option.isSome_iff_exists.mp q
theorem Jm {CX:CXT}{P:Program}{w:World}{K:Frag}{mg:Str->Option Value}{base:Heap}{N ps:List Str}{qual:Str}{scope:Scope}{f:Addr}{cd:Value}{A:Around}{outer:List Env}{s s1:Shared}{H:Hp}{E:XK}{us:List Value}{vs:List V}(S:aT N ps scope)(hd:A.handled=none)(e0:Fy P w K mg base A outer s H)(hl:vs.length=ps.length)(r:cB vs us)(x:InCallC s s.heap.objs.size (bindL (envOfC qual scope s.heap.objs.size f cd).kindOf (ps.zip us) fun _=>none) (cellsFrom (s.heap.objs.size+1) scope.names []) (bindC (envOfC qual scope s.heap.objs.size f cd).kindOf (ps.zip us) fun _=>none) s1) :
  Inv (El CX P w K mg base N qual scope f cd A outer s H E) [] (start N vs) H s1:=by
 have hpl:ps.length<=N.length:=by have:=congrArg List.length S.pre;rw[length_take] at this;lia
 obtain⟨h1,tk,rfl,hk⟩:=x.done;have noA:∀b:Addr,b∉(El CX P w K mg base N qual scope f cd A outer s H E).ex:=fun b z=>absurd (show b∈([]:List Addr) from z) (by simp);refine⟨⟨e0.mod,S.kind,rfl,rfl,Nat.le_refl _,fun y z c h1 h2=>?_,fun y hy=>?_,fun y c _ h=>?_,fun _=>hd,Around.frames_deeper e0.frames,.inr ⟨rfl,rfl⟩,fun b z=>absurd z (noA b),e0.bs,e0.bsz,fun b _ _=>noA b,fun b z=>absurd z (noA b),e0.funs,e0.frf⟩,
  rfl,e0.bare,Un.kept hk,⟨_,x.toInCall.ns,fun i y v h1 h2 h3=>?_⟩,fun y c h=>⟨_,x.cell y c h⟩,e0.hok.fresh (Nat.le_refl _),fun y c h=>?_,fun p hp=>absurd (show p∈([]:List (Addr × Obj)) from hp) (by simp),e0.hok.kept hk,?_⟩
 ·exact name_of_addr x.apart (PySem.mem_of_lookup h1) (PySem.mem_of_lookup h2)
 ·have hy:scope.names.lookup y=some .cell\/scope.names.lookup y=some .free:=hy;rcases hy with hy | hy
  ·exact Di hy
  ·exact absurd rfl (S.nofree _ (PySem.mem_of_lookup hy))
 ·exact Nat.le_of_lt (x.above y c (PySem.mem_of_lookup h))
 ·have hi:i < vs.length:=by
   unfold start at h2
   by_cases hi:i < vs.length
   ·exact hi
   ·rw[getElem?_append_right (by simpa using hi)] at h2;rw[getElem?_replicate] at h2;split at h2<;>cases h2
  have ha:vs[i]?=some v:=by
   unfold start at h2;rw[getElem?_append_left (by simpa using hi),getElem?_map] at h2
   cases e:vs[i]? with
   |none=>rw[e] at h2;cases h2
   |some a=>rw[e] at h2;cases h2;rfl
  obtain⟨u,hu,rv⟩:=r.get ha;have hp:ps[i]?=some y:=by
   rw[<- S.pre,getElem?_take_of_lt (by lia)];exact h1
  have ndP:ps.Nodup:=by rw[<- S.pre];exact S.nd.sublist (take_sublist _ _)
  refine⟨u,rv,?_⟩;rcases S.par y (mem_of_getElem? hp) with k | k
  ·exact .inl ⟨k,yM ndP hp hu k⟩
  ·obtain⟨c,e⟩:=Di (n:=s.heap.objs.size+1) k;refine .inr ⟨.inl k,c,e,?_⟩;have q:=x.cell y c e;rw[yV ndP hp hu (by show scope.names.lookup y≠_;rw[k];decide)] at q;exact q
 ·exact e0.hok.fresh (Nat.le_of_lt (x.above y c (PySem.mem_of_lookup h)))
 ·unfold start;show _=N.length;rw[length_append,length_map,length_replicate];lia
theorem qa6 {CX:CXT}{P:Program}{w:World}{K:Frag}{mg:Str->Option Value}{base:Heap}{k:Nat}{f:Addr}{name qual:Str}{params:Arguments}{body:List Stmt}{scope:Scope}{dV kV doc pm cdv ct oc:Value}{an od:Option Addr}{osl:Array (Option Value)}{N ps:List Str}{sp:Sp}(lk:K.lookup f=some ⟨oc,od,.func (W.fnOf name qual params body scope dV kV doc pm an cdv ct),osl⟩)(hcd:W.codeIn K cdv qual=true)(S:aT N ps scope)(len:∀vs H Q E,sp vs H Q E->vs.length=ps.length)(hbody:∀(A:Around) (outer:List Env) (s:Shared) (H:Hp) (vs:List V) (Q:VK) (E:XK),gR k (A.deeper (envOfC qual scope s.heap.objs.size f cdv))->sp vs H Q E->
   ∃t,PSs (El CX P w K mg base N qual scope f cdv A outer s H E) body t/\t { nx:=fun _ H'=>Q .non H',rt:=Q } (start N vs) H) :
  aP P w K mg base CX (k+1) f (W.fnOf name qual params body scope dV kV doc pm an cdv ct) ps sp:=by
 refine⟨len,fun A outer s H args us vs Q E hr e0 hb r hsp=>?_⟩;have hl:=len _ _ _ _ hsp;have KX:K.In s.heap:=e0.mod.kin.keeps fun b o e=>(e0.bs b o e).1;have lim:s.heap.NoLimit:=e0.mod.nolimit.keeps fun b o e=>(e0.bs b o e).1;have hkind:∀y∈ps.zip us,scope.names.lookup y.1=some .local\/(scope.names.lookup y.1=some .cell/\((cellsFrom (s.heap.objs.size+1) scope.names []).lookup y.1).isSome=true):=fun ⟨n,v⟩ hy=>by
  rcases S.par n (of_mem_zip hy).1 with q | q
  ·exact .inl q
  ·exact .inr ⟨q,W.cellsFrom_some _ _ _ (.inl q)⟩
 refine codeAny_call_function hr.depth (KX _ _ lk) rfl S.co S.gen rfl (W.codeRec_of KX hcd) (hb _ _ _ _ ?_);refine wpAny_newFunctionEnv_cells S.kind hkind fun env he s1 x=>?_;subst he;refine⟨lim.keeps x.toInCall.keep,codeAny_func ?_⟩;obtain⟨t,ht,hq⟩:=hbody A outer s H vs Q E (hr.deeper _) hsp;have I:Inv (El CX P w K mg base N qual scope f cdv A outer s H E) [] (start N vs) H s1:=Jm S hr.hd e0 hl r x;refine wpAny_mono (ht [] s1 (start N vs) H _ I hq) (fun fl s' hs=>?_) fun e s' hs=>hs;have fin:∀{σ':St} {H':Hp} {v:V} {u:Value},Inv (El CX P w K mg base N qual scope f cdv A outer s H E) [] σ' H' s'->cH v u->Q v H'->CE outer P w H s Q u s':=
  fun {σ' H' v u} J rv q=>⟨v,H',J.os,J.bare,J.base,J.hok,rv,q⟩
 cases fl with
 |ret u=>
  obtain⟨v,σ',H',J,rv,q⟩:=hs;exact fin J rv q
 |next=>
  obtain⟨σ',H',J,q⟩:=hs;exact fin (v:=V.non) (u:=Value.none) J rfl q
 |brk=>
  obtain⟨_,_,_,q⟩:=hs;exact False.elim q
 |cont=>
  obtain⟨_,_,_,q⟩:=hs;exact False.elim q
section
variable {X:Cx} {x:Str} {p pos:Pos} {e:Expr} {es:List Expr} {t:TA} {id T:String} {r:List V->Hp->VK->Prop}
def tCB (r:List V->Hp->VK->Prop)(t:TA):TE:=fun σ H Q=>t σ H fun vs H1=>r vs H1 Q
theorem cI (hc:vS X (.builtin id) r)(hg:Gl X x)(hm:X.mg x=none)(hv:bootBuiltins x=some (.builtin id))(ha:PA X (e :: es) t)(hn:x≠"__name__":=by decide)(hdb:(x == ("__debug__":Str))=false:=by decide)(he:starEach (e :: es) X.env=(false,eval e X.env) :: starEach es X.env:=by rfl)(hpl:(backTo pos (starEach es X.env)).any (·.1)=false:=by rfl):PE X (.Call (.Name x p) (e :: es) [] pos) (tCB r t):=by
 intro pins s σ H Q I h;refine wpAny_Call_Name_kw (jY I hg hm hv ?_ hn hdb);exact PyProof.Rows.callWith_builtin1 (thn (ha pos pins s σ H _ I h) fun us s1 ⟨vs,H1,I1,r1,q1⟩=>hc pins s1 σ H1 vs us Q I1 r1 q1) he hpl
theorem gA (hc:vS X (.type T) r)(hg:Gl X x)(hm:X.mg x=none)(hv:bootBuiltins x=some (.type T))(ha:PA X (e :: es) t)(hn:x≠"__name__":=by decide)(hdb:(x == ("__debug__":Str))=false:=by decide)(he:starEach (e :: es) X.env=(false,eval e X.env) :: starEach es X.env:=by rfl)(hpl:(backTo pos (starEach es X.env)).any (·.1)=false:=by rfl):PE X (.Call (.Name x p) (e :: es) [] pos) (tCB r t):=by
 intro pins s σ H Q I h;refine wpAny_Call_Name_kw (jY I hg hm hv ?_ hn hdb);exact PyProof.Rows.callWith_type1 (thn (ha pos pins s σ H _ I h) fun us s1 ⟨vs,H1,I1,r1,q1⟩=>hc pins s1 σ H1 vs us Q I1 r1 q1) he hpl
end
end L2
namespace HT
open PySem PyProof.Rows
section
variable {prog:Program} {w:World} {A:Around} {E:Value->Shared->Prop} {s:Shared}
theorem cat_tup {t b:Addr}{vs ws:List Value}{Q:Value->Shared->Prop}(ht:IsTup s.heap t vs.toArray)(hb:IsTup s.heap b ws.toArray)(hv:vs≠[])(h1:ws=[]->Q (.ref t) s)(h2:ws≠[]->Q (.ref s.heap.objs.size) { s with heap:=s.heap.push { cls:=.type "tuple",data:=.seq (vs++ws).toArray } })(hsz:vs.length+ws.length<=sizeLine):wpAny (model prog w) A (binaryOp .Add (.ref t) (.ref b)) Q E s:=by
 obtain⟨⟨cls,dd,data,sl⟩,ho,hc,n,hd⟩:=id ht;obtain⟨⟨cls2,dd2,data2,sl2⟩,ho2,hc2,n2,hd2⟩:=id hb;simp only at hc hd hc2 hd2;subst hc hd hc2 hd2;have e:vs.toArray++ws.toArray=(vs++ws).toArray:=by simp
 by_cases hw:ws=[]
 ·exact concat_meets ⟨_,ho,rfl⟩ ⟨_,ho2,rfl⟩ noFill_tuple_add seq_tuple_add PySem.F.slot_tuple_add PySem.F.entry_tuple_add (PySem.F.args_tuple_add_2 _ _)
   (tuple_addW1 t b vs.toArray ws.toArray n n2 dd dd2 sl sl2 (by simpa using hv) (by simp[hw])) ⟨ho,ho2,h1 hw⟩
 ·refine concat_meets ⟨_,ho,rfl⟩ ⟨_,ho2,rfl⟩ noFill_tuple_add seq_tuple_add PySem.F.slot_tuple_add PySem.F.entry_tuple_add (PySem.F.args_tuple_add_2 _ _)
   (tuple_addW2 t b vs.toArray ws.toArray n n2 dd dd2 sl sl2 (by simpa using hv) (by simpa using hw) (by rw[size_toArray,size_toArray];exact hsz)) ⟨ho,ho2,?_⟩
  rw[e];exact h2 hw
def sIx (n d:Nat):Option Int->Nat
 |none=>d
 |some v=>if v < 0 then (v+(n:Int)).toNat else min v.toNat n
theorem Yr (n d:Nat)(hd:d<=n)(o:Option Int):sIx n d o<=n:=by
 cases o with
 |none=>exact hd
 |some v=>
  show (if v < 0 then (v+(n:Int)).toNat else min v.toNat n)<=n
  by_cases hv:v < 0
  ·rw[if_pos hv];lia
  ·rw[if_neg hv];exact Nat.min_le_right _ _
theorem Hg (v:Int)(n d:Nat):(if v < 0 then max (v+(n:Int)) 0 else min v (n:Int))=((sIx n d (some v):Nat):Int):=by
 show (if v < 0 then max (v+(n:Int)) 0 else min v (n:Int))=(((if v < 0 then (v+(n:Int)).toNat else min v.toNat n):Nat):Int)
 by_cases hv:v < 0
 ·simp only[if_pos hv];lia
 ·simp only[if_neg hv];lia
theorem Fc (lo hi:Option Int)(n:Nat):Builtin.Slice.sliceAdjust lo hi 1 (n:Int)=(((sIx n 0 lo:Nat):Int),((sIx n n hi:Nat):Int)):=by
 have h1:¬((1:Int) < 0):=by lia
 unfold Builtin.Slice.sliceAdjust;simp only[h1,if_false];refine Prod.ext ?_ ?_
 ·cases lo with
  |none=>rfl
  |some v=>exact Hg v n 0
 ·cases hi with
  |none=>rfl
  |some v=>exact Hg v n n
theorem Fj (i j:Nat):Builtin.Slice.slicePlaces (i:Int) (j:Int) 1=j - i:=by
 unfold Builtin.Slice.slicePlaces;have h1:(1:Int) > 0:=by lia
 simp only[h1,if_true,Int.ediv_one];split<;>lia
theorem uH {v:Value}{o:Option Int}{Q:Option Int->Shared->Prop}(p:IsPart v o)(h:Q o s):wpAny (model prog w) A (Builtin.Slice.slicePartIndex v) Q E s:=by
 cases p with
 |none=>exact slicePart_none h
 |int i t=>exact slicePart_int h
theorem qE {sl:Addr}{vl vu:Value}{lo hi:Option Int}{n:Nat}{Q:Int × Int × Nat->Shared->Prop}(hs:s.heap.IsSliceOf sl vl vu .none)(pl:IsPart vl lo)(pu:IsPart vu hi)(h:Q (((sIx n 0 lo:Nat):Int),1,sIx n n hi - sIx n 0 lo) s):wpAny (model prog w) A (Builtin.Slice.sliceApplied (.ref sl) (pure (n:Int))) Q E s:=by
 obtain⟨os,hos,hcs,hds⟩:=id hs;unfold Builtin.Slice.sliceApplied Builtin.Slice.sliceFields;refine wpAny_bind (wpAny_bind (wpAny_field hos hds (x:=vl) rfl (wpAny_bind (wpAny_field hos hds (x:=vu) rfl (wpAny_bind (wpAny_field hos hds (x:=.none) rfl (wpAny_pure ?_)))))));refine wpAny_bind (slicePart_none ?_);show wpAny _ _ (if ((1:Int) == 0)=true then _ else _) _ _ s;rw[if_neg (by decide)];refine wpAny_bind (uH pl (wpAny_bind (uH pu (wpAny_bind (wpAny_pure ?_)))));show wpAny _ _ (match Builtin.Slice.sliceAdjust lo hi 1 (n:Int) with | (lo,hi)=>pure (lo,(1:Int),Builtin.Slice.slicePlaces lo hi 1)) _ _ s;rw[Fc lo hi n];show wpAny _ _ (pure (((sIx n 0 lo:Nat):Int),(1:Int),Builtin.Slice.slicePlaces ((sIx n 0 lo:Nat):Int) ((sIx n n hi:Nat):Int) 1)) _ _ s;rw[Fj];exact wpAny_pure h
theorem Qm (xs:Array Value)(i k:Nat):((range k).filterMap fun (m:Nat)=>xs[((i:Int)+(m:Int)*1).toNat]?).toArray=((xs.toList.drop i).take k).toArray:=by
 have e:(fun (m:Nat)=>xs[((i:Int)+(m:Int)*1).toNat]?)=fun m=>xs[i+m]?:=by
  funext m
  have:((i:Int)+(m:Int)*1).toNat=i+m:=by lia
  rw[this]
 rw[e];have:=pick_run xs i k;rw[filterMap_map] at this;have e2:((fun x=>xs[x]?) ∘ fun x=>i+x)=fun m=>xs[i+m]?:=rfl;rw[e2] at this;rw[this]
theorem getItem_tuple_cut {t sl:Addr}{items:Array Value}{vl vu:Value}{lo hi:Option Int}{Q:Value->Shared->Prop}(ht:IsTup s.heap t items)(hs:s.heap.IsSliceOf sl vl vu .none)(pl:IsPart vl lo)(pu:IsPart vu hi)(hw:¬(sIx items.size 0 lo=0/\sIx items.size items.size hi=items.size))(h:Q (.ref s.heap.objs.size) { s with heap:=s.heap.push { cls:=.type "tuple",data:=.seq ((items.toList.drop (sIx items.size 0 lo)).take (sIx items.size items.size hi - sIx items.size 0 lo)).toArray } })(hsz:items.size<=sizeLine):wpAny (model prog w) A (getItem (.ref t) (.ref sl)) Q E s:=by
 have htake:sizeOk (.seq ((items.toList.drop (sIx items.size 0 lo)).take (sIx items.size items.size hi - sIx items.size 0 lo)).toArray):=by
  show ((items.toList.drop (sIx items.size 0 lo)).take (sIx items.size items.size hi - sIx items.size 0 lo)).toArray.size<=sizeLine;rw[size_toArray,length_take,length_drop,Array.length_toList];lia
 have hj:sIx items.size items.size hi<=items.size:=Yr _ _ (Nat.le_refl _) hi;obtain⟨os,hos,hcs,hds⟩:=id hs;have hTs:s.TypeIs (.ref sl) "slice":=⟨os,hos,hcs⟩
 unfold getItem
 try with_reducible refine wpAny_holding ?_
 first | refine wpAny_bind (wpAny_pure ?_) | skip
 refine wpAny_bind (wpAny_sequenceKey ht.typeIs (by decide) ?_);refine wpAny_bind (wpAny_callSpecial?_slot (name:=Str.ofString "__getitem__") ht.typeIs PyProof.Rows.slot_tuple_getitem
  (wpAny_call_entry PyProof.Rows.slot_tuple_getitem ht.typeIs entry_tuple_getitem ?_ (args_tuple_getitem _ _)))
 show wpAny _ _ (Builtin.Tuple.tupleItemsOf (.ref t) >>= _) _ _ s;refine wpAny_bind (tupleItemsOf_ ht ?_);refine wpAny_bind (wpAny_typeOf hTs ?_);rw[if_pos (by decide)];refine wpAny_bind (qE hs pl pu ?_);have hno:¬((((sIx items.size 0 lo:Nat):Int) == 0 && (1:Int) == 1 && (sIx items.size items.size hi - sIx items.size 0 lo) == items.size)=true):=by
  intro q;rw[Bool.and_eq_true,Bool.and_eq_true] at q;have q1:((sIx items.size 0 lo:Nat):Int)=0:=eq_of_beq q.1.1;have q2:sIx items.size items.size hi - sIx items.size 0 lo=items.size:=eq_of_beq q.2;exact hw ⟨by lia,by lia⟩
 show wpAny _ _ (if (((sIx items.size 0 lo:Nat):Int) == 0 && (1:Int) == 1 && (sIx items.size items.size hi - sIx items.size 0 lo) == items.size)=true then _ else _) _ _ s;rw[if_neg hno,Qm]
 first
  |exact wpAny_bind (m:=Builtin.Tuple.tupleExact _) (wpAny_newObj_type (wpAny_pure ⟨_,rfl,wpAny_pure h⟩) htake)
  |exact wpAny_bind (m:=Builtin.Tuple.tupleExact _) (wpAny_newObj_type (wpAny_bind (wpAny_pure (wpAny_pure ⟨_,rfl,wpAny_pure h⟩))) htake)
  |exact wpAny_bind (wpAny_bind (m:=Builtin.Tuple.tupleExact _) (wpAny_newObj_type (wpAny_pure (wpAny_pure ⟨_,rfl,wpAny_pure h⟩)) htake))
  |exact wpAny_bind (wpAny_bind (m:=Builtin.Tuple.tupleExact _) (wpAny_newObj_type (wpAny_pure ⟨_,rfl,wpAny_pure h⟩) htake))
end
end HT
namespace L2
open PySem PySem.Spec PyProof.Rows
abbrev TO:=St->Hp->(Option Int->Hp->Prop)->Prop
def PO (X:Cx)(e:Option Expr)(t:TO):Prop:=
 ∀(pins:List (Addr × Obj)) (s:Shared) (σ:St) (H:Hp) (Q:Option Int->Hp->Prop),Inv X pins σ H s->t σ H Q->
  wpAny (model X.prog X.w) X.A (evalPart e X.env) (fun u s'=>∃o H',Inv X pins σ H' s'/\IsPart u o/\Q o H') X.xe s
def Tz:TO:=fun _ H Q=>Q none H
def qb9 (t:TE):TO:=fun σ H Q=>t σ H fun x H1=>∃i,x=.int i/\Q (some i) H1
section
variable {X:Cx} {e:Expr} {te:TE} {lo hi:Option Expr} {tl th:TO} {pos p2:Pos}
theorem iM:PO X none Tz:=by
 intro pins s σ H Q I h;rw[evalPart_none];exact wpAny_pure ⟨none,H,I,.none,h⟩
theorem fY (h:PE X e te):PO X (some e) (qb9 te):=by
 intro pins s σ H Q I hw;rw[evalPart_some];refine thn (h pins s σ H _ I hw) fun u s1 ⟨x,H1,I1,r1,q1⟩=>?_;obtain⟨i,rfl,q⟩:=q1;obtain⟨t,rfl⟩:=r1;exact⟨some i,H1,I1,.int i t,q⟩
def SlR (X:Cx)(r:V->Option Int->Option Int->Hp->VK->Prop):Prop:=
 ∀(pins:List (Addr × Obj)) (s:Shared) (σ:St) (H:Hp) (x:V) (v vl vu:Value) (lo hi:Option Int) (sl:Addr) (Q:VK),Inv X pins σ H s->cH x v->s.heap.IsSliceOf sl vl vu .none->IsPart vl lo->IsPart vu hi->r x lo hi H Q->
  ∃T id,typeLookup (.type T) "__getitem__"=pure (some (.builtin id))/\s.TypeIs v T/\wpAny (model X.prog X.w) X.A (getItem v (.ref sl)) (EP X pins σ Q) X.xe s
def tSl (r:V->Option Int->Option Int->Hp->VK->Prop)(te:TE)(tl th:TO):TE:=fun σ H Q=>te σ H fun x H1=>tl σ H1 fun l H2=>th σ H2 fun u H3=>r x l u H3 Q
theorem fI {r:V->Option Int->Option Int->Hp->VK->Prop}(hr:SlR X r)(he:PE X e te)(hl:PO X lo tl)(hu:PO X hi th):PE X (.Subscript e (.Slice lo hi none p2) pos) (tSl r te tl th):=by
 intro pins s σ H Q I h;refine Subscript_ (thn (he pins s σ H _ I h) fun v s1 ⟨x,H1,I1,r1,q1⟩=>?_);refine wpAny_Slice (thn (hl pins s1 σ H1 _ I1 q1) fun vl s2 ⟨l,H2,I2,pl,q2⟩=>thn (hu pins s2 σ H2 _ I2 q2) fun vu s3 ⟨u,H3,I3,pu,q3⟩=>?_);rw[evalPart_none];refine wpAny_pure ?_;have I4:Inv X pins σ H3 { s3 with heap:=s3.heap.push { cls:=.type "slice",data:=.fields #[vl,vu,.none] } }:=I3.kept (t':=s3.toks) fun b ob q=>Heap.get?_push_of_some _ q;obtain⟨T,id,hT,ht,hg⟩:=hr pins { s3 with heap:=s3.heap.push { cls:=.type "slice",data:=.fields #[vl,vu,.none] } } σ H3 x v vl vu l u s3.heap.objs.size Q I4 r1 (Heap.IsSliceOf.new ..) pl pu q3;show wpAny (model X.prog X.w) X.A (subscriptTail e (.Slice lo hi none p2) v (.ref s3.heap.objs.size)) (EP X pins σ Q) X.xe { s3 with heap:=s3.heap.push { cls:=.type "slice",data:=.fields #[vl,vu,.none] } };exact tail_any (ops:=[.ref s3.heap.objs.size,v]) ht hT hg (by with_unfolding_all rfl)
def kK (xs:List V)(lo hi:Option Int):List V:=(xs.drop (HT.sIx xs.length 0 lo)).take (HT.sIx xs.length xs.length hi - HT.sIx xs.length 0 lo)
theorem rH (xs:List V)(lo hi:Option Int):(kK xs lo hi).length<=xs.length:=by
 unfold kK;exact Nat.le_trans (length_take_le' _ _) (by rw[length_drop];exact Nat.sub_le _ _)
def qd7 (K:Frag):V->Option Int->Option Int->Hp->VK->Prop:=fun x lo hi H Q=>∃a xs,x=.ref a/\SqT K H a xs/\
 ¬(HT.sIx xs.length 0 lo=0/\HT.sIx xs.length xs.length hi=xs.length)/\∀p,H p=none->Q (.ref p) (upd H p (.tup (kK xs lo hi)))
theorem Wq:SlR X (qd7 X.K):=by
 intro pins s σ H x v vl vu lo hi sl Q I rx hs pl pu h;obtain⟨a,xs,rfl,hx,hw,q⟩:=h
 cases rx
 obtain⟨its,r,ht,hz⟩:=I.tuple hx;have hlen:its.toArray.size=xs.length:=by rw[size_toArray];exact r.length.symm
 refine⟨"tuple",_,PyProof.Rows.slot_tuple_getitem.lookup,ht.typeIs,?_⟩;refine HT.getItem_tuple_cut ht hs pl pu (by rw[hlen];exact hw) ?_ (by rw[hlen];exact hz);rw[hlen];refine⟨.ref s.heap.objs.size,_,I.laid (t':=s.toks) (o:=.tup (kK xs lo hi)) (fun b ob q=>Heap.get?_push_of_some _ q) (Nat.le_refl _) ?_,rfl,q _ (I.hok.fresh (Nat.le_refl _))⟩;exact⟨Nat.le_trans (rH xs lo hi) hz,_,(r.drop (HT.sIx xs.length 0 lo)).take (HT.sIx xs.length xs.length hi - HT.sIx xs.length 0 lo),IsTup.new _ _⟩
def qb8 (K:Frag):R2:=fun x y H Q=>∃a b xs ys,x=.ref a/\y=.ref b/\SqT K H a xs/\SqT K H b ys/\xs≠[]/\xs.length+ys.length<=sizeLine/\
 (ys=[]->Q (.ref a) H)/\(ys≠[]->∀p,H p=none->Q (.ref p) (upd H p (.tup (xs++ys))))
theorem cB.nil_iff {xs:List V}{us:List Value}(r:cB xs us):us=[]↔xs=[]:=by
 cases r with
 |nil=>simp
 |cons _ _=>simp
theorem Sr:OpR X (binaryOp .Add) (qb8 X.K):=by
 intro pins s σ H x y v u Q I rx ry h;obtain⟨a,b,xs,ys,rfl,rfl,ha,hb,hx,hz,q1,q2⟩:=h
 cases rx
 cases ry
 obtain⟨its,r1,p1,_⟩:=I.tuple ha;obtain⟨its2,r2,p2,_⟩:=I.tuple hb;refine HT.cat_tup p1 p2 (fun z=>hx (r1.nil_iff.mp z)) (fun z=>⟨.ref a,H,I,rfl,q1 (r2.nil_iff.mp z)⟩) (fun z=>?_) (by rw[<- r1.length,<- r2.length];exact hz);refine⟨.ref s.heap.objs.size,_,I.laid (t':=s.toks) (o:=.tup (xs++ys)) (fun b ob q=>Heap.get?_push_of_some _ q) (Nat.le_refl _) ?_,rfl,q2 (fun w=>z (r2.nil_iff.mpr w)) _ (I.hok.fresh (Nat.le_refl _))⟩;exact⟨by rw[length_append];exact hz,_,r1.append r2,IsTup.new _ _⟩
end
def ixN (n:Nat)(i:Int):Option Nat:=if 0<=i then (if i < n then some i.toNat else none) else if -(n:Int)<=i then some (i+n).toNat else none
def atI {α:Type}(xs:List α)(i:Int):Option α:=(ixN xs.length i).bind fun j=>xs[j]?
theorem Gm {n:Nat}{i:Int}{j:Nat}(h:ixN n i=some j):seqIndex? i n=some j/\j < n/\-(n:Int)<=i/\i < n:=by
 unfold ixN at h
 by_cases h0:0<=i
 ·rw[if_pos h0] at h
  by_cases h1:i < n
  ·rw[if_pos h1] at h;have e:i.toNat=j:=Option.some.inj h;exact⟨by rw[seqIndex_of h0 h1,e],by lia,by lia,h1⟩
  ·rw[if_neg h1] at h;cases h
 ·rw[if_neg h0] at h
  by_cases h1:-(n:Int)<=i
  ·rw[if_pos h1] at h;have e:(i+n).toNat=j:=Option.some.inj h;exact⟨by rw[seqIndex_neg (by lia) h1,e],by lia,h1,by lia⟩
  ·rw[if_neg h1] at h;cases h
theorem Gh {α:Type}{xs:List α}{i:Int}{v:α}(h:atI xs i=some v):∃j,seqIndex? i xs.length=some j/\xs[j]?=some v/\j < xs.length/\-(xs.length:Int)<=i/\i < xs.length:=by
 unfold atI at h
 cases e:ixN xs.length i with
 |none=>rw[e] at h;cases h
 |some j=>
  rw[e] at h;obtain⟨h1,h2,h3,h4⟩:=Gm e;exact⟨j,h1,h,h2,h3,h4⟩
theorem cL {α:Type}{xs:List α}{j:Nat}{v:α}(h:xs[j]?=some v):atI xs (j:Int)=some v:=by
 have hj:j < xs.length:=(List.getElem?_eq_some_iff.mp h).1;have e:ixN xs.length (j:Int)=some j:=by
  unfold ixN;rw[if_pos (by lia),if_pos (by lia)];simp
 unfold atI;rw[e];exact h
def Sh (b:Expr):Prop:=∀o i,subscripted b false o i=operate [o,i] (getItem o i)
def IxR (X:Cx)(r:R2):Prop:=
 ∀(value slice:Expr) (pins:List (Addr × Obj)) (s:Shared) (σ:St) (H:Hp) (x y:V) (v u:Value) (Q:VK),Inv X pins σ H s->cH x v->cH y u->r x y H Q->
  subscripted slice false v u=operate [v,u] (getItem v u)->wpAny (model X.prog X.w) X.A (subscriptTail value slice v u) (EP X pins σ Q) X.xe s
def MtR (X:Cx)(id:String)(r:V->List V->Hp->VK->Prop):Prop:=
 ∀(pins:List (Addr × Obj)) (s:Shared) (σ:St) (H:Hp) (x:V) (xs:List V) (v:Value) (us:List Value) (Q:VK),Inv X pins σ H s->cH x v->cB xs us->r x xs H Q->
  wpAny (model X.prog X.w) X.A (call (.builtin id) (v :: us)) (EP X pins σ Q) X.xe s
section
variable {X:Cx} {a b:Expr} {ta tb:TE} {pos:Pos}
theorem aW {r:R2}(hr:IxR X r)(ha:PE X a ta)(hb:PE X b tb)(hs:Sh b):PE X (.Subscript a b pos) (tOp r ta tb):=by
 intro pins s σ H Q I h;exact Subscript_ (Yk ha hb I h fun v u s2 x y H2 I2 rx ry q=>hr a b pins s2 σ H2 x y v u Q I2 rx ry q (hs _ _))
def Zq (K:Frag):R2:=fun x y H Q=>∃p xs i v,x=.ref p/\y=.int i/\SqL K H p xs/\atI xs i=some v/\Q v H
def Td (K:Frag):R2:=fun x y H Q=>∃p xs i v,x=.ref p/\y=.int i/\SqT K H p xs/\atI xs i=some v/\Q v H
theorem bX:IxR X (Zq X.K):=by
 intro value slice pins s σ H x y v u Q I rx ry h hs;obtain⟨p,xs,i,z,rfl,rfl,hq,he,q⟩:=h
 cases rx
 obtain⟨t,rfl⟩:=ry;obtain⟨its,r,pl,hz⟩:=I.list hq;obtain⟨j,h1,h2,h3,h4,h5⟩:=Gh he;obtain⟨w,ew,rw'⟩:=r.get h2;have hl:=r.length;have hn:=Bg;have fin:EP X pins σ Q w s:=⟨z,H,I,rw',q⟩
 by_cases h0:0<=i
 ·have hj:i.toNat=j:=by
   rw[seqIndex_of h0 h5] at h1;exact Option.some.inj h1
  exact item_listR pl.isList h0 (by lia) (by rw[hj];simpa using ew) fin hs
 ·have hj:(i+(its.toArray.size:Int)).toNat=j:=by
   rw[seqIndex_neg (by lia) h4] at h1;rw[size_toArray,<- hl];exact Option.some.inj h1
  exact subscriptTail_builtinR (x:=w) pl.isList.typeIs slot_list_getitem.lookup
   (wpAny_getItem_list_neg (Q:=fun r s'=>r=w/\EP X pins σ Q r s') pl.isList (by lia) (by rw[size_toArray]<;>lia) (by lia) (by rw[hj];simpa using ew) ⟨rfl,fin⟩) hs
theorem bA:IxR X (Td X.K):=by
 intro value slice pins s σ H x y v u Q I rx ry h hs;obtain⟨p,xs,i,z,rfl,rfl,hq,he,q⟩:=h
 cases rx
 obtain⟨t,rfl⟩:=ry;obtain⟨its,r,pl,hz⟩:=I.tuple hq;obtain⟨j,h1,h2,h3,h4,h5⟩:=Gh he;obtain⟨w,ew,rw'⟩:=r.get h2;have hl:=r.length;have hn:=Bg;have fin:EP X pins σ Q w s:=⟨z,H,I,rw',q⟩
 exact subscriptTail_builtinR (x:=w) pl.typeIs slot_tuple_getitem.lookup
  (getItem_tuple (j:=j) (Q:=fun r s'=>r=w/\EP X pins σ Q r s') pl (by lia) (by lia) (by rw[size_toArray,<- hl];exact h1) (by simpa using ew) ⟨rfl,fin⟩) hs
theorem Fu (its:List Value)(n j:Nat)(u:Value):Obj.mapSeq (·.setIfInBounds j u) { cls:=.type "list",data:=.seq its.toArray n }={ cls:=.type "list",data:=.seq (its.set j u).toArray n }:=by
 simp[Obj.mapSeq]
theorem Inv.lst {pins:List (Addr × Obj)}{σ:St}{H:Hp}{s:Shared}{p:Addr}{xs:List V}(I:Inv X pins σ H s)(h:H p=some (.lst xs)) :
  ∃(its:List Value) (n:Nat),cB xs its/\s.heap.get? p=some { cls:=.type "list",data:=.seq its.toArray n }/\xs.length<=sizeLine:=by
 obtain⟨z,its,n,r,e⟩:=I.hok p _ h;exact⟨its,n,r,e,z⟩
theorem Inv.lstUpd {pins:List (Addr × Obj)}{σ:St}{H:Hp}{s:Shared}{p:Addr}{xs ys:List V}{its its':List Value}{n n':Nat}{f:Obj->Obj}(I:Inv X pins σ H s)(h:H p=some (.lst xs))(ho:s.heap.get? p=some { cls:=.type "list",data:=.seq its.toArray n })(hf:f { cls:=.type "list",data:=.seq its.toArray n }={ cls:=.type "list",data:=.seq its'.toArray n' })(r:cB ys its')(hz:ys.length<=sizeLine)(t:Nat) :
  Inv X pins σ (upd H p (.lst ys)) { s with heap:=s.heap.update p f,toks:=t }:=by
 have e:(s.heap.update p f).get? p=some { cls:=.type "list",data:=.seq its'.toArray n' }:=by
  rw[Heap.get?_update_self f ho (by rw[hf]<;>rfl),hf]
 refine I.write (x:=p) (e:=p) (by rw[h];trivial) (.inl rfl) (fun b u hb q=>(Heap.get?_update_other _ _ (Ne.symm hb)).trans q) ⟨_,e⟩ ?_;exact⟨hz,its',n',r,e⟩
def Zg:V->V->V->Hp->(Hp->Prop)->Prop:=fun o i v H Q=>∃p xs k j,o=.ref p/\i=.int k/\H p=some (.lst xs)/\ixN xs.length k=some j/\Q (upd H p (.lst (xs.set j v)))
theorem jC:qc3 X Zg:=by
 intro pins s σ H o i v ov iv u Q I ro ri rv h;obtain⟨p,xs,k,j,rfl,rfl,hp,hj,q⟩:=h
 cases ro
 obtain⟨t,rfl⟩:=ri;obtain⟨its,n,r,ho,hz⟩:=I.lst hp;obtain⟨h1,h2,h3,h4⟩:=Gm hj;have hl:=r.length;have hn:=Bg;have I':Inv X pins σ (upd H p (.lst (xs.set j v))) { s with heap:=s.heap.update p (Obj.mapSeq (·.setIfInBounds j u)) }:=
  I.lstUpd hp ho (Fu its n j u) (r.set rv j) (by rw[length_set];exact hz) s.toks
 by_cases h0:0<=k
 ·have hk:k.toNat=j:=by
   rw[seqIndex_of h0 h4] at h1;exact Option.some.inj h1
  exact W.ki_setAt ho h0 (by lia) (by rw[size_toArray,<- hl];exact h4) (by rw[hk];exact⟨_,I',q⟩)
 ·have hk:(k+(its.toArray.size:Int)).toNat=j:=by
   rw[seqIndex_neg (by lia) h3] at h1;rw[size_toArray,<- hl];exact Option.some.inj h1
  exact W.ki_setBack ho (by lia) (by rw[size_toArray,<- hl];exact h3) (by lia) (by rw[hk];exact⟨_,I',q⟩)
theorem sbA (lo hi:Option Int)(n:Nat):(sliceBounds lo hi none n).1=((HT.sIx n 0 lo:Nat):Int):=by
 cases lo with
 |none=>simp[sliceBounds,HT.sIx]
 |some i=>
  simp only[sliceBounds,HT.sIx,Option.getD_none,show (1:Int) > 0 by decide,if_true]
  by_cases h:i < 0
  ·simp only[h,if_true]<;>lia
  ·simp only[h,if_false]<;>lia
theorem zJ (lo hi:Option Int)(n:Nat):(sliceBounds lo hi none n).1=((HT.sIx n 0 lo:Nat):Int)/\(sliceBounds lo hi none n).2.1=((HT.sIx n n hi:Nat):Int)/\(sliceBounds lo hi none n).2.2=1:=by
 refine⟨sbA lo hi n,?_,rfl⟩
 cases hi with
 |none=>simp[sliceBounds,HT.sIx]
 |some i=>exact sbA (some i) lo n
theorem wI (its:List Value)(lo hi:Option Int):slicePick its.toArray lo hi none=((its.drop (HT.sIx its.length 0 lo)).take (HT.sIx its.length its.length hi - HT.sIx its.length 0 lo)).toArray:=by
 obtain⟨h1,h2,h3⟩:=zJ lo hi its.toArray.size;unfold slicePick;rw[h1,h2,h3];simp only[sliceRange_one,pick_run,size_toArray]<;>rfl
def qb7 (K:Frag):V->Option Int->Option Int->Hp->VK->Prop:=fun x lo hi H Q=>∃a xs,x=.ref a/\SqL K H a xs/\∀p,H p=none->Q (.ref p) (upd H p (.lst (kK xs lo hi)))
theorem iB:SlR X (qb7 X.K):=by
 intro pins s σ H x v vl vu lo hi sl Q I rx hs pl pu h;obtain⟨a,xs,rfl,hx,q⟩:=h
 cases rx
 obtain⟨its,r,ht,hz⟩:=I.list hx;have hlen:=r.length;refine⟨"list",_,slot_list_getitem.lookup,ht.isList.typeIs,?_⟩;refine wpAny_getItem_list_slice ht.isList hs pl pu .none (by simp) ?_ (by rw[size_toArray]<;>lia);rw[wI,<- hlen];refine⟨.ref s.heap.objs.size,_,I.laid (t':=s.toks) (o:=.lst (kK xs lo hi)) (fun b ob q=>Heap.get?_push_of_some _ q) (Nat.le_refl _) ?_,rfl,q _ (I.hok.fresh (Nat.le_refl _))⟩;exact⟨Nat.le_trans (rH xs lo hi) hz,_,0,(r.drop (HT.sIx xs.length 0 lo)).take (HT.sIx xs.length xs.length hi - HT.sIx xs.length 0 lo),Heap.get?_push_size _ rfl⟩
def nH:V->Bool
 | .non=>true
 | .bl _=>true
 | .int _=>true
 | .str _=>true
 |_=>false
def eqV:V->V->Bool
 | .non,.non=>true
 | .bl a,.bl b=>a == b
 | .bl a,.int b=>(if a then 1 else 0) == b
 | .int a,.bl b=>a == (if b then 1 else 0)
 | .int a,.int b=>a == b
 | .str a,.str b=>a == b
 |_,_=>false
theorem Xu {A:Around}{s:Shared}{y x:V}{u v:Value}(ry:cH y u)(rx:cH x v)(fy:nH y=true)(fx:nH x=true):SeqAt.EqAt A s u v (eqV y x):=by
 cases y with
 |non=>
  cases ry
  cases x with
  |non=>cases rx;exact SeqAt.EqAt.same _
  |bl b=>cases rx;exact SeqAt.EqAt.none_bool b
  |int b=>obtain⟨t,rfl⟩:=rx;exact SeqAt.EqAt.none_int b t
  |str b=>obtain⟨t,rfl⟩:=rx;exact SeqAt.EqAt.none_str b t
  |_=>exact absurd (show false=true from fx) Bool.false_ne_true
 |bl a=>
  cases ry
  cases x with
  |non=>cases rx;exact SeqAt.EqAt.bool_none a
  |bl b=>cases rx;exact SeqAt.EqAt.bool_bool a b
  |int b=>obtain⟨t,rfl⟩:=rx;exact SeqAt.EqAt.bool_int a b t
  |str b=>obtain⟨t,rfl⟩:=rx;exact SeqAt.EqAt.bool_str a b t
  |_=>exact absurd (show false=true from fx) Bool.false_ne_true
 |int a=>
  obtain⟨t',rfl⟩:=ry
  cases x with
  |non=>cases rx;exact SeqAt.EqAt.int_none a t'
  |bl b=>cases rx;exact SeqAt.EqAt.int_bool a t' b
  |int b=>obtain⟨t,rfl⟩:=rx;exact SeqAt.EqAt.int_int a t' b t
  |str b=>obtain⟨t,rfl⟩:=rx;exact SeqAt.EqAt.int_str a t' b t
  |_=>exact absurd (show false=true from fx) Bool.false_ne_true
 |str a=>
  obtain⟨t',rfl⟩:=ry
  cases x with
  |non=>cases rx;exact SeqAt.EqAt.str_none a t'
  |bl b=>cases rx;exact SeqAt.EqAt.str_bool a t' b
  |int b=>obtain⟨t,rfl⟩:=rx;exact SeqAt.EqAt.str_int a t' b t
  |str b=>obtain⟨t,rfl⟩:=rx;exact SeqAt.EqAt.str_str a t' b t
  |_=>exact absurd (show false=true from fx) Bool.false_ne_true
 |_=>exact absurd (show false=true from fy) Bool.false_ne_true
def eqU (x:V)(u:Value):Bool:=match u with
 | .none=>eqV .non x
 | .bool b=>eqV (.bl b) x
 | .int i _=>eqV (.int i) x
 | .str z _=>eqV (.str z) x
 |_=>false
theorem Oh {x y:V}{u:Value}(r:cH y u)(f:nH y=true):eqU x u=eqV y x:=by
 cases y with
 |non=>cases r;rfl
 |bl b=>cases r;rfl
 |int i=>obtain⟨t,rfl⟩:=r;rfl
 |str z=>obtain⟨t,rfl⟩:=r;rfl
 |_=>exact absurd (show false=true from f) Bool.false_ne_true
theorem zW {x:V}:∀{xs:List V} {us:List Value},cB xs us->xs.all nH=true->us.any (eqU x)=xs.any fun y=>eqV y x
 |_,_,.nil,_=>rfl
 |y :: xs,u :: us,.cons r t,f=>by
  rw[all_cons,Bool.and_eq_true] at f;rw[any_cons,any_cons,Oh r f.1,zW t f.2]
theorem vG {A:Around}{s:Shared}{x:V}{v:Value}(rx:cH x v)(fx:nH x=true):∀{xs:List V} {us:List Value},cB xs us->xs.all nH=true->∀u∈us,SeqAt.EqAt A s u v (eqU x u)
 |_,_,.nil,_=>fun u hu=>by cases hu
 |y :: xs,u :: us,.cons r t,f=>fun u' hu=>by
  rw[all_cons,Bool.and_eq_true] at f;rcases mem_cons.mp hu with rfl | hu
  ·rw[Oh r f.1];exact Xu r rx f.1 fx
  ·exact vG rx fx t f.2 u' hu
def inV (x:V)(xs:List V):Bool:=xs.any fun y=>eqV y x
def rIn (K:Frag)(neg:Bool):R2:=fun x y H Q=>∃p xs,y=.ref p/\(SqL K H p xs\/SqT K H p xs)/\nH x=true/\xs.all nH=true/\Q (.bl (if neg then !inV x xs else inV x xs)) H
theorem La:OpR X (compareOp .In) (rIn X.K false):=by
 intro pins s σ H x y v u Q I rx ry h;obtain⟨p,xs,rfl,hq,fx,fs,q⟩:=h
 cases ry
 rcases hq with hq | hq
 ·obtain⟨its,r,pl,hz⟩:=I.list hq;refine SeqAt.in_listAt (eqU x) pl.isList (fun w hw=>vG rx fx r fs w (by simpa using hw)) ⟨.bl _,H,I,rfl,?_⟩;rw[show its.toArray.any (eqU x)=its.any (eqU x) by simp,zW r fs];exact q
 ·obtain⟨its,r,pl,hz⟩:=I.tuple hq;refine SeqAt.in_tupleAt (eqU x) pl (fun w hw=>vG rx fx r fs w (by simpa using hw)) ⟨.bl _,H,I,rfl,?_⟩;rw[show its.toArray.any (eqU x)=its.any (eqU x) by simp,zW r fs];exact q
theorem bV:vS X (.builtin "len") (fun xs H Q=>∃p ys,xs=[.ref p]/\(SqL X.K H p ys\/SqT X.K H p ys)/\Q (.int ys.length) H):=by
 intro pins s σ H xs us Q I r h;obtain⟨p,ys,rfl,hq,q⟩:=h;obtain⟨u,rfl,rx⟩:=Ea r
 cases rx
 have hn:=Bg;rcases hq with hq | hq
 ·obtain⟨its,r',pl,hz⟩:=I.list hq;have hlen:=r'.length;exact Calls.call_len_list pl.isList (by simp only[size_toArray]<;>lia) ⟨.int ys.length,H,I.tok _,⟨s.toks+1,by rw[size_toArray,hlen]⟩,q⟩
 ·obtain⟨its,r',pl,hz⟩:=I.tuple hq;have hlen:=r'.length;exact len_tuple pl (by simp only[size_toArray]<;>lia) ⟨.int ys.length,H,I.tok _,⟨s.toks+1,by rw[size_toArray,hlen]⟩,q⟩
theorem dP:vS X (.type "list") (fun xs H Q=>∃p ys,xs=[.ref p]/\(SqL X.K H p ys\/SqT X.K H p ys)/\∀l,H l=none->Q (.ref l) (upd H l (.lst ys))):=by
 intro pins s σ H xs us Q I r h;obtain⟨p,ys,rfl,hq,q⟩:=h;obtain⟨u,rfl,rx⟩:=Ea r
 cases rx
 have fin:∀(its:List Value),cB ys its->ys.length<=sizeLine->∀(h':Heap) (c':Nat),(∀b o',s.heap.get? b=some o'->h'.get? b=some o')->
   h'.get? s.heap.objs.size=some { cls:=.type "list",dict:=none,data:=.seq its.toArray c',slots:=#[] }->EP X pins σ Q (.ref s.heap.objs.size) { s with heap:=h' }:=fun its r' hz h' c' kp e=>
  ⟨.ref s.heap.objs.size,_,I.laid (t':=s.toks) kp (Nat.le_refl _) (show eJ X.prog X.w _ h' _ (.lst ys) from ⟨hz,its,c',r',e⟩),rfl,q _ (I.hok.fresh (Nat.le_refl _))⟩
 rcases hq with hq | hq
 ·obtain⟨its,r',pl,hz⟩:=I.list hq;have hlen:=r'.length;obtain⟨o,ho,hc,n,hd⟩:=pl.isList;exact call_list_seq p (.inl rfl) ho hc hd (fun h' c' kp e=>fin its r' hz h' c' kp e) (by simp only[size_toArray]<;>lia)
 ·obtain⟨its,r',pl,hz⟩:=I.tuple hq;have hlen:=r'.length;obtain⟨o,ho,hc,n,hd⟩:=pl;exact call_list_seq p (.inr rfl) ho hc hd (fun h' c' kp e=>fin its r' hz h' c' kp e) (by simp only[size_toArray]<;>lia)
def tyV (K:Frag)(T:String)(x:V)(H:Hp):Prop:=match x with
 | .str _=>T = "str"
 | .int _=>T = "int"
 | .ref p=>(T = "list"/\∃xs,SqL K H p xs)\/(T = "tuple"/\∃o,K.lookup p=some o/\o.cls=.type "tuple"/\o.dict=none)\/
   (T = "dict"/\((∃kvs,H p=some (.dK kvs))\/∃kvs,H p=some (.dT kvs)))\/(T = "set"/\∃S n,H p=some (.set S n))
 |_=>False
theorem Ml {pins:List (Addr × Obj)}{σ:St}{H:Hp}{s:Shared}{T:String}{x:V}{v:Value}(I:Inv X pins σ H s)(r:cH x v)(ty:tyV X.K T x H) :
  s.TypeIs v T/\∀a,v=.ref a->∃ob,s.heap.get? a=some ob/\ob.dict=none:=by
 cases x with
 |str z=>
  obtain⟨t,rfl⟩:=r
  cases (show T = "str" from ty)
  exact⟨typeIs_str s z t,fun _ e=>nomatch e⟩
 |int i=>
  obtain⟨t,rfl⟩:=r
  cases (show T = "int" from ty)
  exact⟨typeIs_int s i t,fun _ e=>nomatch e⟩
 |ref p=>
  cases r
  rcases ty with ⟨rfl,xs,hq⟩ | ⟨rfl,o,hk,hc,hd⟩ | ⟨rfl,hk⟩ | ⟨rfl,S,n,hk⟩
  ·obtain⟨its,_,pl,_⟩:=I.list hq;refine⟨pl.isList.typeIs,fun a e=>?_⟩
   cases e
   obtain⟨o,n,e,c,hd,_⟩:=pl;exact⟨o,e,hd⟩
  ·refine⟨⟨o,I.kIn p o hk,hc⟩,fun a e=>?_⟩
   cases e
   exact⟨o,I.kIn _ o hk,hd⟩
  ·have z:∃o,s.heap.get? p=some o/\o.ExactDict:=by
    rcases hk with ⟨kvs,hk⟩ | ⟨kvs,hk⟩
    ·obtain⟨_,_,_,_,o,_,_,e,ex,_⟩:=I.hok p _ hk;exact⟨o,e,ex⟩
    ·obtain⟨_,_,_,_,o,_,_,e,ex,_⟩:=I.hok p _ hk;exact⟨o,e,ex⟩
   obtain⟨o,e,ex⟩:=z;refine⟨⟨o,e,ex.1⟩,fun a e2=>?_⟩
   cases e2
   exact⟨o,e,ex.2.1⟩
  ·obtain⟨o,_,_,_,e,ex,_⟩:=I.hok p _ hk;refine⟨⟨o,e,ex.1⟩,fun a e2=>?_⟩
   cases e2
   exact⟨o,e,ex.2.1⟩
 |_=>exact False.elim ty
def qd4 (K:Frag)(T:String)(r:V->List V->Hp->VK->Prop)(to:TE):TE:=fun σ H Q=>to σ H fun x H1=>tyV K T x H1/\r x [] H1 Q
def tBM (K:Frag)(T:String)(r:V->List V->Hp->VK->Prop)(to:TE)(t:TA):TE:=fun σ H Q=>to σ H fun x H1=>tyV K T x H1/\t σ H1 fun xs H2=>r x xs H2 Q
variable {o e:Expr} {es:List Expr} {to:TE} {t:TA} {name:Str} {apos cpos:Pos} {T id:String} {r:V->List V->Hp->VK->Prop}
theorem Nf (pa:PlainAttrs T)(slot:Slot T name id)(hty:typeOf (.builtin id)=pure (.type "method_descriptor"))(hm:MtR X id r)(ho:PE X o to)(hbase:attributeBase o name X.env (eval o X.env)=eval o X.env:=by rfl)(hline:(apos.endLine == cpos.line)=true:=by rfl):PE X (.Call (.Attribute o name apos) [] [] cpos) (qd4 X.K T r to):=by
 intro pins s σ H Q I h;refine wpAny_Call_method0_late hbase hline (thn (ho pins s σ H _ I h) fun v s1 ⟨x,H1,I1,r1,ty,q1⟩=>?_);obtain⟨h1,h2⟩:=Ml I1 r1 ty;exact⟨T,id,pa,slot,hty,h1,h2,Calls.callWith_builtin rfl (PySem.evalArgs_none (hm pins s1 σ H1 x [] v [] Q I1 r1 .nil q1))⟩
theorem lQ (pa:PlainAttrs T)(slot:Slot T name id)(hty:typeOf (.builtin id)=pure (.type "method_descriptor"))(hm:MtR X id r)(ho:PE X o to)(ha:PA X (e :: es) t)(hbase:attributeBase o name X.env (eval o X.env)=eval o X.env:=by rfl)(hfew:((backTo cpos (starEach (e :: es) X.env)).all (fun x=>!x.1) && (backToKw cpos (keywordEach [] X.env)).all (fun x=>x.1.isSome)
   && decide ((e :: es).length+([]:List Keyword).length+(if ([]:List Keyword).isEmpty then 0 else 1) < 30))=true:=by rfl)(hline:(apos.endLine == cpos.line)=true:=by rfl)(hs:starEach (e :: es) X.env=(false,eval e X.env) :: starEach es X.env:=by rfl)(hplain:(backTo cpos (starEach es X.env)).any (·.1)=false:=by rfl) :
  PE X (.Call (.Attribute o name apos) (e :: es) [] cpos) (tBM X.K T r to t):=by
 intro pins s σ H Q I h;refine wpAny_Call_method_late hbase hfew hline rfl (thn (ho pins s σ H _ I h) fun v s1 ⟨x,H1,I1,r1,ty,q1⟩=>?_);obtain⟨h1,h2⟩:=Ml I1 r1 ty;refine⟨T,id,pa,slot,hty,h1,h2,?_⟩;have hA:=ha cpos pins s1 σ H1 _ I1 q1;rw[hs] at hA ⊢;refine Calls.callWith_builtin (by show (false || (backTo cpos (starEach es X.env)).any (·.1))=false;rw[hplain]<;>rfl) (Calls.evalArgs_plain ?_);exact thn hA fun us s2 ⟨vs,H2,I2,r2,q2⟩=>hm pins s2 σ H2 x vs v us Q I2 r1 r2 q2
end
def MtM (X:Cx)(id:String)(r:V->List V->Hp->VK->Prop):Prop:=
 ∀(pins:List (Addr × Obj)) (s:Shared) (σ:St) (H:Hp) (x:V) (xs:List V) (v:Value) (us:List Value) (Q:VK),Inv X pins σ H s->cH x v->cB xs us->r x xs H Q->
  wpAny (model X.prog X.w) X.A (call (.builtin id) (v :: us)) (EP X pins σ Q) X.xe s
theorem cB.one:∀{x:V} {us:List Value},cB [x] us->∃u,us=[u]/\cH x u
 |_,_,.cons r .nil=>⟨_,rfl,r⟩
theorem cB.zero:∀{us:List Value},cB [] us->us=[]
 |_,.nil=>rfl
theorem cB.dropLast {xs:List V}{us:List Value}(h:cB xs us):cB xs.dropLast us.dropLast:=by
 induction h with
 |nil=>exact .nil
 |cons r t ih=>
  cases t with
  |nil=>exact .nil
  |cons q t'=>exact .cons r ih
theorem cB.reverse {xs:List V}{us:List Value}(h:cB xs us):cB xs.reverse us.reverse:=by
 induction h with
 |nil=>exact .nil
 |cons r t ih=>rw[reverse_cons,reverse_cons];exact cB.append ih (.cons r .nil)
theorem cB.rep {xs:List V}{us:List Value}(h:cB xs us):∀k:Nat,cB (replicate k xs).flatten (replicate k us).flatten
 |0=>.nil
 |k+1=>by
  rw[replicate_succ,replicate_succ,flatten_cons,flatten_cons];exact cB.append h (cB.rep h k)
theorem Ga {α:Type}(l:List α):l.eraseIdx (l.length - 1)=l.dropLast:=by
 induction l with
 |nil=>rfl
 |cons a r ih=>
  cases r with
  |nil=>rfl
  |cons b r=>
   have e:(a :: b :: r).length - 1=((b :: r).length - 1)+1:=by
    have h1:(a :: b :: r).length=r.length+2:=rfl;have h2:(b :: r).length=r.length+1:=rfl;lia
   rw[e,eraseIdx_cons_succ,ih]
   all_goals rfl
theorem yP (its:List Value):∀(k:Nat) (acc:List Value),
  foldl (fun x1 x2=>x1++x2) acc.toArray (replicate k its.toArray)=(acc++(replicate k its).flatten).toArray
 |0,acc=>by simp
 |k+1,acc=>by
  have e:acc.toArray++its.toArray=(acc++its).toArray:=by simp
  have e2:(acc++its)++(replicate k its).flatten=acc++(replicate (k+1) its).flatten:=by
   rw[replicate_succ,flatten_cons,append_assoc]
  rw[<- e2,<- yP its k (acc++its),<- e,replicate_succ,foldl_cons]
section
variable {X:Cx} {pins:List (Addr × Obj)} {σ:St} {H:Hp} {s:Shared} {l b:Addr} {xs ys zs:List V}
theorem Inv.lset {its its':List Value}{n:Nat}{f:Array Value->Array Value}{t':Nat}(I:Inv X pins σ H s)(hH:H l=some (.lst xs))(e:s.heap.get? l=some { cls:=.type "list",data:=.seq its.toArray n })(hf:f its.toArray=its'.toArray)(hv:cB ys its')(hz:ys.length<=sizeLine) :
  Inv X pins σ (upd H l (.lst ys)) { s with heap:=s.heap.update l (Obj.mapSeq f),toks:=t' }:=by
 have q:=PySem.IsL.update e f;rw[hf] at q;refine I.write (x:=l) (e:=l) (by rw[hH];exact trivial) (.inl rfl) (fun b' u hb hu=>(Heap.get?_update_other s.heap (Obj.mapSeq f) (Ne.symm hb)).trans hu) ⟨_,q⟩ ?_;exact⟨hz,its',_,hv,q⟩
theorem Inv.lnew {its:List Value}{t':Nat}(I:Inv X pins σ H s)(hv:cB ys its)(hz:ys.length<=sizeLine) :
  Inv X pins σ (upd H s.heap.objs.size (.lst ys)) { s with heap:=s.heap.push { cls:=.type "list",data:=.seq its.toArray },toks:=t' }:=
 I.laid (fun _ _ q=>Heap.get?_push_of_some _ q) (Nat.le_refl _) ⟨hz,its,0,hv,Heap.get?_push_size _ rfl⟩
theorem Inv.fresh (I:Inv X pins σ H s):H s.heap.objs.size=none:=I.hok.fresh (Nat.le_refl _)
theorem Inv.lstM (I:Inv X pins σ H s)(hH:H l=some (.lst xs)):xs.length<=sizeLine/\∃(its:List Value) (n:Nat),cB xs its/\xs.length=its.length/\s.heap.get? l=some { cls:=.type "list",data:=.seq its.toArray n }:=by
 obtain⟨z,its,n,r,e⟩:=I.hok l _ hH;exact⟨z,its,n,r,r.length,e⟩
theorem On {n:Nat}(h:n<=sizeLine):Builtin.List.listTooLong n=false:=by
 unfold Builtin.List.listTooLong;exact decide_eq_false (by lia)
end
section
variable {X:Cx}
def Tg:V->List V->Hp->VK->Prop:=fun x vs H Q=>∃l xs y,x=.ref l/\vs=[y]/\H l=some (.lst xs)/\xs.length < sizeLine/\Q .non (upd H l (.lst (xs++[y])))
theorem eY:MtM X "list.append" Tg:=by
 intro pins s σ H x vs v us Q I rx rv h;obtain⟨l,xs,y,rfl,rfl,hH,hz,q⟩:=h
 cases rx
 obtain⟨u,rfl,ru⟩:=rv.one;obtain⟨z,its,n,r,hl,e⟩:=I.lstM hH;refine call_meets F.slot_list_append ⟨_,e,rfl⟩ F.entry_list_append (F.args_list_append_2 _ _) (PySem.list_append l its.toArray n u (by rw[size_toArray];lia)) ⟨e,?_⟩;refine⟨.non,_,I.lset (its':=its++[u]) hH e (by simp) (r.append (.cons ru .nil)) ?_,rfl,q⟩;rw[length_append,length_singleton];lia
def qg3:V->List V->Hp->VK->Prop:=fun x vs H Q=>∃l xs y,x=.ref l/\vs=[]/\H l=some (.lst xs)/\xs[xs.length - 1]?=some y/\Q y (upd H l (.lst xs.dropLast))
theorem Xd:MtM X "list.pop" qg3:=by
 intro pins s σ H x vs v us Q I rx rv h;obtain⟨l,xs,y,rfl,rfl,hH,hy,q⟩:=h
 cases rx
 have hus:=rv.zero;subst hus;obtain⟨z,its,n,r,hl,e⟩:=I.lstM hH;obtain⟨u,hu,ru⟩:=r.get hy;have hy':its.toArray[its.toArray.size - 1]?=some u:=by
  show its.toArray[its.length - 1]?=some u;rw[<- Array.getElem?_toList,<- hl];exact hu
 refine call_meets F.slot_list_pop ⟨_,e,rfl⟩ F.entry_list_pop (F.args_list_pop_1 _) (MeetsSeq.list_pop_last l its.toArray n u hy' (by rw[size_toArray];lia)) ⟨e,?_⟩;refine⟨y,_,I.lset (its':=its.dropLast) hH e ?_ r.dropLast ?_,ru,q⟩
 ·show its.toArray.eraseIdxIfInBounds (its.toArray.size - 1)=its.dropLast.toArray;rw[size_toArray,eraseIdxIfInBounds_toArray,Ga]
 ·rw[length_dropLast];lia
def Wv:V->List V->Hp->VK->Prop:=fun x vs H Q=>∃l xs,x=.ref l/\vs=[]/\H l=some (.lst xs)/\Q .non (upd H l (.lst []))
theorem Py:MtM X "list.clear" Wv:=by
 intro pins s σ H x vs v us Q I rx rv h;obtain⟨l,xs,rfl,rfl,hH,q⟩:=h
 cases rx
 have hus:=rv.zero;subst hus;obtain⟨z,its,n,r,hl,e⟩:=I.lstM hH;refine call_meets F.slot_list_clear ⟨_,e,rfl⟩ F.entry_list_clear (F.args_list_clear_1 _) (AutoSeq1.list_clear_list_0 l its.toArray n (by rw[size_toArray];lia)) ⟨e,?_⟩;exact⟨.non,_,I.lset (its':=[]) (ys:=[]) hH e rfl .nil (Nat.zero_le _),rfl,q⟩
def qg4:R2:=fun x y H Q=>∃l b xs zs,x=.ref l/\y=.ref b/\H l=some (.lst xs)/\H b=some (.lst zs)/\xs.length+zs.length<=sizeLine/\∀p,H p=none->Q (.ref p) (upd H p (.lst (xs++zs)))
theorem uV:OpR X (binaryOp .Add) qg4:=by
 intro pins s σ H x y v u Q I rx ry h;obtain⟨l,b,xs,zs,rfl,rfl,hH,hB,hz,q⟩:=h
 cases rx
 cases ry
 obtain⟨z,its,n,r,hl,e⟩:=I.lstM hH;obtain⟨z2,its2,n2,r2,hl2,e2⟩:=I.lstM hB;refine PySem.P.add_list e e2 ?_ (by rw[size_toArray,size_toArray];lia);have ea:its.toArray++its2.toArray=(its++its2).toArray:=by simp
 rw[ea];exact⟨.ref _,_,I.lnew (t':=s.toks) (r.append r2) (by rw[length_append];lia),rfl,q _ I.fresh⟩
def qd8:R2:=fun x y H Q=>∃l k xs,x=.ref l/\y=.int k/\H l=some (.lst xs)/\-(2 ^ 63)<=k/\k < 2 ^ 63/\xs.length*k.toNat<=sizeLine/\
 ∀p,H p=none->Q (.ref p) (upd H p (.lst (replicate k.toNat xs).flatten))
theorem Si {α:Type}(xs:List α)(k:Nat):(replicate k xs).flatten.length=k*xs.length:=by
 induction k with
 |zero=>simp
 |succ k ih=>rw[replicate_succ,flatten_cons,length_append,ih,Nat.succ_mul,Nat.add_comm]
theorem Ac:OpR X (binaryOp .Mult) qd8:=by
 intro pins s σ H x y v u Q I rx ry h;obtain⟨l,k,xs,rfl,rfl,hH,h1,h2,hz,q⟩:=h
 cases rx
 obtain⟨t,rfl⟩:=ry;obtain⟨z,its,n,r,hl,e⟩:=I.lstM hH;have hlen:its.toArray.size*k.toNat<=sizeLine:=by rw[size_toArray,<- hl];exact hz
 have hcap:¬its.toArray.size*k.toNat > (2 ^ 63 - 1) / 8:=by
  have:(sizeLine:Nat)<=(2 ^ 63 - 1) / 8:=by decide
  lia
 have hfit:¬(!Builtin.List.listFitsIndex k)=true:=by
  rw[fitsIndex_both h1 h2];exact Bool.false_ne_true
 have hlong:¬Builtin.List.listTooLong (its.toArray.size*k.toNat)=true:=by
  rw[On hlen];exact Bool.false_ne_true
 have hnew:foldl (fun x1 x2=>x1++x2) #[] (replicate (if its.toArray.isEmpty=true then 0 else k.toNat) its.toArray)=(replicate k.toNat its).flatten.toArray:=by
  have f0:∀m:Nat,foldl (fun x1 x2=>x1++x2) #[] (replicate m its.toArray)=(replicate m its).flatten.toArray:=fun m=>by
   have:=yP its m [];rw[nil_append] at this;exact this
  rw[f0]
  cases its with
  |nil=>simp
  |cons a r'=>rw[if_neg (by simp)]
 refine wpAny_binaryOp_repeat_ref (T:="list") (U:="int") (by decide) ⟨_,e,rfl⟩ (fun s'=>typeIs_int s' k t) noFill_list_mul F.fills_int_mul F.slot_int_rmul repeat_list F.slot_int_index.lookup
  (call_meets F.slot_int_rmul (typeIs_int s k t) F.entry_int_rmul (F.args_int_rmul_2 _ _) (int___rmul___int_list k t l its.toArray n)
   ⟨e,rfl,⟨_,e,rfl⟩,call_meets F.slot_list_mul ⟨_,e,rfl⟩ F.entry_list_mul (F.args_list_mul_2 _ _) (AutoListH.list___mul___list_int_3 l its.toArray n k t hfit hcap hlong) ⟨e,?_⟩⟩)
 rw[hnew];exact⟨.ref _,_,I.lnew (t':=s.toks) (r.rep k.toNat) (by rw[Si,Nat.mul_comm];exact hz),rfl,q _ I.fresh⟩
end
end L2
namespace Att
open PySem PySem.W PySem.Calls PyProof.Rows
theorem rO {P:Params}{h:Heap}:∀(ns:List Int) (vs:List Value),WellAll P h vs (ns.map WData.int)->IntsAre vs ns:=by
 intro ns
 induction ns with
 |nil=>
  intro vs w;rw[map_nil] at w
  cases w
  exact .nil
 |cons n ns ih=>
  intro vs w;rw[map_cons] at w
  cases w with
  |cons a b=>
   cases a
   exact .cons _ _ (ih _ b)
theorem Ji {l:OpenLaw}{n:Nat}(hn:l.most=some n){P:Params}{h:Heap}{args:List WData}{vals:List Value}(hpre:l.row.toRowW.claim.pre args=true)(hwl:WellAll P h vals args) :
  ∃a vs ns,vals=[Value.ref a]/\args=[WData.list (ns.map WData.int)]/\h.get? a=some { cls:=.type "list",data:=.seq vs.toArray }/\IntsAre vs ns/\ns.length<=n:=by
 have hsh:WShape.hasAll [] args [.list .int]=true:=(pre_splitW hpre).1;have hc:l.pre.holds [] { args:=args }=true:=(pre_splitW hpre).2;obtain⟨d,r,rfl,h1,h2⟩:=hasAllW_cons hsh;obtain rfl:=hasAllW_nil h2;obtain⟨xs,rfl,h3⟩:=hasW_list h1;obtain⟨ns,rfl⟩:=items_int h3;have hlen:ns.length<=n:=by
  unfold OpenLaw.pre at hc;have h4:(WTm.not (.lt (.lit (.int (n:Int))) (.len (.arg 0)))).holds [] { args:=[.list (ns.map .int)] }=true:=by
   have h4:=(holds_andW hc).1;rw[hn] at h4;exact h4
  have h5:=condW_of h4 (w_not (w_lt w_lit (w_len_list (w_arg rfl))));rw[length_map] at h5;refine Nat.le_of_not_lt fun q=>?_;have q':(n:Int) < ((ns.length:Nat):Int):=by lia
  first
   | (rw[decide_eq_true q'] at h5;exact absurd h5 (by decide))
   | (simp at h5;lia)
 cases hwl with
 |cons w1 w2=>
  cases w2
  cases w1 with
  |list ho hall=>exact⟨_,_,ns,rfl,rfl,ho,rO ns _ hall,hlen⟩
theorem Jl (l:OpenLaw)(args:List WData):l.row.toRowW.claim.post args (.bool true) args=true:=
 postW_of (r:=l.row.toRowW) (X:=(true == true))
  (show WShape.has [] (.bool true) .bool=true by first | rfl | decide | simp[WShape.has,WShape.arms,WShape.armsAll])
  (show (WTm.eq .res (.lit (.bool true))).value [] { args:=args,res:=some (.bool true),after:=args }=some (.bool (true == true)) from w_eq_bool (w_res rfl) w_lit) rfl
theorem attach_call {l:OpenLaw}{n:Nat}{q:Program}{loose:List Str}{XP:(Str->Option Value)->Heap->Prop}{YP:World->Heap->Prop}{d:DefRec}(hn:l.most=some n)(hdf:d.params.defaults=[])(call:∀(w:World) (s₀ s₁:Shared) (mg mb:Str->Option Value) (fa:Addr) (o:Obj) (pm cd doc:Value) (a:Addr) (vs:List Value) (ns:List Int),
   Ground q loose [] XP w s₀ mg mb s₁.heap->YP w s₁.heap->
   s₁.heap.get? fa=some o->o.data=.func (docDef d.name d.params d.body d.scope pm cd doc)->s₁.heap.CodeRec cd d.name->mg d.name=some (.ref fa)->
   s₁.heap.get? a=some { cls:=.type "list",data:=.seq vs.toArray }->IntsAre vs ns->ns.length<=n->s₁.gens=#[]->
   codeAny (model l.prog w) callerA (.call (.ref fa) ⟨[.ref a],[]⟩) (fun r s'=>r=.ok (.ret (.bool true))/\OldK s₁.heap s'.heap/\s'.os=s₁.os/\AllBare s'.gens) s₁) :
  WalkO q loose XP YP l.row.toRowW d [] (fun f vs=>PySem.call f vs):=by
 intro w s₀ s₁ mg mb G Y fa o pm cd doc dV kV ho hd hcd hD hmg hg args vals as hpre hlay hrd hwl hlo;obtain rfl:dV=.none:=Dflts.none hD hdf;obtain rfl:kV=.none:=Dflts.noKw hD;obtain⟨a,vs,ns,rfl,rfl,hobj,hints,hlen⟩:=Ji hn hpre hwl;refine enter_call (codeAny_mono (call w s₀ s₁ mg mb fa o pm cd doc a vs ns G Y ho (fd_plain hd) hcd hmg hobj hints hlen hg) fun r s' hq=>?_);obtain⟨rfl,h2,h3,h4⟩:=hq;exact⟨.inl ⟨.bool true,.bool true,[],rfl,fun _=>rfl,.bool true,Jl l _,fun _=>⟨Pairwise.nil,fun _ hm=>(nomatch hm)⟩⟩,h2,h3,h4⟩
end Att
namespace L2
open PySem PySem.Spec PyProof.Rows
theorem zA:∀{vs:List Value} {ns:List Int},IntsAre vs ns->cB (ns.map V.int) vs
 |_,_,.nil=>.nil
 |_,_,.cons n t h=>.cons ⟨t,rfl⟩ (zA h)
def Yb (H:Hp):Prop:=∀b,H b=none\/∃o xs,H b=some (.frz o (.lst xs))
theorem Nn {P:Program}{w:World}{K:Frag}{mg mb:Str->Option Value}{CX:CXT}{k:Nat}{fa a:Addr}{fd:FuncData}{x:Str}{sp:Sp}{s₁:Shared}{vs:List Value}{ns:List Int}(KX:K.In s₁.heap)(hns:s₁.heap.Ns mainGlobals mg)(hb:s₁.heap.Ns builtinsNs mb)(hbb:∀x:Str,x≠"__name__"->mb x=bootBuiltins x)(hlim:s₁.heap.NoLimit)(hg:s₁.gens=#[])(ha:s₁.heap.get? a=some { cls:=.type "list",data:=.seq vs.toArray })(hi:IntsAre vs ns)(hl:ns.length<=sizeLine)(hr:gR k callerA)(F:∀base:Heap,K.In base->base.Ns mainGlobals mg->aP P w K mg base CX k fa fd [x] sp)(hbind:∀(s:Shared) (u:Value),BindsTo s fd ⟨[u],[]⟩ [(x,u)])(hsp:∀H:Hp,Yb H->SqL K H a (ns.map V.int)->sp [.ref a] H (fun v _=>v=.bl true) fun _ _ _=>False)(hCX:∀H e s',CX [] H s₁ (fun _ _ _=>False) e s'->False) :
  codeAny (model P w) callerA (.call (.ref fa) ⟨[.ref a],[]⟩) (fun r s'=>r=.ok (.ret (.bool true))/\OldK s₁.heap s'.heap/\s'.os=s₁.os/\AllBare s'.gens) s₁:=by
 have rv:=zA hi;have lenV:=hi.length;have core:∀H:Hp,Yb H->SqL K H a (ns.map V.int)->HOk P w H s₁.heap->(∀b,H b≠none->b=a)->(H a≠none->K.lookup a=none)->
   codeAny (model P w) callerA (.call (.ref fa) ⟨[.ref a],[]⟩) (fun r s'=>r=.ok (.ret (.bool true))/\OldK s₁.heap s'.heap/\s'.os=s₁.os/\AllBare s'.gens) s₁:=by
  intro H hO hS hok hA hK;have base_of:∀{b:Addr} {o:Obj},s₁.heap.get? b=some o->H b=none->(zL s₁.heap H).get? b=some o:=fun e n=>Qf e n;have noA:∀{b:Addr} {o:Obj} {es:Array DictEntry} {ep:Nat},s₁.heap.get? b=some o->o.data=.dict es ep->H b=none:=fun {b o es ep} e d=>by
   cases q:H b with
   |none=>rfl
   |some u=>
    have e':b=a:=hA b (by rw[q];simp);subst e';rw[ha] at e;cases e;have d':Data.seq vs.toArray _=Data.dict es ep:=d
    cases d'
  have nsK:∀{b:Addr} {m:Str->Option Value},s₁.heap.Ns b m->(zL s₁.heap H).Ns b m:=fun {b m} ⟨o,es,ep,e,d,r⟩=>⟨o,es,ep,base_of e (noA e d),d,r⟩
  have hKb:K.In (zL s₁.heap H):=fun b o e=>base_of (KX b o e) (by
   cases q:H b with
   |none=>rfl
   |some u=>
    have e':b=a:=hA b (by rw[q];simp);subst e';rw[hK (by rw[q];simp)] at e;cases e)
  have hM:Mod K mg (zL s₁.heap H):=⟨hKb,nsK hns,⟨mb,nsK hb,hbb⟩,let ⟨mc,h1,h2⟩:=hlim;⟨mc,nsK h1,h2⟩⟩
  have e0:Fy P w K mg (zL s₁.heap H) callerA [] s₁ H:=⟨rfl,hM,fun b o e=>Ug e,Nat.le_of_eq (Ju _ _),trivial,fun b hb=>absurd (show b∈([]:List Addr) from hb) (by simp),hok,.of_eq hg⟩
  refine codeAny_mono ((F _ hKb (nsK hns)).run callerA [] s₁ H ⟨[.ref a],[]⟩ [.ref a] [.ref a] _ _ hr e0 (hbind s₁ (.ref a)) (.cons rfl .nil) (hsp H hO hS)) fun r s' h=>?_
  cases r with
  |error e=>exact(hCX H e s' h).elim
  |ok fl=>
   cases fl with
   |next=>exact False.elim h
   |brk=>exact False.elim h
   |cont=>exact False.elim h
   |ret u=>
    obtain⟨v,H',os,bare,un,hok',r',q⟩:=h;have q':v=.bl true:=q;subst q';obtain rfl:u=Value.bool true:=r';refine⟨rfl,OldK.of_keep fun b o e=>?_,os,bare⟩
    cases q:H b with
    |none=>exact un.keep b o e q (by intro z;exact absurd (show b∈([]:List Addr) from z) (by simp)) (by simp)
    |some u=>
     rcases hO b with z | ⟨ob,xs,z⟩
     ·rw[q] at z;cases z
     ·have z2:=un.frzs b ob _ z;obtain⟨e1,_⟩:=hok b _ z;obtain⟨e2,_⟩:=hok' b _ z2;rw[e] at e1;cases e1;exact e2
 cases hk:K.lookup a with
 |some o=>
  have e:=KX a o hk;rw[ha] at e
  cases e
  refine core (fun _=>none) (fun _=>.inl rfl) (.inr ⟨_,vs.toArray,_,hk,rfl,rfl,rfl,by rw[size_toArray,lenV];exact hl,by simpa using rv⟩) (fun b u z=>by have z':(none:Option HO)=some u:=z;cases z') (fun b z=>absurd rfl z) fun z=>absurd rfl z
 |none=>
  refine core (fun b=>if b=a then some (.frz { cls:=.type "list",data:=.seq vs.toArray } (.lst (ns.map V.int))) else none) (fun b=>?_) (.inl (.inr ⟨{ cls:=.type "list",data:=.seq vs.toArray },if_pos rfl⟩)) (fun b u z=>?_) (fun b z=>?_) fun _=>hk
  ·by_cases hb:b=a
   ·exact .inr ⟨_,_,if_pos hb⟩
   ·exact .inl (if_neg hb)
  ·by_cases hb:b=a
   ·have z':=(if_pos hb).symm.trans z
    cases z'
    subst hb;exact⟨ha,by rw[length_map];exact hl,vs,_,rv,ha⟩
   ·have z':=(if_neg hb).symm.trans z
    cases z'
  ·by_cases hb:b=a
   ·exact hb
   ·exact absurd (if_neg hb) z
abbrev KOf {K:Frag}{h:Heap}(_:K.In h):Frag:=K
theorem To {l:W.OpenLaw}{n k:Nat}{q:Program}{loose:List Str}{XP:(Str->Option Value)->Heap->Prop}{YP:World->Heap->Prop}{d:DefRec}{K:Params->Frag}{CX:World->CXT}{sp:World->Sp}{x:Str}(hn:l.most=some n)(hn2:n<=sizeLine)(hdf:d.params.defaults=[])(hr:gR k callerA)(hY:∀(w:World) (h:Heap),YP w h->(K w.params).In h)(F:∀(w:World) (mg:Str->Option Value) (fa:Addr) (h:Heap),(K w.params).In h->h.Ns mainGlobals mg->mg d.name=some (.ref fa)->
   ∃fd:FuncData,(∀(s:Shared) (u:Value),BindsTo s fd ⟨[u],[]⟩ [(x,u)])/\
    ∀base:Heap,(K w.params).In base->base.Ns mainGlobals mg->aP l.prog w (K w.params) mg base (CX w) k fa fd [x] (sp w))(hsp:∀(w:World) (H:Hp) (a:Addr) (ns:List Int),ns.length<=n->Yb H->SqL (K w.params) H a (ns.map V.int)->sp w [.ref a] H (fun v _=>v=.bl true) fun _ _ _=>False)(hCX:∀(w:World) (H:Hp) (s:Shared) (e:Value) (s':Shared),CX w [] H s (fun _ _ _=>False) e s'->False) :
  W.WalkO q loose XP YP l.row.toRowW d [] (fun f vs=>PySem.call f vs):=by
 refine Att.attach_call hn hdf fun w s₀ s₁ mg mb fa o pm cd doc a vs ns G Y ho hd hcd hmg hobj hints hlen hg=>?_;have KX:=hY w _ Y;obtain⟨fd,hb,hF⟩:=F w mg fa _ KX G.T.g hmg;exact Nn KX G.T.g G.T.b G.T.builtins G.T.nolimit hg hobj hints (Nat.le_trans hlen hn2) hr hF hb (fun H hO hS=>hsp w H a ns hlen hO hS) fun H e s'=>hCX w H s₁ e s'
def cO (s:Stmt)(j:Nat):Stmt:=match s with
 | .ClassDef _ _ _ body _ _ _ _ _ _ _=>body.getD j (.Pass ⟨0,0,0,0⟩)
 |_=>.Pass ⟨0,0,0,0⟩
def aR (s:Stmt):Arguments:=match s with
 | .FunctionDef _ a _ _ _ _ _ _ _ _=>a
 |_=>{ posonlyargs:=[],args:=[],vararg:=none,kwonlyargs:=[],kw_defaults:=[],kwarg:=none,defaults:=[] }
def aM (s:Stmt):List Stmt:=match s with
 | .FunctionDef _ _ b _ _ _ _ _ _ _=>b
 |_=>[]
def aD (s:Stmt):Scope:=match s with
 | .FunctionDef _ _ _ _ _ _ sc _ _ _=>sc
 |_=>{ kind:=.function,names:=[],isGenerator:=false,isCoroutine:=false }
abbrev CX0:CXT:=fun _ _ _ _ _ _=>False
abbrev E0:XK:=fun _ _ _=>False
theorem aK {X:Cx}:kB CX0 X E0:=fun _ _ _ _ _ _ _ h=>h.elim
theorem Do {A:Around}{k:Nat}(hr:gR k A):A.units+1 < cLine:=Nat.lt_of_le_of_lt (Nat.add_le_add_left (by decide:1<=64) _) hr.units
theorem bO {n:Nat}(h:n<=1000):n < sizeLine:=Nat.lt_of_le_of_lt h (by decide)
section
variable {X:Cx}
theorem pv (i:Nat){x:Str}{pos:Pos}(hN:X.N[i]?=some x:=by rfl)(hv:Vis X.env.scope x:=by first | exact Or.inl rfl | exact Or.inr (Or.inl rfl) | exact Or.inr (Or.inr rfl))(hd:(x == ("__debug__":Str))=false:=by decide)(hcd:(x == ("__classdict__":Str))=false:=by decide):PE X (.Name x pos) (Tc i):=Lr hN hv hd hcd
end
theorem gK {A B:Prop}(h:B):if false=true then A else B:=by
 rw[if_neg Bool.false_ne_true];exact h
theorem gW {A B:Prop}(h:A):if true=true then A else B:=by
 rw[if_pos rfl];exact h
theorem rK {c A B:Prop}[Decidable c](h1:c->A)(h2:¬c->B):if c then A else B:=by
 by_cases h:c
 ·rw[if_pos h];exact h1 h
 ·rw[if_neg h];exact h2 h
def bC (H H':Hp):Prop:=∀b o,H b=some o->H' b=some o
theorem bC.refl (H:Hp):bC H H:=fun _ _ h=>h
theorem bC.trans {H H1 H2:Hp}(a:bC H H1)(b:bC H1 H2):bC H H2:=fun c o h=>b c o (a c o h)
theorem bC.free {H H':Hp}(e:bC H H'){l:Addr}(h:H' l=Option.none):H l=Option.none:=by
 cases q:H l with
 |none=>rfl
 |some o=>
  rw[e l o q] at h
  cases h
theorem bC.seq {K:Frag}{H H':Hp}{a:Addr}{xs:List V}(e:bC H H')(h:SqL K H a xs):SqL K H' a xs:=by
 rcases h with (h | ⟨o,h⟩) | h
 ·exact .inl (.inl (e _ _ h))
 ·exact .inl (.inr ⟨o,e _ _ h⟩)
 ·exact .inr h
section
variable {X:Cx}
def Bt (n:Nat)(i:Int):Prop:=i.natAbs < 2 ^ n
theorem vY {n:Nat}{i:Int}(h:Bt n i):Builtin.Int.intBits i<=n:=by
 unfold Builtin.Int.intBits;split
 ·exact Nat.zero_le _
 ·rename_i h0
  have hp:i.natAbs≠0:=by
   intro z;apply h0;simp at z ⊢;exact z
  have:i.natAbs.log2 < n:=(Nat.log2_lt hp).mpr h;lia
def Qu (i j:Int):Prop:=∃n m,Bt n i/\Bt m j/\n<=1048576/\m<=1048576
theorem Qu.ok {i j:Int}(h:Qu i j):IntMulOk i j:=by
 obtain⟨n,m,h1,h2,h3,h4⟩:=h;have e:(2:Nat) ^ 20=1048576:=by decide
 exact IntMulOk.of_bits (by have:=vY h1;lia) (by have:=vY h2;lia)
theorem dB:OpR X (binaryOp .Mult) (rI Qu fun i j=>.int (i*j)):=opI fun _ _ _ _ _ _ _ hc q=>mul_int q hc.ok
def Hb (i j:Int):Prop:=j≠0/\∃n,Bt n j/\n<=9000
theorem Hb.ok {i j:Int}(h:Hb i j):Builtin.divisionGoesByPylong i j=false:=by
 obtain⟨h0,n,h1,h2⟩:=h;refine PyProof.noPylong_of_log2 ?_;have hp:j.natAbs≠0:=by lia
 have:j.natAbs.log2 < n:=(Nat.log2_lt hp).mpr h1;lia
theorem iZ:OpR X (binaryOp .FloorDiv) (rI Hb fun i j=>.int (i.fdiv j)):=opI fun _ _ _ _ _ _ _ hc q=>floordiv_int hc.1 q (.inl hc.ok)
mutual
inductive oB (K:Frag) (H:Hp):V->PyData->Prop where
 |non:oB K H .non .none
 |bl (b:Bool):oB K H (.bl b) (.bool b)
 |int (i:Int):oB K H (.int i) (.int i)
 |str (x:Str):oB K H (.str x) (.str x)
 |lst {a:Addr} {xs:List V} {ds:List PyData} (h:SqL K H a xs) (q:rF K H xs ds):oB K H (.ref a) (.list ds)
 |tup {a:Addr} {xs:List V} {ds:List PyData} (h:SqT K H a xs) (q:rF K H xs ds):oB K H (.ref a) (.tuple ds)
inductive rF (K:Frag) (H:Hp):List V->List PyData->Prop where
 |nil:rF K H [] []
 |cons {x:V} {d:PyData} {xs:List V} {ds:List PyData} (p:oB K H x d) (q:rF K H xs ds):rF K H (x :: xs) (d :: ds)
end
theorem kC {pins:List (Addr × Obj)}{s:Shared}{σ:St}{H:Hp}(I:Inv X pins σ H s):∀{x:V} {d:PyData},oB X.K H x d->∀{u:Value},cH x u->∃as,Reads s.heap u d as:=by
 intro x d h
 induction h using oB.rec (motive_2:=fun xs ds _=>∀{us:List Value},cB xs us->∃as,ReadsAll s.heap us ds as) with
 |non=>intro u r;cases (show u=Value.none from r);exact⟨_,.none⟩
 |bl b=>intro u r;cases (show u=Value.bool b from r);exact⟨_,.bool b⟩
 |int i=>intro u r;obtain⟨t,rfl⟩:=(show ∃t,u=Value.int i t from r);exact⟨_,.int i t⟩
 |str y=>intro u r;obtain⟨t,rfl⟩:=(show ∃t,u=Value.str y t from r);exact⟨_,.str y t⟩
 |lst h q ih=>
  intro u r
  cases (show u=Value.ref _ from r)
  obtain⟨its,rv,pl,_⟩:=I.list h;obtain⟨as,ra⟩:=ih rv;obtain⟨o,h1,h2,n,h3⟩:=pl.isList;exact⟨_,.list h1 h2 h3 (by simpa using ra)⟩
 |tup h q ih=>
  intro u r
  cases (show u=Value.ref _ from r)
  obtain⟨its,rv,pl,_⟩:=I.tuple h;obtain⟨as,ra⟩:=ih rv;obtain⟨o,h1,h2,n,h3⟩:=pl;exact⟨_,.tuple h1 h2 h3 (by simpa using ra)⟩
 |nil=>rename_i us r;cases r;exact⟨_,.nil⟩
 |cons p q ih1 ih2=>
  rename_i us r
  cases r with
  |cons r1 r2=>
   obtain⟨as,h1⟩:=ih1 r1;obtain⟨bs,h2⟩:=ih2 r2;exact⟨_,.cons h1 h2⟩
def Bi (K:Frag)(neg:Bool):R2:=fun x y H Q=>∃d e,oB K H x d/\oB K H y e/\d.canLay0=true/\e.canLay0=true/\min d.depth e.depth<=16/\Q (.bl (if neg then !PyData.eqv d e else PyData.eqv d e)) H
theorem oA (hu:X.A.units+64 < cLine):OpR X (compareOp .Eq) (Bi X.K false):=by
 intro pins s σ H x y v u Q I rx ry h;obtain⟨d,e,h1,h2,c1,c2,hm,q⟩:=h;obtain⟨as,r1⟩:=kC I h1 rx;obtain⟨bs,r2⟩:=kC I h2 ry;exact PySem.SeqAt.compareEq_reads r1 r2 c1 c2 (by lia) ⟨.bl (PyData.eqv d e),H,I,rfl,q⟩
theorem qF (hu:X.A.units+64 < cLine):OpR X (compareOp .NotEq) (Bi X.K true):=by
 intro pins s σ H x y v u Q I rx ry h;obtain⟨d,e,h1,h2,c1,c2,hm,q⟩:=h;obtain⟨as,r1⟩:=kC I h1 rx;obtain⟨bs,r2⟩:=kC I h2 ry;exact PySem.SeqAt.compareNe_reads r1 r2 c1 c2 (by lia) ⟨.bl (!PyData.eqv d e),H,I,rfl,q⟩
end
section
variable {prog:Program} {w:World} {A:Around} {R:Result->Shared->Prop} {s:Shared}
abbrev Va (ifs:List Expr)(env:Env):Sem Bool:=forIn ifs true fun c r=>if r=true then do let ok <- isTrue c env (eval c env);pure (ForInStep.yield ok) else pure (ForInStep.yield r)
theorem Js {elt target iter:Expr}{ifs:List Expr}{scope:Scope}{pos:Pos}{it acc:Value}{env:Env}(I:Nat->Shared->Prop)(turn:∀n s,I n s->wpAny (model prog w) A (pyNext it) (fun r s₁=>match r with
   |none=>R (.ok .next) s₁
   |some v=>wpAny (model prog w) A (letOwnedTupleGo target it v) (fun _ s₀=>wpAny (model prog w) A (assign target env v) (fun _ s₂=>
     wpAny (model prog w) A (Va ifs env) (fun ok s₃=>
      if ok=true then wpAny (model prog w) A (eval elt env) (fun x s₄=>
       wpAny (model prog w) A (call (.builtin "list.append") [acc,x]) (fun _ s₅=>∃m,m < n/\I m s₅) (fun _ _=>False) s₄) (fun _ _=>False) s₃
      else ∃m,m < n/\I m s₃) (fun _ _=>False) s₂) (fun _ _=>False) s₀) (fun _ _=>False) s₁) (fun _ _=>False) s)(n:Nat)(h:I n s) :
  codeAny (model prog w) A (.compLoop (.ListComp elt [⟨target,iter,ifs,0⟩] scope pos) 0 it acc env) R s:=by
 refine codeAny_loop rfl I (fun n s hI=>?_) n h;show wpAny _ A ((compTurn (.ListComp elt [⟨target,iter,ifs,0⟩] scope pos) 0 it acc env).onRaise (fun x=>do noteFrame x env;theTreesLotGoes x)) _ _ s;refine wpAny_noted ?_;rw[compTurn_list];refine wpAny_bind (wpAny_standAt (wpAny_bind (wpAny_mono (turn n s hI) (fun r s₁ h₁=>?_) fun _ _ z=>z.elim)))
 cases r with
 |none=>exact wpAny_pure h₁
 |some v=>
  refine wpAny_bind (wpAny_mono h₁ (fun _ s₀ h₀=>?_) fun _ _ z=>z.elim);refine wpAny_bind (wpAny_mono h₀ (fun _ s₂ h₂=>wpAny_bind (wpAny_mono h₂ (fun ok s₃ h₃=>?_) fun _ _ z=>z.elim)) fun _ _ z=>z.elim)
  cases ok with
  |false=>exact wpAny_pure ⟨rfl,h₃⟩
  |true=>
   rw[if_pos rfl] at h₃;show wpAny _ _ ((do let _ <- call (.builtin "list.append") [acc,<- eval elt env]) >>= fun _=>again (.compLoop (.ListComp elt [⟨target,iter,ifs,0⟩] scope pos) 0 it acc env)) _ _ _;exact wpAny_bind (wpAny_bind (wpAny_mono h₃ (fun x s₄ h₄=>wpAny_bind (wpAny_mono h₄ (fun _ s₅ h₅=>wpAny_pure (wpAny_pure ⟨rfl,h₅⟩)) fun _ _ z=>z.elim)) fun _ _ z=>z.elim))
end
structure Ap (X:Cx) (scope:Scope) (cl:List (Str × Addr)) (Nc:List Str) (nl:Nat) (fr:List Nat):Prop where
 clos:closureFor scope X.env=pure cl
 kind:scope.kind=.function
 names:∀y∈scope.names,y.2=.local->scope.names.lookup y.1=some .local
 cell:∀y∈scope.names,y.2≠.cell
 sub:∀x c,cl.lookup x=some c->X.env.cells.lookup x=some c
 has:∀x,(relabel scope X.env).names.lookup x=some .cell\/(relabel scope X.env).names.lookup x=some .free->∃c,cl.lookup x=some c
 len:Nc.length=nl+fr.length
 tail:∀i n,Nc[nl+i]?=some n->∃j,fr[i]?=some j/\X.N[j]?=some n/\X.env.kindOf n=some .cell/\cl.lookup n=X.env.cells.lookup n/\((relabel scope X.env).names.lookup n=some .cell\/(relabel scope X.env).names.lookup n=some .free)
abbrev fF (X:Cx)(scope:Scope)(cl:List (Str × Addr))(Nc:List Str)(C:Addr)(s3:Shared)(H3:Hp)(fp:List Addr)(pins:List (Addr × Obj)):Cx:=
 { X with N:=Nc,s₀:=s3,H₀:=H3,env:=compEnvC scope cl C X.env,outer:=X.stack,ex:=fp,fn:=fun _=>false,pn:=X.pn++pins,xe:=fun _ _=>False }
def σC (nl:Nat)(fr:List Nat)(σ:St):St:=replicate nl none++fr.map fun j=>(σ[j]?).join
abbrev PIf (X:Cx)(ifs:List Expr)(t:TT):Prop:=
 ∀(pins:List (Addr × Obj)) (s:Shared) (σ:St) (H:Hp) (Q:Bool->Hp->Prop),Inv X pins σ H s->t σ H Q->wpAny (model X.prog X.w) X.A (Va ifs X.env) (TP X pins σ Q) X.xe s
theorem gO {X:Cx}:PIf X [] (fun _ H Q=>Q true H):=fun _ _ _ H _ I h=>wpAny_pure ⟨H,I,h⟩
theorem zH {X:Cx}{c:Expr}{t:TT}(h:PT X c t):PIf X [c] t:=fun pins s σ H Q I q=>wpAny_tests_one (h pins s σ H Q I q)
section
variable {X:Cx} {scope:Scope} {cl:List (Str × Addr)} {Nc:List Str} {nl:Nat} {fr:List Nat} {pins:List (Addr × Obj)} {σ:St} {H3:Hp} {s3:Shared} {fp:List Addr} {h4:Heap} {tk:Nat}
theorem Ge (ck:Ap X scope cl Nc nl fr)(I:Inv X pins σ H3 s3)(hf:∀b∈fp,mU X pins H3 b)(hfs:∀b∈fp,b < s3.heap.objs.size)(hns:h4.Ns s3.heap.objs.size fun _=>none)(hk:∀b o,s3.heap.get? b=some o->h4.get? b=some o) :
  Inv (fF X scope cl Nc s3.heap.objs.size s3 H3 fp pins) [] (σC nl fr σ) H3 { s3 with heap:=h4,toks:=tk }:=by
 have stk:∀b∈frs X.stack,b∈X.env.locals :: X.fs:=I.stkSub;have nfs:∀b,b≠X.env.locals->b∉X.fs->b∉frs X.stack:=fun b h1 h2 z=>(mem_cons.mp (stk b z)).elim h1 h2;have ltc:∀x c,cl.lookup x=some c->c < s3.heap.objs.size:=fun x c e=>by
  obtain⟨v,z⟩:=I.cell x c (ck.sub x c e);exact z.lt
 refine⟨⟨I.ok.mod,ck.kind,I.ok.glob,I.ok.blt,Nat.le_refl _,fun x y c h1 h2=>I.ok.inj x y c (ck.sub x c h1) (ck.sub y c h2),fun x hx=>ck.has x hx,fun x c hz=>Bool.noConfusion hz,I.ok.hd,I.ok.frames,.inl rfl,fun b hb=>?_,I.bs,Nat.le_trans I.ok.bsz I.sz,fun b o e hb=>?_,fun b hb=>?_,I.stack,I.stkFree⟩,
  rfl,I.bare,Un.kept hk,⟨_,hns,fun i x v h1 h2 h3=>?_⟩,fun x c e=>?_,I.hok.fresh (Nat.le_refl _),fun x c e=>I.freeC x c (ck.sub x c e),fun p hp=>?_,I.hok.kept hk,?_⟩
 ·obtain⟨f0,f1,f2,f3,f4,f5⟩:=hf b hb;exact⟨Nat.ne_of_lt (hfs b hb),fun x c e=>f4 x c (ck.sub x c e)⟩
 ·obtain⟨f0,f1,f2,f3,f4,f5⟩:=hf b hb;rcases f3 with z | z
  ·exact I.ok.noex b o e z
  ·exact absurd (Nat.lt_of_lt_of_le (Heap.lt_size e) (Nat.le_trans I.ok.bsz z)) (Nat.lt_irrefl _)
 ·obtain⟨f0,f1,f2,f3,f4,f5⟩:=hf b hb;exact nfs b f1 f2
 ·-- a name's value
  unfold σC at h2
  by_cases hi:i < nl
  ·rw[getElem?_append_left (by simpa using hi),getElem?_replicate] at h2;split at h2<;>cases h2
  ·have hi':nl<=i:=by lia
   rw[getElem?_append_right (by simpa using hi'),length_replicate,getElem?_map] at h2;obtain⟨k,rfl⟩:∃k,i=nl+k:=⟨i - nl,by lia⟩
   obtain⟨j,e1,e2,e3,e4,e5⟩:=ck.tail k x h1;rw[Nat.add_sub_cancel_left,e1] at h2;have h2':(σ[j]?).join=some v:=by simpa using h2
   have h2'':σ[j]?=some (some v):=by
    cases q:σ[j]? with
    |none=>rw[q] at h2';cases h2'
    |some z=>rw[q] at h2';exact congrArg some h2'
   obtain⟨m,hn,hl⟩:=I.loc;obtain⟨u,r,l⟩:=hl j x v e2 h2'' (.inr (.inl e3));refine⟨u,r,?_⟩;rcases l with ⟨k1,_⟩ | ⟨k1,c,ec,z⟩
   ·rw[e3] at k1;cases k1
   ·obtain⟨o,ho,hd⟩:=z;exact .inr ⟨e5,c,by show cl.lookup x=some c;rw[e4];exact ec,o,hk _ _ ho,hd⟩
 ·obtain⟨v,o,ho,hd⟩:=I.cell x c (ck.sub x c e);exact⟨v,o,hk _ _ ho,hd⟩
 ·have hp':p∈X.pn++pins:=by simpa using hp
  obtain⟨e,n,ne,nf,d⟩:=I.pin p hp';exact⟨hk _ _ e,n,Nat.ne_of_lt (Heap.lt_size e),nfs _ ne nf,d⟩
 ·unfold σC;show _=Nc.length;rw[length_append,length_replicate,length_map,ck.len]
theorem Nx {pins':List (Addr × Obj)}{σ':St}{H':Hp}{s':Shared}(I:Inv X pins σ H3 s3)(hf:∀b∈fp,mU X pins H3 b)(J:Inv (fF X scope cl Nc s3.heap.objs.size s3 H3 fp pins) pins' σ' H' s'):Inv X pins σ H' s'/\mU X pins H' s3.heap.objs.size:=by
 refine⟨I.call' (ch:=fp) J.os J.base J.hok J.bare fun b hb=>?_,I.fpOk (Nat.le_refl _) J.free⟩;obtain⟨f0,f1,f2,f3,f4,f5⟩:=hf b hb;exact⟨f3,f1,f4,f5⟩
theorem Inv.off {b:Addr}{H:Hp}{s:Shared}{h':Heap}(I:Inv X pins σ H s)(f:mU X pins H b)(hs:Heap.SameBut b s.heap h'):Inv X pins σ H { s with heap:=h' }:=by
 obtain⟨f0,f1,f2,f3,f4,f5⟩:=f;exact I.turned (t':=s.toks) (it:=b) (fun c o hb e=>(hs.2 c hb).trans e) f0 f1 f3 f4 f5
end
def Cg (J:It)(nl:Nat)(fr:List Nat)(g:TG)(tt:TT)(te:TE)(σ:St)(D:Addr)(H1:Hp)(Q:VK):Prop:=
 ∃W:Nat->Nat->List V->Hp->Prop,(∃m,W 0 m [] (upd H1 D (.lst [])))/\∀i m ys H2,W i m ys H2->H2 D=some (.lst ys)/\
  ((J.stop i H2/\Q (.ref D) H2)\/(J.go i H2/\∀x H3,J.yld i H2 x H3->g x (σC nl fr σ) H3 fun σ2 H4=>σ2.length=(σC nl fr σ).length/\(∀(i:Nat) v,(σC nl fr σ)[i]?=some (some v)->σ2[i]?=some (some v))/\
   tt σ2 H4 fun b H5=>if b=true then te σ2 H5 fun y H6=>H6 D=some (.lst ys)/\ys.length < sizeLine/\∃m',m' < m/\W (i+1) m' (ys++[y]) (upd H6 D (.lst (ys++[y])))
    else ∃m',m' < m/\W (i+1) m' ys H5))
def My (wi:TI)(nl:Nat)(fr:List Nat)(g:TG)(tt:TT)(te:TE):TE:=fun σ H Q=>wi σ H fun J H1=>∀D,H1 D=none->Cg J nl fr g tt te σ D H1 Q
section
variable {X:Cx} {scope:Scope} {cl:List (Str × Addr)} {Nc:List Str} {nl:Nat} {fr:List Nat} {elt tg iter:Expr} {ifs:List Expr} {pos:Pos} {wi:TI} {g:TG} {tt:TT} {te:TE}
theorem Dy (hc:X.calm=true)(ck:Ap X scope cl Nc nl fr)(hi:PI X tg iter wi)(hg:∀C s3 H3 fp pins,PG (fF X scope cl Nc C s3 H3 fp pins) tg g)(ht:∀C s3 H3 fp pins,PIf (fF X scope cl Nc C s3 H3 fp pins) ifs tt)(he:∀C s3 H3 fp pins,PE (fF X scope cl Nc C s3 H3 fp pins) elt te){pins:List (Addr × Obj)}{s:Shared}{σ:St}{H:Hp}{Q:VK}(I:Inv X pins σ H s)(h:My wi nl fr g tt te σ H Q){RR:Value->Addr->Result->Shared->Prop}(fin:∀D C s',(∃H',(∃m,s'.heap.Ns C m)/\Inv X pins σ H' s'/\mU X pins H' C/\Q (.ref D) H')->RR (.ref D) C (.ok .next) s') :
  wpAny (model X.prog X.w) X.A (eval iter X.env) (fun x s₁=>wpAny (model X.prog X.w) X.A (pyIter x) (fun it s₂=>wpAny (model X.prog X.w) X.A (newList []) (fun acc s₃=>
   wpAny (model X.prog X.w) X.A (newFunctionEnv scope X.env.globals cl [] X.env.qual none .none (some X.env)) (fun cenv s₄=>
    codeAny (model X.prog X.w) X.A (.compStart (.ListComp elt [⟨tg,iter,ifs,0⟩] scope pos) 0 it acc { cenv with scope:=relabel scope X.env }) (RR acc cenv.locals) s₄) X.xe s₃) X.xe s₂) X.xe s₁) X.xe s:=by
 refine thn (hi pins s σ H _ I h) fun v s1 h1=>thn h1 fun itv s2 h2=>?_;obtain⟨it,fp,tn,J,H2,e,I2,T,st2,f2,hD⟩:=h2;subst e;have hn2:H2 s2.heap.objs.size=none:=I2.hok.fresh (Nat.le_refl _);obtain⟨W,⟨m0,w0⟩,turn⟩:=hD s2.heap.objs.size hn2;refine wpAny_newObj_type (wpAny_newFunctionEnv ck.cell (by intro y hy;simp at hy) (fun h4 hns hsb=>?_) ck.kind);dsimp only at hns hsb ⊢;have I3:Inv X pins σ (upd H2 s2.heap.objs.size (.lst [])) { s2 with heap:=s2.heap.push { cls:=.type "list",dict:=none,data:=.seq ([]:List Value).toArray } }:=
  I2.laid (t':=s2.toks) (fun b u e=>Heap.get?_push_of_some _ e) (Nat.le_refl _) ⟨Nat.zero_le _,[],0,.nil,Heap.get?_push_size _ rfl⟩
 have hfs:∀b∈fp,b < s2.heap.objs.size:=fun b hb=>by
  obtain⟨o,e,_⟩:=T.obj 0 _ st2 b hb;exact Heap.lt_size e
 have f3:∀b∈fp,mU X pins (upd H2 s2.heap.objs.size (.lst [])) b:=fun b hb=>⟨by rw[aY (Nat.ne_of_lt (hfs b hb))];exact(f2 b hb).1,(f2 b hb).2⟩
 generalize hH3:upd H2 s2.heap.objs.size (.lst [])=H3 at *
 generalize hs3:({ s2 with heap:=s2.heap.push { cls:=.type "list",dict:=none,data:=.seq ([]:List Value).toArray } }:Shared)=s3 at *
 have z3:s3.heap=s2.heap.push { cls:=.type "list",dict:=none,data:=.seq ([]:List Value).toArray }:=by rw[<- hs3]
 have hsz3:s3.heap.objs.size=s2.heap.objs.size+1:=by rw[z3,Heap.size_push]
 rw[<- z3] at hns hsb ⊢;have hk4:∀b o,s3.heap.get? b=some o->h4.get? b=some o:=fun b o e=>hsb.extBut b o (Nat.ne_of_lt (Heap.lt_size e)) (Heap.get?_push_of_some _ e);have hfs3:∀b∈fp,b < s3.heap.objs.size:=fun b hb=>Nat.lt_of_lt_of_le (hfs b hb) (by rw[hsz3];exact Nat.le_succ _);have hns':h4.Ns s3.heap.objs.size fun _=>none:=by simpa using hns
 have K0:=fun tk=>Ge (tk:=tk) ck I3 f3 hfs3 hns' hk4;have stat:∀{H':Hp},(∀b∈fp,H' b=none)->∀b∈fp,mU (fF X scope cl Nc s3.heap.objs.size s3 H3 fp pins) [] H' b:=fun {H'} hn b hb=>by
  obtain⟨f0,g1,g2,g3,g4,g5⟩:=f3 b hb;refine⟨hn b hb,Nat.ne_of_lt (hfs3 b hb),fun z=>?_,.inl hb,fun x c e=>g4 x c (ck.sub x c e),fun p hp=>g5 p (by simpa using hp)⟩;exact(mem_cons.mp (I3.stkSub b z)).elim g1 g2
 have st4:tn 0 h4:=T.keep 0 _ _ st2 fun b hb o e=>hk4 b o (by rw[z3];exact Heap.get?_push_of_some _ e);have loop:∀tk,codeAny (model X.prog X.w) X.A (.compLoop (.ListComp elt [⟨tg,iter,ifs,0⟩] scope pos) 0 (.ref it) (.ref s2.heap.objs.size) (compEnvC scope cl s3.heap.objs.size X.env)) (RR (.ref s2.heap.objs.size) s3.heap.objs.size) { s3 with heap:=h4,toks:=tk }:=by
  intro tk;refine Js (fun n s'=>∃i ys H',Inv (fF X scope cl Nc s3.heap.objs.size s3 H3 fp pins) [] (σC nl fr σ) H' s'/\tn i s'.heap/\(∀b∈fp,H' b=none)/\W i n ys H') ?_ m0 ⟨0,[],H3,K0 tk,st4,fun b hb=>(f3 b hb).1,w0⟩;rintro n s5 ⟨i,ys,H5,I5,st5,fr5,w5⟩;obtain⟨hl5,q5⟩:=turn i n ys H5 w5;rcases q5 with ⟨stop,qn⟩ | ⟨go,step⟩
  ·refine wpAny_mono (T.done (fF X scope cl Nc s3.heap.objs.size s3 H3 fp pins) rfl rfl rfl hc i [] s5 (σC nl fr σ) H5 (fun _ _=>False) I5 (stat fr5) st5 stop) (fun r s6 h6=>?_) fun _ _ z=>z;obtain⟨hr,I6⟩:=h6;subst hr;obtain⟨z1,z2⟩:=Nx I3 f3 I6;refine fin _ _ _ ⟨H5,?_,z1,z2,qn⟩;obtain⟨m,hm,_⟩:=I6.loc;exact⟨m,hm⟩
  ·refine wpAny_mono (T.item (fF X scope cl Nc s3.heap.objs.size s3 H3 fp pins) rfl rfl rfl hc i [] s5 (σC nl fr σ) H5 (fun _ _=>False) I5 (stat fr5) st5 go) (fun r s6 h6=>?_) fun _ _ z=>z;obtain⟨u,hr,h6⟩:=h6;subst hr;refine wpAny_mono h6 (fun _ s7 h7=>?_) fun _ _ z=>z;obtain⟨x,H7,I7,r7,y7,st7,fr7⟩:=h7;have I7':=I7.pinned (stat fr7) (T.obj _ _ st7);refine wpAny_mono (hg s3.heap.objs.size s3 H3 fp pins _ s7 _ H7 x u _ I7' r7 (step x H7 y7)) (fun _ s8 h8=>?_) fun _ _ z=>z;obtain⟨σ8,H8,I8,l8,k8,q8⟩:=h8;refine wpAny_mono (ht s3.heap.objs.size s3 H3 fp pins _ s8 σ8 H8 _ I8 q8) (fun b s9 h9=>?_) fun _ _ z=>z;obtain⟨H9,I9,q9⟩:=h9;have again:∀{ys':List V} {H':Hp} {s':Shared} {m':Nat},Inv (fF X scope cl Nc s3.heap.objs.size s3 H3 fp pins) ([]++vZ fp s7.heap) σ8 H' s'->m' < n->W (i+1) m' ys' H'->
     ∃m,m < n/\∃i ys H',Inv (fF X scope cl Nc s3.heap.objs.size s3 H3 fp pins) [] (σC nl fr σ) H' s'/\tn i s'.heap/\(∀b∈fp,H' b=none)/\W i m ys H':=fun {ys' H' s' m'} I' hm w'=>by
    refine⟨m',hm,i+1,ys',H',I'.unpinned.weak l8.symm k8,T.keep _ _ _ st7 fun b hb o e=>(I'.pin (b,o) (mem_append_right _ (mem_append_right _ (jV hb e)))).1,fun b hb=>?_,w'⟩;obtain⟨o,e,d⟩:=T.obj _ _ st7 b hb;exact(I'.pin (b,o) (mem_append_right _ (mem_append_right _ (jV hb e)))).2.1
   cases b with
   |false=>
    rw[if_neg Bool.false_ne_true] at q9 ⊢;obtain⟨m',hm,w9⟩:=q9;exact again I9 hm w9
   |true=>
    rw[if_pos rfl] at q9 ⊢;refine wpAny_mono (he s3.heap.objs.size s3 H3 fp pins _ s9 σ8 H9 _ I9 q9) (fun yv s10 h10=>?_) fun _ _ z=>z;obtain⟨y,H10,I10,r10,hl10,hz10,m',hm,w10⟩:=h10;refine wpAny_mono (eY (X:=fF X scope cl Nc s3.heap.objs.size s3 H3 fp pins) _ s10 σ8 H10 (.ref s2.heap.objs.size) [y] _ [yv] (fun v H'=>H'=upd H10 s2.heap.objs.size (.lst (ys++[y]))) I10 rfl (.cons r10 .nil) ⟨_,ys,y,rfl,rfl,hl10,hz10,rfl⟩) (fun _ s11 h11=>?_) fun _ _ z=>z;obtain⟨_,H11,I11,_,e11⟩:=h11;subst e11;exact again I11 hm w10
 have L:=loop (s2.toks+([]:List (Str × Value)).length);rw[show s3.gens=s2.gens by rw[<- hs3],show s3.drawn=s2.drawn by rw[<- hs3],show s3.os=s2.os by rw[<- hs3]] at L;exact codeAny_compStart_list L (T.self _ 0 _ _ _ st4 L)
theorem hZ (hc:X.calm=true)(ck:Ap X scope cl Nc nl fr)(hi:PI X tg iter wi)(hg:∀C s3 H3 fp pins,PG (fF X scope cl Nc C s3 H3 fp pins) tg g)(ht:∀C s3 H3 fp pins,PIf (fF X scope cl Nc C s3 H3 fp pins) ifs tt)(he:∀C s3 H3 fp pins,PE (fF X scope cl Nc C s3 H3 fp pins) elt te)(hs:∀x,foldedSetIterable iter X.env x=pure x:=by intro _;rfl):PE X (.ListComp elt [⟨tg,iter,ifs,0⟩] scope pos) (My wi nl fr g tt te):=by
 intro pins s σ H Q I h;rw[eval_ListComp];refine wpAny_comprehension_free (use:=none) rfl hs ck.clos ck.kind ck.names (Dy (RR:=fun acc C=>compPost (model X.prog X.w) X.A X.xe none (EP X pins σ Q) acc C) hc ck hi hg ht he I h fun D C s' hh=>?_);obtain⟨H',⟨m,hm⟩,hI,hF,q⟩:=hh;exact⟨m,hm,fun h' hs'=>⟨.ref D,H',hI.off hF hs',rfl,q⟩⟩
theorem rY {i:Nat}{y:Str}{py spos:Pos}(hN:X.N.Nodup)(hiy:X.N[i]?=some y)(hy:X.env.scope.names.lookup y=some .local)(hc:X.calm=true)(ck:Ap X scope cl Nc nl fr)(hi:PI X tg iter wi)(hg:∀C s3 H3 fp pins,PG (fF X scope cl Nc C s3 H3 fp pins) tg g)(ht:∀C s3 H3 fp pins,PIf (fF X scope cl Nc C s3 H3 fp pins) ifs tt)(he:∀C s3 H3 fp pins,PE (fF X scope cl Nc C s3 H3 fp pins) elt te)(hsw:swapsWith (.ListComp elt [⟨tg,iter,ifs,0⟩] scope pos) (some (.Name y py)) spos.line X.env=pure true)(hs:∀x,foldedSetIterable iter X.env x=pure x:=by intro _;rfl):PS X (.Assign [.Name y py] (.ListComp elt [⟨tg,iter,ifs,0⟩] scope pos) spos) (Vu (My wi nl fr g tt te) (jQ i)):=by
 intro pins s σ H D I h;rw[exec_Assign_Name_used _ _ _ _ hsw];refine wpAny_bind (wpAny_standAt (wpAny_bind ?_));show wpAny _ X.A (do let _ <- comprehension (.ListComp elt [⟨tg,iter,ifs,0⟩] scope pos) scope X.env _ (newList []) false (eval iter X.env) (some (assign (.Name y py) X.env))) _ _ s;refine wpAny_bind (wpAny_mono (wpAny_comprehension_free (use:=some (assign (.Name y py) X.env)) (Q:=fun _ s'=>SP X pins D .next s') rfl hs ck.clos ck.kind ck.names
  (Dy (RR:=fun acc C=>compPost (model X.prog X.w) X.A X.xe (some (assign (.Name y py) X.env)) (fun _ s'=>SP X pins D .next s') acc C) hc ck hi hg ht he I h fun Dd C s' hh=>?_)) (fun _ s' hq=>wpAny_pure (wpAny_pure hq)) fun _ _ e=>e)
 obtain⟨H',⟨m,hm⟩,hI,hF,q⟩:=hh;show wpAny _ X.A (assign (.Name y py) X.env (.ref Dd)) _ _ _;refine wpAny_assign_Name (yH hI hN hiy (.inl hy) (v:=.ref Dd) rfl (fun s2 I2 hsb=>?_) (.inr hy));obtain⟨a,sb,ha⟩:=hsb;have hCa:C≠a:=by
  rcases ha with z | z
  ·rw[z];exact hF.2.1
  ·exact Ne.symm (hF.2.2.2.2.1 y a z)
 refine⟨m,hm.sameBut sb hCa,fun h' hs'=>⟨_,H',I2.off hF hs',q⟩⟩
end
end L2
namespace Mq
abbrev Q2:=Int × Int
def gc (a b:Int):Int:=(Int.gcd a b:Nat)
theorem Gn (a b:Int):gc b (Int.fmod a b)=gc a b:=by
 unfold gc;rw[Int.fmod_def,Int.gcd_comm a b,Int.sub_eq_add_neg,<- Int.mul_neg,Int.gcd_add_mul_left_right]
theorem xS {a b:Int}(h:b≠0):(Int.fmod a b).natAbs < b.natAbs:=by
 rcases (by lia:0 < b\/b < 0) with h1 | h1
 ·have:=Int.fmod_nonneg_of_pos a h1;have:=Int.fmod_lt_of_pos a h1;lia
 ·have h2:0 < -b:=by lia
  have e:Int.fmod a b=- Int.fmod (-a) (-b):=by
   rw[Int.neg_fmod_neg];lia
  have:=Int.fmod_nonneg_of_pos (-a) h2;have:=Int.fmod_lt_of_pos (-a) h2;lia
theorem Ii (a:Int):gc a 0=if a < 0 then -a else a:=by
 unfold gc;rw[Int.gcd_zero];split<;>lia
theorem Ym (a b:Int):gc (if a < 0 then -a else a) (if b < 0 then -b else b)=gc a b:=by
 unfold gc;split<;>split<;>simp
theorem vU {a b:Int}(h:b≠0):0 < gc a b:=by
 have:=Int.gcd_pos_of_ne_zero_right a h;unfold gc;lia
structure Low (p:Q2):Prop where
 pos:1<=p.2
 one:gc p.1 p.2=1
def dvr (t b:Int):Int:=if b < 0 then -gc t b else gc t b
def red (t b:Int):Q2:=(Int.fdiv t (dvr t b),Int.fdiv b (dvr t b))
theorem qG {t b:Int}(h:b≠0):dvr t b≠0:=by
 have:=vU (a:=t) h;unfold dvr;split<;>lia
theorem fG {a g k:Int}(hg:g≠0)(h:a=g*k):Int.fdiv a g=k:=by
 rw[h,Int.mul_fdiv_cancel_left _ hg]
theorem Rh (t b:Int):dvr t b ∣ t/\dvr t b ∣ b:=by
 have h1:gc t b ∣ t:=Int.gcd_dvd_left t b;have h2:gc t b ∣ b:=Int.gcd_dvd_right t b;unfold dvr;split
 ·exact⟨Int.neg_dvd.mpr h1,Int.neg_dvd.mpr h2⟩
 ·exact⟨h1,h2⟩
theorem rC {t b:Int}(h:b≠0):t=dvr t b*(red t b).1/\b=dvr t b*(red t b).2:=by
 obtain⟨⟨x,hx⟩,⟨y,hy⟩⟩:=Rh t b;have hg:=qG (t:=t) h;have e1:(red t b).1=x:=fG hg hx;have e2:(red t b).2=y:=fG hg hy;rw[e1,e2];exact⟨hx,hy⟩
theorem iA {t b:Int}(h:b≠0):Low (red t b):=by
 obtain⟨h1,h2⟩:=rC (t:=t) h;have hg:=qG (t:=t) h;have hp:=vU (a:=t) h;have nd:(dvr t b).natAbs=(gc t b).natAbs:=by unfold dvr;split<;>simp
 have e:Int.gcd t b=(dvr t b).natAbs*Int.gcd (red t b).1 (red t b).2:=by
  rw[<- Int.gcd_mul_left,<- h1,<- h2]
 have e2:(gc t b).natAbs=Int.gcd t b:=by unfold gc;simp
 rw[nd,e2] at e;have hp':0 < Int.gcd t b:=by unfold gc at hp;lia
 have one:Int.gcd (red t b).1 (red t b).2=1:=by
  have:Int.gcd t b*Int.gcd (red t b).1 (red t b).2=Int.gcd t b*1:=by lia
  exact Nat.eq_of_mul_eq_mul_left hp' this
 refine⟨?_,by unfold gc;rw[one];rfl⟩;have sgn:0 < (red t b).2:=by
  by_cases hb:b < 0
  ·have hd:dvr t b < 0:=by unfold dvr;rw[if_pos hb];lia
   have hq:¬(red t b).2<=0:=fun q=>by
    have:=Int.mul_nonneg_of_nonpos_of_nonpos (Int.le_of_lt hd) q;lia
   lia
  ·have hd:0 < dvr t b:=by unfold dvr;rw[if_neg hb];lia
   have hq:¬(red t b).2<=0:=fun q=>by
    have:=Int.mul_nonpos_of_nonneg_of_nonpos (Int.le_of_lt hd) q;lia
   lia
 lia
theorem yC {t b:Int}(h:b≠0):(red t b).1*b=t*(red t b).2:=by
 obtain⟨h1,h2⟩:=rC (t:=t) h;generalize (red t b).1=x at *
 generalize (red t b).2=y at *
 generalize dvr t b=g at *
 subst h1 h2;grind
theorem iS {a g k:Int}(hg:g≠0)(h:a=g*k):k.natAbs<=a.natAbs:=by
 rw[h,Int.natAbs_mul];exact Nat.le_mul_of_pos_left _ (by lia)
theorem kW {t b:Int}(h:b≠0):(red t b).1.natAbs<=t.natAbs/\(red t b).2.natAbs<=b.natAbs:=by
 obtain⟨h1,h2⟩:=rC (t:=t) h;exact⟨iS (qG h) h1,iS (qG h) h2⟩
theorem Et {t b:Int}(h:b≠0):(dvr t b).natAbs<=b.natAbs:=by
 have e:(dvr t b).natAbs=Int.gcd t b:=by unfold dvr gc;split<;>simp
 rw[e];exact Int.gcd_le_natAbs_right t h
theorem Mu {p q:Q2}(hp:Low p)(hq:Low q)(h:p.1*q.2=q.1*p.2):p=q:=by
 have gp:Int.gcd p.2 p.1=1:=by have:=hp.one;rw[Int.gcd_comm];unfold gc at this;lia
 have gq:Int.gcd q.2 q.1=1:=by have:=hq.one;rw[Int.gcd_comm];unfold gc at this;lia
 have d1:p.2 ∣ q.2:=by
  have:p.2 ∣ p.1*q.2:=⟨q.1,by rw[h,Int.mul_comm]⟩
  have:=Int.dvd_gcd_mul_iff_dvd_mul.mpr this;rw[gp] at this;simpa using this
 have d2:q.2 ∣ p.2:=by
  have:q.2 ∣ q.1*p.2:=⟨p.1,by rw[<- h,Int.mul_comm]⟩
  have:=Int.dvd_gcd_mul_iff_dvd_mul.mpr this;rw[gq] at this;simpa using this
 have l1:=Int.le_of_dvd (by have:=hq.pos;lia) d1;have l2:=Int.le_of_dvd (by have:=hp.pos;lia) d2;have e2:p.2=q.2:=by lia
 have e1:p.1=q.1:=by
  rw[e2] at h;exact Int.eq_of_mul_eq_mul_right (by have:=hq.pos;lia) h
 exact Prod.ext e1 e2
def oW (p q:Q2):Q2:=red (p.1*q.2+q.1*p.2) (p.2*q.2)
def minus (p q:Q2):Q2:=red (p.1*q.2 - q.1*p.2) (p.2*q.2)
def mY (p q:Q2):Q2:=red (p.1*q.1) (p.2*q.2)
def kU (p q:Q2):Q2:=red (p.1*q.2) (p.2*q.1)
theorem gZ {a b:Int}(ha:1<=a)(hb:1<=b):a*b≠0:=by
 have:=Int.mul_pos (show 0 < a by lia) (show 0 < b by lia);lia
theorem tV {p q:Q2}(hp:1<=p.2)(hq:1<=q.2):Low (oW p q):=iA (gZ hp hq)
def B (n:Nat)(i:Int):Prop:=i.natAbs < 2 ^ n
structure Bd (n:Nat) (p:Q2):Prop where
 a:B n p.1
 b:B n p.2
theorem B.mono {n m:Nat}{i:Int}(h:B n i)(l:n<=m):B m i:=Nat.lt_of_lt_of_le h (Nat.pow_le_pow_right (by decide) l)
theorem B.mul {n m:Nat}{i j:Int}(h:B n i)(q:B m j):B (n+m) (i*j):=by
 unfold B at *
 rw[Int.natAbs_mul,Nat.pow_add];exact Nat.mul_lt_mul'' h q
theorem B.add {n:Nat}{i j:Int}(h:B n i)(q:B n j):B (n+1) (i+j):=by
 unfold B at *
 have:=Int.natAbs_add_le i j;rw[Nat.pow_succ];lia
theorem B.neg {n:Nat}{i:Int}(h:B n i):B n (-i):=by unfold B at *;lia
theorem B.sub {n:Nat}{i j:Int}(h:B n i)(q:B n j):B (n+1) (i - j):=by
 rw[Int.sub_eq_add_neg];exact h.add q.neg
theorem B.le {n:Nat}{i j:Int}(h:B n i)(l:j.natAbs<=i.natAbs):B n j:=Nat.lt_of_le_of_lt l h
theorem Bd.mono {n m:Nat}{p:Q2}(h:Bd n p)(l:n<=m):Bd m p:=⟨h.a.mono l,h.b.mono l⟩
theorem Bc {n m:Nat}{p q:Q2}(h:Bd n p)(g:Bd m q)(hp:1<=p.2)(hq:1<=q.2):Bd (n+m+1) (oW p q):=by
 have k:=kW (t:=p.1*q.2+q.1*p.2) (gZ hp hq);have a2:B (n+m) (q.1*p.2):=by rw[Nat.add_comm];exact g.a.mul h.b
 exact⟨((h.a.mul g.b).add a2).le k.1,((h.b.mul g.b).mono (Nat.le_succ _)).le k.2⟩
def Pos (l:List Q2):Prop:=∀f∈l,1<=f.2
end Mq
open Mq (Bc Bd Et Gn Ii Low Q2 dvr fG gZ gc iA kU kW mY oW qG red tV xS)
namespace L2
open PySem PySem.Spec PyProof.Rows
section
variable {X:Cx} {e st:Expr} {te ts:TE} {p2 pos:Pos}
def qg7 (K:Frag)(te ts:TE):TE:=fun σ H Q=>te σ H fun x H1=>ts σ H1 fun y H2=>∃a xs,x=.ref a/\y=.int (-1)/\SqL K H2 a xs/\∀p,H2 p=none->Q (.ref p) (upd H2 p (.lst xs.reverse))
theorem Nw (he:PE X e te)(hst:PE X st ts):PE X (.Subscript e (.Slice none none (some st) p2) pos) (qg7 X.K te ts):=by
 intro pins s σ H Q I h;refine Subscript_ (thn (he pins s σ H _ I h) fun v s1 ⟨x,H1,I1,r1,q1⟩=>?_);refine wpAny_Slice ?_;rw[evalPart_none];refine wpAny_pure ?_;rw[evalPart_some];refine wpAny_pure ?_;refine thn (hst pins s1 σ H1 _ I1 q1) fun vk s3 ⟨y,H3,I3,rk,a,xs,ex,ey,hx,q⟩=>?_;subst ex ey
 cases r1
 obtain⟨tk,rfl⟩:=(show ∃t,vk=Value.int (-1) t from rk)
 have I4:Inv X pins σ H3 { s3 with heap:=s3.heap.push { cls:=.type "slice",data:=.fields #[.none,.none,.int (-1) tk] } }:=I3.kept (t':=s3.toks) fun b ob q=>Heap.get?_push_of_some _ q;obtain⟨its,r,ht,hz⟩:=I4.list hx;show wpAny (model X.prog X.w) X.A (subscriptTail e (.Slice none none (some st) p2) (.ref a) (.ref s3.heap.objs.size)) (EP X pins σ Q) X.xe { s3 with heap:=s3.heap.push { cls:=.type "slice",data:=.fields #[.none,.none,.int (-1) tk] } };refine tail_any (ops:=[.ref a,.ref s3.heap.objs.size]) ht.isList.typeIs slot_list_getitem.lookup ?_ (by with_unfolding_all rfl);refine wpAny_getItem_list_slice ht.isList (Heap.IsSliceOf.new ..) .none .none (.int (-1) tk) (by decide) ?_ (by rw[size_toArray,<- r.length];exact hz);rw[W.krv_pick];refine⟨.ref _,_,I4.laid (t':=s3.toks) (o:=.lst xs.reverse) (fun b ob q=>Heap.get?_push_of_some _ q) (Nat.le_refl _) ?_,rfl,q _ (I4.hok.fresh (Nat.le_refl _))⟩;exact⟨by rw[length_reverse];exact hz,_,0,r.reverse,Heap.get?_push_size _ rfl⟩
end
structure bZ (K:Frag) (x qual:Str) (st:Stmt) (dV:Value) (f:Addr) (fd:FuncData):Prop where
 ex:∃(oc:Value) (od:Option Addr) (kV doc pm:Value) (an:Option Addr) (cdv ct:Value) (osl:Array (Option Value)),
  fd=W.fnOf x qual (aR st) (aM st) (aD st) dV kV doc pm an cdv ct/\K.lookup f=some ⟨oc,od,.func fd,osl⟩/\W.codeIn K cdv qual=true
 kp:W.keepIn K (.ref f)=true
section
variable {P:Program} {w:World} {K:Frag} {mg:Str->Option Value} {base:Heap} {CX:CXT}
theorem bZ.okX {x qual:Str}{st:Stmt}{dV:Value}{f:Addr}{fd:FuncData}{N ps:List Str}{k:Nat}{sp:Sp}(F:bZ K x qual st dV f fd)(S:aT N ps (aD st))(len:∀vs H Q E,sp vs H Q E->vs.length=ps.length)(hbody:∀(cdv:Value) (A:Around) (outer:List Env) (s:Shared) (H:Hp) (vs:List V) (Q:VK) (E:XK),gR k (A.deeper (envOfC qual (aD st) s.heap.objs.size f cdv))->sp vs H Q E->
   ∃t,PSs (El CX P w K mg base N qual (aD st) f cdv A outer s H E) (aM st) t/\t { nx:=fun _ H'=>Q .non H',rt:=Q } (start N vs) H):aP P w K mg base CX (k+1) f fd ps sp:=by
 obtain⟨oc,od,kV,doc,pm,an,cdv,ct,osl,rfl,lk,hcd⟩:=F.ex;exact qa6 lk hcd S len fun A outer s H vs Q E hr hsp=>hbody cdv A outer s H vs Q E hr hsp
theorem bZ.ok {x qual:Str}{st:Stmt}{dV:Value}{f:Addr}{fd:FuncData}{N ps:List Str}{k:Nat}{sp:Sp}(F:bZ K x qual st dV f fd)(S:aT N ps (aD st))(len:∀vs H Q E,sp vs H Q E->vs.length=ps.length)(hbody:∀(cdv:Value) (A:Around) (outer:List Env) (s:Shared) (H:Hp) (vs:List V) (Q:VK) (E:XK),gR k (A.deeper (envOfC qual (aD st) s.heap.objs.size f cdv))->sp vs H Q E->
   ∃t,PSs (El CX P w K mg base N qual (aD st) f cdv A outer s H E).nox (aM st) t/\t { nx:=fun _ H'=>Q .non H',rt:=Q } (start N vs) H):aP P w K mg base CX (k+1) f fd ps sp:=
 F.okX S len fun cdv A outer s H vs Q E hr hsp=>by
  obtain⟨t,h,q⟩:=hbody cdv A outer s H vs Q E hr hsp;exact⟨t,h.nox,q⟩
theorem bZ.binds {x qual:Str}{st:Stmt}{dV:Value}{f:Addr}{fd:FuncData}{ps:List Str}(F:bZ K x qual st dV f fd)(h:∀(kV doc pm:Value) (an:Option Addr) (cdv ct:Value) (us:List Value),us.length=ps.length->bindArgs (W.fnOf x qual (aR st) (aM st) (aD st) dV kV doc pm an cdv ct) ⟨us,[]⟩=pure (ps.zip us)):aQ K fd ps []:=by
 obtain⟨oc,od,kV,doc,pm,an,cdv,ct,osl,rfl,lk,hcd⟩:=F.ex;exact .all (h kV doc pm an cdv ct)
theorem aU {x qual:Str}{st:Stmt}{dV:Value}{f:Addr}{oc:Value}{od an:Option Addr}{osl:Array (Option Value)}{kV doc pm cdv ct:Value}(l:K.lookup f=some ⟨oc,od,.func (W.fnOf x qual (aR st) (aM st) (aD st) dV kV doc pm an cdv ct),osl⟩)(c:W.codeIn K cdv qual=true)(k:kI9 K f):bZ K x qual st dV f (W.fnOf x qual (aR st) (aM st) (aD st) dV kV doc pm an cdv ct):=⟨⟨oc,od,kV,doc,pm,an,cdv,ct,osl,rfl,l,c⟩,k⟩
end
abbrev fT (p:Q2):HO:=.tup [.int p.1,.int p.2]
def Fq (K:Frag)(H:Hp)(a:Addr)(p:Q2):Prop:=SqT K H a [.int p.1,.int p.2]
theorem bC.seqT {K:Frag}{H H':Hp}{a:Addr}{xs:List V}(e:bC H H')(h:SqT K H a xs):SqT K H' a xs:=by
 rcases h with (h | ⟨o,h⟩) | h
 ·exact .inl (.inl (e _ _ h))
 ·exact .inl (.inr ⟨o,e _ _ h⟩)
 ·exact .inr h
theorem aI {H:Hp}{p:Addr}(h:H p=none)(o:HO):bC H (upd H p o):=fun b u q=>by rw[aY (aL q h)];exact q
theorem bC.fq {K:Frag}{H H':Hp}{a:Addr}{p:Q2}(e:bC H H')(h:Fq K H a p):Fq K H' a p:=e.seqT h
theorem Fq.of {K:Frag}{H:Hp}{a:Addr}{p:Q2}(h:H a=some (fT p)):Fq K H a p:=SqT.of h
theorem fC {K:Frag}{σ:St}{H:Hp}{i:Nat}{a:Addr}{p:Q2}{Q:VK}(hv:σ[i]?=some (some (.ref a)))(h:Fq K H a p)(q:Q (.int p.1) H):tOp (Td K) (Tc i) (tC (.int 0)) σ H Q:=
 ⟨_,hv,a,_,_,_,rfl,rfl,h,rfl,q⟩
theorem cY {K:Frag}{σ:St}{H:Hp}{i:Nat}{a:Addr}{p:Q2}{Q:VK}(hv:σ[i]?=some (some (.ref a)))(h:Fq K H a p)(q:Q (.int p.2) H):tOp (Td K) (Tc i) (tC (.int 1)) σ H Q:=
 ⟨_,hv,a,_,_,_,rfl,rfl,h,rfl,q⟩
theorem dA {H:Hp}{n m:Nat}{i j:Int}{Q:VK}(h1:Mq.B n i)(h2:Mq.B m j)(h3:n<=1048576)(h4:m<=1048576)(q:Q (.int (i*j)) H):rI Qu (fun i j=>.int (i*j)) (.int i) (.int j) H Q:=
 ⟨_,_,rfl,rfl,⟨n,m,h1,h2,h3,h4⟩,q⟩
theorem fQ {H:Hp}{n:Nat}{i j:Int}{Q:VK}(h1:j≠0)(h2:Mq.B n j)(h3:n<=9000)(q:Q (.int (i.fdiv j)) H):rI Hb (fun i j=>.int (i.fdiv j)) (.int i) (.int j) H Q:=
 ⟨_,_,rfl,rfl,⟨h1,n,h2,h3⟩,q⟩
structure Bl (mg:Str->Option Value):Prop where
 isi:mg "isinstance"=none
 int:mg "int"=none
 bool:mg "bool"=none
 abs:mg "abs"=none
def uU (t:Value):Prop:=t=.type "bool"\/t=.type "str"\/t=.type "NoneType"\/t=.type "tuple"\/t=.type "list"
def oV (K:Frag):Sp:=fun vs H Q _=>∃x,vs=[x]/\((∃i,x=.int i/\Q (.bl true) H)\/(∃t,mV K H x t/\uU t/\Q (.bl false) H))
def Ra:Sp:=fun vs H Q _=>∃a b:Int,vs=[.int a,.int b]/\Q (.int (gc a b)) H
def nV (H:Hp)(Q:VK)(p:Q2):Prop:=∀a H',bC H H'->H' a=some (fT p)->Q (.ref a) H'
def iW:Sp:=fun vs H Q _=>∃(t b:Int) (n:Nat),vs=[.int t,.int b]/\b≠0/\Mq.B n b/\n<=9000/\nV H Q (red t b)
def jF (K:Frag)(f:Q2->Q2->Q2):Sp:=fun vs H Q _=>∃(a b:Addr) (p q:Q2) (n m:Nat),vs=[.ref a,.ref b]/\Fq K H a p/\Fq K H b q/\1<=p.2/\1<=q.2/\Bd n p/\Bd m q/\n+m+1<=9000/\nV H Q (f p q)
inductive Fqs (K:Frag) (H:Hp):List V->List Q2->Prop where
 |nil:Fqs K H [] []
 |cons {a:Addr} {p:Q2} {xs:List V} {ps:List Q2} (h:Fq K H a p) (q:Fqs K H xs ps):Fqs K H (.ref a :: xs) (p :: ps)
theorem Fqs.same {K:Frag}{H H':Hp}(e:bC H H'):∀{xs:List V} {ps:List Q2},Fqs K H xs ps->Fqs K H' xs ps
 |_,_,.nil=>.nil
 |_,_,.cons h q=>.cons (e.fq h) (Fqs.same e q)
theorem Fqs.length {K:Frag}{H:Hp}:∀{xs:List V} {ps:List Q2},Fqs K H xs ps->xs.length=ps.length
 |_,_,.nil=>rfl
 |_,_,.cons _ q=>by simp[Fqs.length q]
theorem Fqs.get {K:Frag}{H:Hp}:∀{xs:List V} {ps:List Q2} {i:Nat} {x:V},Fqs K H xs ps->xs[i]?=some x->∃a p,x=.ref a/\ps[i]?=some p/\Fq K H a p
 |_,_,_,_,.nil,h=>by simp at h
 |_,_,0,_,.cons h _,e=>by simp at e;exact⟨_,_,e.symm,rfl,h⟩
 |_,_,i+1,_,.cons _ q,e=>by simpa using Fqs.get q (by simpa using e)
theorem Fqs.app {K:Frag}{H:Hp}:∀{xs ys:List V} {ps qs:List Q2},Fqs K H xs ps->Fqs K H ys qs->Fqs K H (xs++ys) (ps++qs)
 |_,_,_,_,.nil,r=>r
 |_,_,_,_,.cons h q,r=>.cons h (Fqs.app q r)
theorem Fq.upd {K:Frag}{H:Hp}{a l:Addr}{p:Q2}{xs:List V}{o:HO}(h:Fq K H a p)(hl:H l=some (.lst xs)):Fq K (L2.upd H l o) a p:=by
 rcases h with (h | ⟨u,h⟩) | h
 ·exact .inl (.inl (by rw[aY (dD h hl (fun z=>by cases z))];exact h))
 ·exact .inl (.inr ⟨u,by rw[aY (dD h hl (fun z=>by cases z))];exact h⟩)
 ·exact .inr h
theorem Fqs.upd {K:Frag}{H:Hp}{l:Addr}{ys:List V}{o:HO}(hl:H l=some (.lst ys)):∀{xs:List V} {ps:List Q2},Fqs K H xs ps->Fqs K (L2.upd H l o) xs ps
 |_,_,.nil=>.nil
 |_,_,.cons h q=>.cons (h.upd hl) (Fqs.upd hl q)
theorem bC.change {H H':Hp}{l:Addr}{o:HO}(s:bC H H')(h:H l=none):bC H (L2.upd H' l o):=fun b u q=>by
 rw[aY (aL q h)];exact s b u q
def qd (p:Q2):PyData:=.tuple [.int p.1,.int p.2]
theorem Fq.dat {K:Frag}{H:Hp}{a:Addr}{p:Q2}(h:Fq K H a p):oB K H (.ref a) (qd p):=.tup h (.cons (.int _) (.cons (.int _) .nil))
theorem Fqs.dat {K:Frag}{H:Hp}:∀{xs:List V} {ps:List Q2},Fqs K H xs ps->rF K H xs (ps.map qd)
 |_,_,.nil=>.nil
 |_,_,.cons h q=>.cons h.dat (Fqs.dat q)
theorem Es (p:Q2):(qd p).canLay0=true:=rfl
theorem Ar:∀ps:List Q2,PyData.canLayAll0 (ps.map qd)=true
 | []=>rfl
 |p :: r=>by
  show ((qd p).canLay0 && PyData.canLayAll0 (r.map qd))=true;rw[Es,Ar r];rfl
theorem Ee (p:Q2):(qd p).depth<=1:=by simp[qd,PyData.depth,PyData.depthAll]
theorem wW:∀ps:List Q2,PyData.depthAll (ps.map qd)<=1
 | []=>by simp[PyData.depthAll]
 |p :: r=>by
  have a:=Ee p;have b:=wW r;simp only[map_cons,PyData.depthAll];lia
theorem uB (ps:List Q2):(PyData.list (ps.map qd)).depth<=2:=by
 have:=wW ps;simp only[PyData.depth];lia
theorem Ww (p q:Q2):PyData.eqv (qd p) (qd q)=decide (p=q):=by
 unfold qd;simp only[PyData.eqv,PyData.eqvAll]
 by_cases h:p=q
 ·subst h;simp
 ·rw[decide_eq_false h]
  by_cases h1:p.1=q.1
  ·have h2:p.2≠q.2:=fun z=>h (Prod.ext h1 z);simp[h2]
  ·simp[h1]
theorem Xk {K:Frag}{H:Hp}{a b:Addr}{p q:Q2}{neg:Bool}{Q:VK}(h1:Fq K H a p)(h2:Fq K H b q)(z:Q (.bl (if neg then !decide (p=q) else decide (p=q))) H):Bi K neg (.ref a) (.ref b) H Q:=by
 refine⟨_,_,h1.dat,h2.dat,Es p,Es q,?_,?_⟩
 ·have:=Ee p;lia
 ·rw[Ww];exact z
abbrev Il (nl:Nat)(fr:List Nat)(g:TG)(tt:TT)(te:TE)(σ:St)(D:Addr)(Pv:Nat->List V->Hp->Prop)(i:Nat)(ys:List V)(x:V)(H:Hp):Prop:=
 g x (σC nl fr σ) H fun σ2 H4=>σ2.length=(σC nl fr σ).length/\(∀(i:Nat) v,(σC nl fr σ)[i]?=some (some v)->σ2[i]?=some (some v))/\
  tt σ2 H4 fun b H5=>if b=true then te σ2 H5 fun y H6=>H6 D=some (.lst ys)/\ys.length < sizeLine/\Pv (i+1) (ys++[y]) (upd H6 D (.lst (ys++[y]))) else Pv (i+1) ys H5
section
variable {nl:Nat} {fr:List Nat} {g:TG} {tt:TT} {te:TE} {σ:St} {D:Addr} {H1:Hp} {Q:VK}
theorem Fx {lo:Int}{n:Nat}(Pv:Nat->List V->Hp->Prop)(h0:Pv 0 [] (upd H1 D (.lst [])))(hl:∀i ys H,Pv i ys H->H D=some (.lst ys))(hs:∀i ys H,i < n->Pv i ys H->∀(C:Nat->List V->Hp->Prop),(∀ys H,Pv (i+1) ys H->C (i+1) ys H)->Il nl fr g tt te σ D C i ys (.int (lo+i)) H)(hd:∀ys H,Pv n ys H->Q (.ref D) H) :
  Cg (Itr lo n) nl fr g tt te σ D H1 Q:=by
 refine⟨fun i m ys H=>m=n - i/\i<=n/\Pv i ys H,⟨n,by simp,Nat.zero_le _,h0⟩,?_⟩;rintro i m ys H ⟨rfl,hi,p⟩;refine⟨hl i ys H p,?_⟩
 by_cases hlt:i < n
 ·refine .inr ⟨hlt,fun x H' y=>?_⟩;obtain⟨e,y⟩:=y;subst e y;exact hs i ys _ hlt p (fun j zs Hz=>∃m',m' < n - i/\m'=n - j/\j<=n/\Pv j zs Hz) fun zs Hz z=>⟨n - (i+1),by lia,rfl,hlt,z⟩
 ·have e:i=n:=by lia
  subst e;exact .inl ⟨Nat.le_refl _,hd ys H p⟩
theorem gB {K:Frag}{a:Addr}{xs:List V}(Pv:Nat->List V->Hp->Prop)(h0:Pv 0 [] (upd H1 D (.lst [])))(hl:∀i ys H,Pv i ys H->H D=some (.lst ys))(hx:∀i ys H,i<=xs.length->Pv i ys H->SqL K H a xs)(hs:∀i ys x H,xs[i]?=some x->Pv i ys H->∀(C:Nat->List V->Hp->Prop),(∀ys H,Pv (i+1) ys H->C (i+1) ys H)->Il nl fr g tt te σ D C i ys x H)(hd:∀ys H,Pv xs.length ys H->Q (.ref D) H) :
  Cg (Itl K a) nl fr g tt te σ D H1 Q:=by
 refine⟨fun i m ys H=>m=xs.length - i/\i<=xs.length/\Pv i ys H,⟨xs.length,by simp,Nat.zero_le _,h0⟩,?_⟩;rintro i m ys H ⟨rfl,hi,p⟩;refine⟨hl i ys H p,?_⟩;have q:=hx i ys H hi p
 by_cases hlt:i < xs.length
 ·refine .inr ⟨⟨xs,xs[i],q,by simp[hlt]⟩,fun x H' y=>?_⟩;obtain⟨e,y⟩:=y;subst e;exact hs i ys x _ (y xs q) p (fun j zs Hz=>∃m',m' < xs.length - i/\m'=xs.length - j/\j<=xs.length/\Pv j zs Hz) fun zs Hz z=>⟨xs.length - (i+1),by lia,rfl,hlt,z⟩
 ·have e:i=xs.length:=by lia
  subst e;exact .inl ⟨⟨xs,q,Nat.le_refl _⟩,hd ys H p⟩
end
theorem gS {fr:List Nat}{σ:St}{x:V}:((σC 1 fr σ).set 0 (some x)).length=(σC 1 fr σ).length/\∀(i:Nat) v,(σC 1 fr σ)[i]?=some (some v)->((σC 1 fr σ).set 0 (some x))[i]?=some (some v):=by
 refine⟨by simp,fun i v h=>?_⟩
 match i with
 |0=>unfold σC at h;simp at h
 |k+1=>rw[getElem?_set_ne (by lia)];exact h
theorem gP {names:List (Str × NameKind)}{cl:List (Str × Addr)}(h:names.all (fun y=>!(y.2 == .cell || y.2 == .free) || (cl.lookup y.1).isSome)=true)(x:Str)(hx:names.lookup x=some .cell\/names.lookup x=some .free):∃c,cl.lookup x=some c:=by
 have key:∀k,(k=NameKind.cell\/k=NameKind.free)->names.lookup x=some k->∃c,cl.lookup x=some c:=fun k hk e=>by
  have m:=all_eq_true.mp h _ (PySem.mem_of_lookup e);have:(k == NameKind.cell || k == NameKind.free)=true:=by rcases hk with rfl | rfl<;>rfl
  simp only[this,Bool.not_true,Bool.false_or] at m;exact Option.isSome_iff_exists.mp m
 rcases hx with e | e
 ·exact key _ (.inl rfl) e
 ·exact key _ (.inr rfl) e
section
variable {X:Cx} {pins:List (Addr × Obj)} {σ:St} {H:Hp} {s:Shared} {h':Heap}
theorem Inv.turnedL {t':Nat}{fp:List Addr}(I:Inv X pins σ H s)(k:∀b o,b∉fp->s.heap.get? b=some o->h'.get? b=some o)(hf:∀b∈fp,mU X pins H b):Inv X pins σ H { s with heap:=h',toks:=t' }:=by
 have nit:∀b u,H b=some u->b∉fp:=fun b u e z=>by rw[(hf b z).1] at e;cases e
 have nL:X.env.locals∉fp:=fun z=>(hf _ z).2.1 rfl;refine I.step (g':=s.gens) (d':=s.drawn) (ch:=fp) (fun b hb=>?_) (fun b o _ _ hc e _=>k b o hc e) (fun b o _ _ hc e _=>⟨o.slots,k b o hc e⟩) (fun _ _ _ _ n=>n)
  (fun b o hc e=>⟨o,k b o hc e⟩) (fun _ _ e=>e) (fun _ _ _ e=>e) (fun b ps e=>⟨#[],by rw[e];simp⟩) (fun m hm=>?_) (fun b u e=>?_) I.bare
 ·obtain⟨f0,f1,f2,f3,f4,f5⟩:=hf b hb;exact⟨f3,f1,f4,f5⟩
 ·obtain⟨o,es,ep,ho,r⟩:=hm;exact⟨o,es,ep,k _ o nL ho,r⟩
 ·refine(I.hok b u e).stay (fun c v hc q=>k c v ?_ q) (fun _ q=>q) fun _ _ q=>q;rcases hc with z | z
  ·rw[z];exact nit b u e
  ·exact nit c _ z
end
def Itz (K : Frag)(a b : Addr) : It :=
  ⟨fun i H => ∃ xs ys x y, SqL K H a xs /\ SqL K H b ys /\ xs[i]? = some x /\ ys[i]? = some y,
   fun i H v H' => ∃ T x y, v = .ref T /\ H T = none /\ H' = upd H T (.tup [x, y]) /\ ∀ xs ys, SqL K H a xs -> SqL K H b ys -> xs[i]? = some x /\ ys[i]? = some y,
   fun i H => ∃ xs ys, SqL K H a xs /\ SqL K H b ys /\ (xs.length <= i \/ ys.length <= i)⟩
def Zc (z TI TO i1 i2 l1 l2:Addr)(i:Nat)(h:Heap):Prop:=
 ZipApart z TI TO i1 i2 l1 l2/\IsZip h z TI TO .none/\IsPair h TI (.ref i1) (.ref i2)/\(∃a b,IsPair h TO a b)/\h.IsListIter i1 l1 i/\h.IsListIter i2 l2 i
theorem Oj {P:Program}{w:World}{K:Frag}{elts:List Expr}{kk:Nat}{tpos:Pos}(z TI TO i1 i2 l1 l2:Addr) :
  Ja P w K (.Tuple elts kk tpos) (Itz K l1 l2) [z,TI,TO,i1,i2] z (Zc z TI TO i1 i2 l1 l2) where
 mem:=by simp
 obj:=fun i h st b hb=>by
  obtain⟨ap,hz,hi,⟨a,c,ho⟩,⟨o1,e1,c1,d1⟩,⟨o2,e2,c2,d2⟩⟩:=st;simp only[mem_cons,not_mem_nil,or_false] at hb;rcases hb with rfl | rfl | rfl | rfl | rfl
  ·exact⟨_,hz,fun v q=>by cases q⟩
  ·exact⟨_,hi,fun v q=>by cases q⟩
  ·exact⟨_,ho,fun v q=>by cases q⟩
  ·exact⟨o1,e1,fun v q=>by rw[d1] at q;cases q⟩
  ·exact⟨o2,e2,fun v q=>by rw[d2] at q;cases q⟩
 keep:=fun i h h' st k=>by
  obtain⟨ap,hz,hi,⟨a,c,ho⟩,⟨o1,e1,c1,d1⟩,⟨o2,e2,c2,d2⟩⟩:=st;exact⟨ap,k _ (by simp) _ hz,k _ (by simp) _ hi,⟨a,c,k _ (by simp) _ ho⟩,⟨o1,k _ (by simp) _ e1,c1,d1⟩,⟨o2,k _ (by simp) _ e2,c2,d2⟩⟩
 item:=by
  intro X hP hw hK hc i pins s σ H E I hf st hg;subst hP hw hK;obtain⟨ap,hz,hi,⟨a,c,ho⟩,t1,t2⟩:=st;obtain⟨xs,ys,x,y,hx,hy,ex,ey⟩:=hg;obtain⟨its1,rv1,p1,z1⟩:=I.list hx;obtain⟨its2,rv2,p2,z2⟩:=I.list hy;obtain⟨u1,hu1,ru1⟩:=rv1.get ex;obtain⟨u2,hu2,ru2⟩:=rv2.get ey;refine wpAny_pyNext_zip_item ap hz hi ho t1 t2 p1.isList p2.isList (x:=u1) (y:=u2) (by simpa using hu1) (by simpa using hu2) fun h' g1 g2 g3 g4 g5 g6 kk'=>?_;have hn:H s.heap.objs.size=none:=I.hok.fresh (Nat.le_refl _);have lt:∀b∈[z,TI,TO,i1,i2],b < s.heap.objs.size:=fun b hb=>by
   simp only[mem_cons,not_mem_nil,or_false] at hb;obtain⟨o1,e1,_⟩:=t1;obtain⟨o2,e2,_⟩:=t2;rcases hb with rfl | rfl | rfl | rfl | rfl
   ·exact Heap.lt_size hz
   ·exact Heap.lt_size hi
   ·exact Heap.lt_size ho
   ·exact Heap.lt_size e1
   ·exact Heap.lt_size e2
  have I1:Inv X pins σ (upd H s.heap.objs.size (.tup [x,y])) { s with heap:=s.heap.push { cls:=.type "tuple",data:=.seq #[u1,u2] } }:=
   I.laid (t':=s.toks) (fun b o e=>Heap.get?_push_of_some _ e) (Nat.le_refl _) (show eJ X.prog X.w _ _ _ (.tup [x,y]) from ⟨zl9 2,[u1,u2],.cons ru1 (.cons ru2 .nil),IsTup.new _ _⟩)
  have hf1:∀b∈[z,TI,TO,i1,i2],mU X pins (upd H s.heap.objs.size (.tup [x,y])) b:=fun b hb=>⟨by rw[aY (Nat.ne_of_lt (lt b hb))];exact(hf b hb).1,(hf b hb).2⟩
  have k1:∀b o,b∉[z,TI,TO,i1,i2]->(s.heap.push { cls:=.type "tuple",data:=.seq #[u1,u2] }).get? b=some o->h'.get? b=some o:=fun b o nb e=>by
   simp only[mem_cons,not_mem_nil,or_false,not_or] at nb
   by_cases hb:b=s.heap.objs.size
   ·subst hb;rw[Heap.get?_push_size _ rfl] at e
    cases e
    exact g5
   ·have e0:s.heap.get? b=some o:=by rw[Heap.get?_push_ne _ _ _ hb] at e;exact e
    exact kk' b o nb.1 nb.2.2.1 nb.2.2.2.1 nb.2.2.2.2 e0
  have I2:Inv X pins σ (upd H s.heap.objs.size (.tup [x,y])) { s with heap:=h',toks:=s.toks }:=I1.turnedL (t':=s.toks) k1 hf1;refine⟨_,rfl,wpAny_letOwnedTupleGo_zip (s:={ s with heap:=h' }) g1 fun h2 q1 q2=>?_⟩;have kz:∀b o,b≠z->h'.get? b=some o->h2.get? b=some o:=fun b o nb e=>(q2.2 b nb).trans e;have I3:Inv X pins σ (upd H s.heap.objs.size (.tup [x,y])) { s with heap:=h2,toks:=s.toks }:=Inv.turnedL (s:={ s with heap:=h',toks:=s.toks }) (t':=s.toks) (fp:=[z]) I2 (fun b o nb e=>kz b o (by simpa using nb) e) fun b hb=>hf1 b (by simp at hb;simp[hb]);have hTI:h'.get? TI=some { cls:=.type "tuple",data:=.seq #[.ref i1,.ref i2] }:=kk' TI _ ap.TIz ap.TITO ap.TIi1 ap.TIi2 hi;obtain⟨o3,e3,c3,d3⟩:=g3;obtain⟨o4,e4,c4,d4⟩:=g4;refine⟨.ref s.heap.objs.size,_,I3,rfl,⟨_,x,y,rfl,hn,rfl,fun xs' ys' h1 h2=>?_⟩,⟨ap,q1,kz _ _ ap.TIz hTI,⟨_,_,kz _ _ ap.TOz g2⟩,⟨o3,kz _ _ ap.i1z e3,c3,d3⟩,⟨o4,kz _ _ ap.i2z e4,c4,d4⟩⟩,fun b hb=>(hf1 b hb).1⟩;rw[I.list_inj h1 hx,I.list_inj h2 hy];exact⟨ex,ey⟩
 done:=by
  intro X hP hw hK hc i pins s σ H E I hf st hg;subst hP hw hK;obtain⟨ap,hz,hi,⟨a,c,ho⟩,t1,t2⟩:=st;obtain⟨xs,ys,hx,hy,hor⟩:=hg;obtain⟨its1,rv1,p1,z1⟩:=I.list hx;obtain⟨its2,rv2,p2,z2⟩:=I.list hy;have l1':=rv1.length;have l2':=rv2.length;refine wpAny_pyNext_zip_end (I.ok.hd hc) ap hz hi ho t1 t2 p1.isList p2.isList (by rcases hor with h | h;left;simp;lia;right;simp;lia) fun h' kk'=>⟨rfl,?_⟩
  refine I.turnedL (t':=s.toks) (fun b o nb e=>?_) hf;simp only[mem_cons,not_mem_nil,or_false,not_or] at nb;exact kk' b o nb.1 nb.2.2.1 nb.2.2.2.1 nb.2.2.2.2 e
 self:=fun A i s Q E st h=>by
  obtain⟨ap,hz,hi,⟨a,c,ho⟩,t1,t2⟩:=st;exact wpAny_pyIter_zip hz h
section
variable {X:Cx}
def qg1 (K:Frag)(ta:TA):TI:=fun σ H R=>ta σ H fun vs H1=>∃a b,vs=[.ref a,.ref b]/\(∃xs,SqL K H1 a xs)/\(∃ys,SqL K H1 b ys)/\R (Itz K a b) H1
theorem Nv {e1 e2:Expr}{ta:TA}{p pos:Pos}{elts:List Expr}{kk:Nat}{tpos:Pos}(hg:Gl X "zip")(hm:X.mg "zip"=none)(hv:bootBuiltins "zip"=some (.type "zip"))(ha:PA X [e1,e2] ta)(hs:starEach [e1,e2] X.env=(false,eval e1 X.env) :: starEach [e2] X.env:=by rfl)(hpl:(backTo pos (starEach [e2] X.env)).any (·.1)=false:=by rfl):PI X (.Tuple elts kk tpos) (.Call (.Name "zip" p) [e1,e2] [] pos) (qg1 X.K ta):=by
 intro pins s σ H R I h;refine Call_ (jY I hg hm hv (PyProof.Rows.callWith_type1 (thn (ha pos pins s σ H _ I h) fun us s1 ⟨vs,H1,I1,r1,q1⟩=>?_) hs hpl));obtain⟨a,b,rfl,⟨xs,hx⟩,⟨ys,hy⟩,q⟩:=q1;obtain⟨u,w',rfl,ra,rb⟩:=Qj r1
 cases (show u=Value.ref a from ra)
 cases (show w'=Value.ref b from rb)
 obtain⟨its1,rv1,p1,z1⟩:=I1.list hx;obtain⟨its2,rv2,p2,z2⟩:=I1.list hy;have la:a < s1.heap.objs.size:=by obtain⟨o,e,_⟩:=p1.isList;exact Heap.lt_size e
 have lb:b < s1.heap.objs.size:=by obtain⟨o,e,_⟩:=p2.isList;exact Heap.lt_size e
 refine call_zip_2 p1.isList p2.isList fun h' g1 g2 g3 g4 g5 g6 kk'=>?_;refine wpAny_pyIter_zip g1 ?_;have ne:∀i j:Nat,i≠j->s1.heap.objs.size+i≠s1.heap.objs.size+j:=fun i j n e=>n (Nat.add_left_cancel e);have nl:∀(c:Addr) (i:Nat),c < s1.heap.objs.size->c≠s1.heap.objs.size+i:=fun c i l e=>absurd (Nat.lt_of_lt_of_le l (Nat.le_add_right _ i)) (by rw[<- e];exact Nat.lt_irrefl _);have n0:∀j:Nat,j≠0->s1.heap.objs.size+j≠s1.heap.objs.size:=fun j n e=>n (Nat.add_left_cancel (e.trans (Nat.add_zero _).symm));refine⟨s1.heap.objs.size+4,[s1.heap.objs.size+4,s1.heap.objs.size+2,s1.heap.objs.size+3,s1.heap.objs.size,s1.heap.objs.size+1],_,Itz X.K a b,H1,rfl,I1.kept (t':=s1.toks) kk',Oj _ _ _ _ _ a b,⟨?_,g1,g2,⟨_,_,g3⟩,g4,g5⟩,fun c hc=>?_,q⟩
 ·exact⟨ne 2 4 (by decide),ne 3 4 (by decide),(n0 4 (by decide)).symm,ne 1 4 (by decide),ne 2 3 (by decide),n0 2 (by decide),ne 2 1 (by decide),n0 3 (by decide),ne 3 1 (by decide),(n0 1 (by decide)).symm,
   nl a 4 la,nl a 3 la,Nat.ne_of_lt la,nl a 1 la,nl b 4 lb,nl b 3 lb,Nat.ne_of_lt lb,nl b 1 lb⟩
 ·have hle:s1.heap.objs.size<=c:=by
   simp only[mem_cons,not_mem_nil,or_false] at hc;rcases hc with rfl | rfl | rfl | rfl | rfl<;>first | exact Nat.le_add_right _ _ | exact Nat.le_refl _
  exact I1.fpOk hle (I1.hok.fresh hle)
theorem Cu {K:Frag}{a b:Addr}{xs ys:List V}{nl:Nat}{fr:List Nat}{g:TG}{tt:TT}{te:TE}{σ:St}{D:Addr}{H1:Hp}{Q:VK}(Pv:Nat->List V->Hp->Prop)(h0:Pv 0 [] (upd H1 D (.lst [])))(hl:∀i zs H,Pv i zs H->H D=some (.lst zs))(hx:∀i zs H,i<=min xs.length ys.length->Pv i zs H->SqL K H a xs/\SqL K H b ys)(hs:∀i zs x y H T,xs[i]?=some x->ys[i]?=some y->Pv i zs H->H T=none->∀(C:Nat->List V->Hp->Prop),(∀zs H,Pv (i+1) zs H->C (i+1) zs H)->Il nl fr g tt te σ D C i zs (.ref T) (upd H T (.tup [x,y])))(hd:∀zs H,Pv (min xs.length ys.length) zs H->Q (.ref D) H) :
  Cg (Itz K a b) nl fr g tt te σ D H1 Q:=by
 refine⟨fun i m zs H=>m=min xs.length ys.length - i/\i<=min xs.length ys.length/\Pv i zs H,⟨_,rfl,Nat.zero_le _,h0⟩,?_⟩;rintro i m zs H ⟨rfl,hi,p⟩;refine⟨hl i zs H p,?_⟩;obtain⟨qx,qy⟩:=hx i zs H hi p
 by_cases hlt:i < min xs.length ys.length
 ·have hx':i < xs.length:=by lia
  have hy':i < ys.length:=by lia
  refine .inr ⟨⟨xs,ys,xs[i],ys[i],qx,qy,by simp[hx'],by simp[hy']⟩,fun v H' z=>?_⟩;obtain⟨T,x,y,rfl,hT,rfl,hh⟩:=z;obtain⟨ex,ey⟩:=hh xs ys qx qy;exact hs i zs x y H T ex ey p hT (fun j zs Hz=>∃m',m' < min xs.length ys.length - i/\m'=min xs.length ys.length - j/\j<=min xs.length ys.length/\Pv j zs Hz) fun zs Hz z=>⟨min xs.length ys.length - (i+1),by lia,rfl,hlt,z⟩
 ·have e:i=min xs.length ys.length:=by lia
  subst e;exact .inl ⟨⟨xs,ys,qx,qy,by lia⟩,hd zs H p⟩
def Sb:V->List V->Hp->VK->Prop:=fun x vs H Q=>∃(l:Addr) (xs:List V) (k:Nat) (i:Int) (y:V),x=.ref l/\vs=[.int i,y]/\i=(k:Int)/\k<=xs.length/\H l=some (.lst xs)/\xs.length < sizeLine/\Q .non (upd H l (.lst (xs.take k++y :: xs.drop k)))
theorem Ki:MtM X "list.insert" Sb:=by
 intro pins s σ H x vs v us Q I rx rv h;obtain⟨l,xs,k,i,y,rfl,rfl,hik,hk,hH,hz,q⟩:=h
 cases rx
 obtain⟨u1,u2,rfl,⟨t,rfl⟩,ru⟩:=Qj rv;obtain⟨z,its,n,r,hl,e⟩:=I.lstM hH;have hs:sizeLine=16777216:=sizeLine_eq;have hfit:¬(!Builtin.List.listFitsIndex i)=true:=by
  rw[fitsIndex_both (by lia) (by lia)];exact Bool.false_ne_true
 have hM:=AutoSeq1.list_insert_list_int_val_1 l its.toArray n i t u2 hfit (by rw[size_toArray];lia);refine call_meets F.slot_list_insert ⟨_,e,rfl⟩ F.entry_list_insert (F.args_list_insert_3 (Value.ref l) (Value.int i t) u2) hM ⟨e,?_⟩;refine⟨.non,_,I.lset (its':=its.take k++u2 :: its.drop k) hH e ?_ ((r.take k).append (.cons ru (r.drop k))) ?_,rfl,q⟩
 ·have ek:(if i < 0 then (i+(its.toArray.size:Int)).toNat else min i.toNat its.toArray.size)=k:=by
   rw[if_neg (by lia),size_toArray];lia
  show (its.toArray.extract 0 (if i < 0 then (i+(its.toArray.size:Int)).toNat else min i.toNat its.toArray.size)).push u2++its.toArray.extract (if i < 0 then (i+(its.toArray.size:Int)).toNat else min i.toNat its.toArray.size)=_;rw[ek];apply Array.ext';simp[take_of_length_le]
 ·rw[length_append,length_cons,length_take,length_drop];lia
end
abbrev qh2:List Value:=[.type "ValueError",.type "Exception",.type "BaseException",.type "object"]
abbrev TEX:=St->Hp->VK->XK->Prop
abbrev TSX:=kY->(St->XK)->St->Hp->Prop
abbrev Cx.sup (X:Cx)(a:Addr):Cx:={ X with A:=X.A.mark (some (.ref a)),calm:=false,xe:=fun _ _=>False }
abbrev TH:=Addr->Value->Option Addr->kY->St->Hp->Prop
end L2
namespace Mq
theorem iQ {p q:Q2}(hp:1<=p.2)(hq:1<=q.2):Low (minus p q):=iA (gZ hp hq)
theorem xD {p q:Q2}(hp:1<=p.2)(hq:1<=q.2):Low (mY p q):=iA (gZ hp hq)
theorem sZ {p q:Q2}(hp:1<=p.2)(hq:q.1≠0):p.2*q.1≠0:=Int.mul_ne_zero (by lia) hq
theorem tO {p q:Q2}(hp:1<=p.2)(hq:q.1≠0):Low (kU p q):=iA (sZ hp hq)
theorem oQ {n m:Nat}{p q:Q2}(h:Bd n p)(g:Bd m q)(hp:1<=p.2)(hq:1<=q.2):Bd (n+m+1) (minus p q):=by
 have k:=kW (t:=p.1*q.2 - q.1*p.2) (gZ hp hq);have a2:B (n+m) (q.1*p.2):=by rw[Nat.add_comm];exact g.a.mul h.b
 exact⟨((h.a.mul g.b).sub a2).le k.1,((h.b.mul g.b).mono (Nat.le_succ _)).le k.2⟩
theorem Cf {n m:Nat}{p q:Q2}(h:Bd n p)(g:Bd m q)(hp:1<=p.2)(hq:1<=q.2):Bd (n+m) (mY p q):=by
 have k:=kW (t:=p.1*q.1) (gZ hp hq);exact⟨(h.a.mul g.a).le k.1,(h.b.mul g.b).le k.2⟩
theorem zT {n m:Nat}{p q:Q2}(h:Bd n p)(g:Bd m q)(hp:1<=p.2)(hq:q.1≠0):Bd (n+m) (kU p q):=by
 have k:=kW (t:=p.1*q.2) (sZ hp hq);exact⟨(h.a.mul g.b).le k.1,(h.b.mul g.a).le k.2⟩
end Mq
open Mq (Cf iQ oQ tO xD zT)
namespace L2
open PySem PySem.Spec PyProof.Rows
def Hd (K:Frag):Sp:=fun vs H Q _=>∃(a b:Addr) (p q:Q2) (n m:Nat),vs=[.ref a,.ref b]/\Fq K H a p/\Fq K H b q/\Bd n p/\Bd m q/\n+m+1<=9000/\Q (.bl (decide (p.1*q.2 < q.1*p.2))) H
inductive TyQ (K:Frag) (H:Hp):V->Value->Prop where
 |of {x:V} {t:Value} (h:mV K H x t):TyQ K H x t
 |tup {a:Addr} {xs:List V} (h:SqT K H a xs):TyQ K H (.ref a) (.type "tuple")
 |lst {a:Addr} {xs:List V} (h:SqL K H a xs):TyQ K H (.ref a) (.type "list")
section
variable {X:Cx} {pins:List (Addr × Obj)} {σ:St} {H:Hp} {s:Shared} {A:Around} {E:Value->Shared->Prop} {Q:Value->Shared->Prop} {c:Value} {b:Bool}
theorem Ey {x:V}{u t:Value}(I:Inv X pins σ H s)(rx:cH x u)(ty:TyQ X.K H x t)(e:W.kitOne X.K t c=some b)(h:∀tk,Q (.bool b) { s with toks:=tk }) :
  wpAny (model X.prog X.w) A (call (.builtin "isinstance") [u,c]) Q E s:=by
 cases ty with
 |of ty=>exact Kf I rx ty e h
 | @tup a xs ht=>
  cases (show u=Value.ref a from rx)
  obtain⟨its,_,p,_⟩:=I.tuple ht;obtain⟨o,h1,h2,_⟩:=p;exact W.kia_one W.kitx_tuple I.kIn ⟨o,h1,h2⟩ e (fun z=>nomatch z) h
 | @lst a xs ht=>
  cases (show u=Value.ref a from rx)
  obtain⟨its,_,p,_⟩:=I.list ht;obtain⟨o,h1,h2,_⟩:=p.isList;exact W.kia_one W.kitx_list I.kIn ⟨_,h1,h2⟩ e (fun z=>nomatch z) h
end
section
variable {X:Cx}
theorem Lg:vS X (.builtin "isinstance") (fun xs H Q=>∃x n t b,xs=[x,.ty n]/\TyQ X.K H x t/\W.kitOne X.K t (.type n)=some b/\Q (.bl b) H):=by
 intro pins s σ H vs us Q I rv h;obtain⟨x,n,t,b,rfl,ty,e,q⟩:=h;obtain⟨u,u2,rfl,r1,r2⟩:=Qj rv
 cases (show u2=Value.type n from r2)
 exact Ey I r1 ty e fun tk=>⟨.bl b,H,I.tok tk,rfl,q⟩
theorem iN {i:Nat}{x T:Str}{T':String}{p1 p2 p3 pos:Pos}(hN:X.N[i]?=some x)(hv:Vis X.env.scope x)(b:X.mg "isinstance"=none)(b2:X.mg T=none)(g1:Gl X "isinstance")(g2:Gl X T)(hT:bootBuiltins T=some (.type T'))(hd:(x == ("__debug__":Str))=false:=by decide)(hcd:(x == ("__classdict__":Str))=false:=by decide)(hTn:T≠"__name__":=by decide)(hTd:(T == ("__debug__":Str))=false:=by decide)(he:starEach [.Name x p2,.Name T p3] X.env=(false,eval (.Name x p2) X.env) :: starEach [.Name T p3] X.env:=by rfl)(he2:starEach [.Name T p3] X.env=(false,eval (.Name T p3) X.env) :: starEach [] X.env:=by rfl)(hpl:(backTo pos (starEach [.Name T p3] X.env)).any (·.1)=false:=by rfl) :
  PE X (.Call (.Name "isinstance" p1) [.Name x p2,.Name T p3] [] pos) (fun σ H Q=>∃v t b,σ[i]?=some (some v)/\TyQ X.K H v t/\W.kitOne X.K t (.type T')=some b/\Q (.bl b) H):=by
 have h:=cI (X:=X) (pos:=pos) (p:=p1) Lg g1 b PyProof.Rows.boot_isinstance (aA (Lr (i:=i) (pos:=p2) hN hv hd hcd) (aA (Up (v:=.ty T') (pos:=p3) g2 b2 hT rfl hTn hTd) aE he2) he) (by decide) (by decide) he hpl;intro pins s σ H Q I q;obtain⟨v,t,bb,h1,h2,h3,h4⟩:=q;exact h pins s σ H Q I ⟨v,h1,v,T',t,bb,rfl,h2,h3,h4⟩
end
theorem SqT.upd {K:Frag}{H:Hp}{a l:Addr}{xs ys:List V}{o:HO}(h:SqT K H a xs)(hl:H l=some (.lst ys)):SqT K (L2.upd H l o) a xs:=by
 rcases h with (h | ⟨u,h⟩) | h
 ·exact .inl (.inl (by rw[aY (dD h hl (fun z=>by cases z))];exact h))
 ·exact .inl (.inr ⟨u,by rw[aY (dD h hl (fun z=>by cases z))];exact h⟩)
 ·exact .inr h
theorem Du {K:Frag}{H:Hp}:∀ns:List Int,rF K H (ns.map V.int) (ns.map PyData.int)
 | []=>.nil
 |n :: r=>.cons (.int n) (Du r)
theorem Bx:∀ns:List Int,PyData.canLayAll0 (ns.map PyData.int)=true
 | []=>rfl
 |n :: r=>by
  show ((PyData.int n).canLay0 && PyData.canLayAll0 (r.map PyData.int))=true;rw[Bx r];rfl
theorem Bw (ns:List Int)(lo hi:Option Int):∃ms:List Int,kK (ns.map V.int) lo hi=ms.map V.int/\ms.length<=ns.length:=by
 refine⟨(ns.drop (HT.sIx (ns.map V.int).length 0 lo)).take (HT.sIx (ns.map V.int).length (ns.map V.int).length hi - HT.sIx (ns.map V.int).length 0 lo),?_,?_⟩
 ·unfold kK;rw[map_take,map_drop]
 ·rw[length_take,length_drop];lia
theorem Mt {K:Frag}{H:Hp}{a b:Addr}{ns:List Int}{neg:Bool}{Q:VK}(h1:SqL K H a (ns.map V.int))(h2:SqL K H b [])(z:Q (.bl (if neg then !ns.isEmpty else ns.isEmpty)) H):Bi K neg (.ref a) (.ref b) H Q:=by
 refine⟨_,_,.lst h1 (Du ns),.lst h2 .nil,Bx ns,rfl,?_,?_⟩
 ·have:(PyData.list []).depth<=1:=by decide
  lia
 ·cases ns<;>exact z
theorem mX {fr:List Nat}{σ:St}{x y:V}:(((σC 2 fr σ).set 0 (some x)).set 1 (some y)).length=(σC 2 fr σ).length/\∀(i:Nat) v,(σC 2 fr σ)[i]?=some (some v)->(((σC 2 fr σ).set 0 (some x)).set 1 (some y))[i]?=some (some v):=by
 refine⟨by simp,fun i v h=>?_⟩
 match i with
 |0=>unfold σC at h;simp at h
 |1=>unfold σC at h;simp at h
 |k+2=>rw[getElem?_set_ne (by lia),getElem?_set_ne (by lia)];exact h
theorem Fqs.set {K:Frag}{H:Hp}{a:Addr}{p:Q2}(h:Fq K H a p):∀{xs:List V} {ps:List Q2} (i:Nat),Fqs K H xs ps->Fqs K H (xs.set i (.ref a)) (ps.set i p)
 |_,_,_,.nil=>.nil
 |_,_,0,.cons _ q=>.cons h q
 |_,_,i+1,.cons g q=>.cons g (Fqs.set h i q)
theorem Fqs.at {K:Frag}{H:Hp}:∀{xs:List V} {ps:List Q2} {i:Nat} {p:Q2},Fqs K H xs ps->ps[i]?=some p->∃a,xs[i]?=some (.ref a)/\Fq K H a p
 |_,_,_,_,.nil,h=>by simp at h
 |_,_,0,_,.cons h _,e=>by simp at e;subst e;exact⟨_,rfl,h⟩
 |_,_,i+1,_,.cons _ q,e=>by simpa using Fqs.at q (by simpa using e)
theorem uI {n:Nat}{i:Int}(lo:-(2 ^ n:Int) < i)(hi:i < 2 ^ n):Mq.B n i:=by
 unfold Mq.B;have e:((2 ^ n:Nat):Int)=2 ^ n:=by simp
 lia
theorem Bp (X:Cx):∀l:List (Int × _ × Pos),PA X (l.map fun q=>Expr.Constant (.int q.1) q.2.1 q.2.2) (fun _ H Q=>Q (l.map fun q=>V.int q.1) H)
 | []=>aE
 |q :: l=>aA (te:=tC (.int q.1)) aF (Bp X l) rfl
theorem jX {n k:Nat}(h:k < n):ixN n (k:Int)=some k:=by
 unfold ixN;rw[if_pos (by lia),if_pos (by lia)];simp
section
variable {X:Cx} {tg:Expr}
def qg5 (K:Frag):List V->Hp->VK->Prop:=fun xs H Q=>∃(p:Addr) (bs:List Bool),xs=[.ref p]/\SqL K H p (bs.map V.bl)/\Q (.bl (bs.all id)) H
theorem Pq (hc:X.calm=true):vS X (.builtin "all") (qg5 X.K):=by
 intro pins s σ H xs us Q I r h;obtain⟨p,bs,rfl,hq,q⟩:=h;obtain⟨u,rfl,rx⟩:=Ea r
 cases rx
 obtain⟨its,rv,pl,hz⟩:=I.list hq;have hlen:its.toArray.size=bs.length:=by rw[size_toArray,<- rv.length,length_map]
 have hne:p≠s.heap.objs.size:=by
  obtain⟨o,e,_⟩:=pl.isList;exact Nat.ne_of_lt (Heap.lt_size e)
 refine call_all_walk (wpAny_pyIter_list pl.isList ?_);refine⟨s.heap.objs.size,_,_,_,_,_,fun i=>bs.getD i false,rfl,Walks.list (by exact I.ok.hd hc) s.heap.objs.size p hne its.toArray,⟨⟨_,Heap.get?_push_size _ rfl,rfl,rfl⟩,?_⟩,?_,?_⟩
 ·obtain⟨o,e,c⟩:=pl.isList;exact⟨o,Heap.get?_push_of_some _ e,c⟩
 ·intro i v s' Q' E' hv q';have hv':its[i]?=some v:=by simpa using hv
  have hi:i < its.length:=(List.getElem?_eq_some_iff.mp hv').1;have hb:(bs.map V.bl)[i]?=some (.bl (bs.getD i false)):=by
   rw[getElem?_map,getElem?_eq_getElem (by rw[<- hlen];simpa using hi)];simp[List.getD,getElem?_eq_getElem (show i < bs.length by rw[<- hlen];simpa using hi)]
  obtain⟨u,hu,ru⟩:=rv.get hb;have e:u=v:=by rw[hv'] at hu;cases hu;rfl
  subst e
  cases ru
  exact wpAny_truthy_bool q'
 ·intro h' tk kk;have e:(range its.toArray.size).all (fun i=>bs.getD i false)=bs.all id:=by
   rw[hlen,Bool.eq_iff_iff,all_eq_true,all_eq_true];constructor
   ·intro z b hb;obtain⟨i,hi,rfl⟩:=getElem_of_mem hb;have:=z i (mem_range.mpr hi);simpa[List.getD,getElem?_eq_getElem hi] using this
   ·intro z i hi;have hi':=mem_range.mp hi;have:=z bs[i] (getElem_mem hi');simpa[List.getD,getElem?_eq_getElem hi'] using this
  rw[e];refine⟨.bl _,H,I.kept (t':=tk) fun b o hb=>?_,rfl,q⟩;have hb2:b≠s.heap.objs.size:=Nat.ne_of_lt (Heap.lt_size hb);exact kk b o (by simpa using hb2) (Heap.get?_push_of_some _ hb)
end
def Nm {ι:Type}(C:ι->Addr)(m:Str)(sp:ι->Sp)(dvs:List V)(E:XK)(ta:TE)(t:TA):TE:=fun σ H Q=>ta σ H fun x H1=>∃i a dx fs,x=.ref a/\H1 a=some (.ins (C i) dx fs)/\fs.lookup m=none/\
 t σ H1 fun vs H2=>sp i (x :: (vs++dvs)) H2 Q E
section
variable {X:Cx} {ι:Type} {C f:ι->Addr} {fd:ι->FuncData} {sp:ι->Sp} {m:Str} {CX:CXT} {k:Nat} {ps:List Str} {ds:List Value} {dvs:List V} {E:XK} {o e:Expr} {es:List Expr} {ta:TE} {t:TA} {apos pos:Pos}
theorem Cp {pl:Sem Bool}(he:PE X o ta)(c:∀i,Cls X.K (C i))(hm:∀i,dX X.K (C i) m (f i))(F:∀i,aP X.prog X.w X.K X.mg X.base CX k (f i) (fd i) ps (sp i))(hr:gR k X.A)(hb:∀i,aQ X.K (fd i) ps ds)(hd:cB dvs ds)(hx:kB CX X E)(ha:PA X (e :: es) t)(hst:starEach (e :: es) X.env=(false,eval e X.env) :: starEach es X.env:=by rfl)(hpl:(backTo pos (starEach es X.env)).any (·.1)=false:=by rfl)(ht:eval (.Call (.Attribute o m apos) (e :: es) [] pos) X.env=(do
   let ov <- eval o X.env
   standAt apos.atName
   let (f,first) <- holding [ov] (getMethod ov m pl)
   callWith pos f first (backTo pos (starEach (e :: es) X.env)) (backToKw pos (keywordEach [] X.env))):=by rfl) :
  PE X (.Call (.Attribute o m apos) (e :: es) [] pos) (Nm C m sp dvs E ta t):=by
 intro pins s σ H Q I h;refine W.methodCall_KW (pl:=pl) (thn (he pins s σ H _ I h) fun u s1 ⟨x,H1,I1,rx,i,a,dx,fs,ex,ea,l,q⟩=>?_) ht;subst ex;obtain rfl:u=Value.ref a:=rx;refine kA I1 ea (c i) (hm i) l ?_;refine W.callWith_K (first:=[.ref a]) (h₀:=X.base) I.ok.mod.kin (hm i).kp (thn (ha pos pins s1 σ H1 _ I1 q) fun us s2 ⟨vs,H2,I2,r,q2⟩=>⟨I2.kIn,?_⟩) hst hpl;exact vT (us:=.ref a :: us) (vs:=.ref a :: vs) (F i) hr (hb i) hd hx I2 (.cons rfl r) q2
theorem dZ {pl:Sem Bool}(he:PE X o ta)(c:∀i,Cls X.K (C i))(hm:∀i,dX X.K (C i) m (f i))(F:∀i,aP X.prog X.w X.K X.mg X.base CX k (f i) (fd i) ps (sp i))(hr:gR k X.A)(hb:∀i,aQ X.K (fd i) ps ds)(hd:cB dvs ds)(hx:kB CX X E)(ht:eval (.Call (.Attribute o m apos) [] [] pos) X.env=(do
   let ov <- eval o X.env
   standAt apos.atName
   let (f,first) <- holding [ov] (getMethod ov m pl)
   callWith pos f first (backTo pos (starEach [] X.env)) (backToKw pos (keywordEach [] X.env))):=by rfl) :
  PE X (.Call (.Attribute o m apos) [] [] pos) (Nm C m sp dvs E ta Yt):=by
 intro pins s σ H Q I h;refine W.methodCall_KW (pl:=pl) (thn (he pins s σ H _ I h) fun u s1 ⟨x,H1,I1,rx,i,a,dx,fs,ex,ea,l,q⟩=>?_) ht;subst ex;obtain rfl:u=Value.ref a:=rx;refine kA I1 ea (c i) (hm i) l ?_;exact W.callWith_K0 (first:=[.ref a]) I1.kIn (hm i).kp (vT (us:=[.ref a]) (vs:=[.ref a]) (F i) hr (hb i) hd hx I1 (.cons rfl .nil) q)
end
inductive Kd where
 |pc | pu | ho
 deriving DecidableEq
def Kd.wd:Kd->Str
 | .pc=>"piece"
 | .pu=>"push"
 | .ho=>"hold"
def Kd.cn:Kd->Str
 | .pc=>"Piece"
 | .pu=>"Push"
 | .ho=>"Hold"
theorem Kd.wd_inj {k j:Kd}(h:k.wd=j.wd):k=j:=by
 cases k<;>cases j<;>first | rfl | exact absurd h (by decide +kernel)
theorem fsg:¬(("start":Str) = "goal"):=by decide +kernel
theorem fsz:¬(("start":Str) = "size"):=by decide +kernel
theorem fgz:¬(("goal":Str) = "size"):=by decide +kernel
def jN (s g z:V):List (Str × V):=cP "size" z (cP "goal" g (cP "start" s []))
theorem dF (s g z:V):(jN s g z).lookup ("start":Str)=some s:=by
 unfold jN;rw[bK,if_neg fsz,bK,if_neg fsg,bK,if_pos rfl]
theorem dS (s g z:V):(jN s g z).lookup ("goal":Str)=some g:=by
 unfold jN;rw[bK,if_neg fgz,bK,if_pos rfl]
theorem eU (s g z:V):(jN s g z).lookup ("size":Str)=some z:=by
 unfold jN;rw[bK,if_pos rfl]
theorem cV (s g z:V){m:Str}(h1:¬m = "start")(h2:¬m = "goal")(h3:¬m = "size"):(jN s g z).lookup m=none:=by
 unfold jN;rw[bK,if_neg h3,bK,if_neg h2,bK,if_neg h1];rfl
def Rw (CK:Kd->Addr)(H:Hp)(x:Addr)(k:Kd)(s g z:V):Prop:=∃dx,H x=some (.ins (CK k) dx (jN s g z))
theorem Rw.same {CK:Kd->Addr}{H H':Hp}{x:Addr}{k:Kd}{s g z:V}(e:bC H H')(h:Rw CK H x k s g z):Rw CK H' x k s g z:=let ⟨dx,q⟩:=h;⟨dx,e _ _ q⟩
theorem Rw.upd {CK:Kd->Addr}{H:Hp}{x l:Addr}{k:Kd}{s g z:V}{ys:List V}{o:HO}(h:Rw CK H x k s g z)(hl:H l=some (.lst ys)):Rw CK (L2.upd H l o) x k s g z:=let ⟨dx,q⟩:=h;⟨dx,by rw[aY (dD q hl (fun z=>by cases z))];exact q⟩
structure RT (K:Frag) (mg:Str->Option Value) (CR:Addr) (CK:Kd->Addr):Prop where
 cl:∀k,Cls K (CK k)
 nS:∀k,gG K (CK k) "start"
 nG:∀k,gG K (CK k) "goal"
 nZ:∀k,gG K (CK k) "size"
 t1:∀k,W.findIn K (.ref (CK k)) "__class__"=some (some (.builtin "object.__class__"))
 t2:W.specialIn K (.builtin "object.__class__") "__get__"=some (some (.builtin "getset_descriptor.__get__"))
 t3:W.takesIn K (.builtin "object.__class__")=some true
 t4:∀k,W.mroIn K (CK k) (.type "object")=some true
 isR:∀k,W.kitOne K (.ref (CK k)) (.ref CR)=some true
 isK:∀k j,W.kitOne K (.ref (CK k)) (.ref (CK j))=some (decide (k=j))
 mR:mg "Row"=some (.ref CR)
 mK:∀k,mg (Kd.cn k)=some (.ref (CK k))
section
variable {K:Frag} {mg:Str->Option Value} {CR:Addr} {CK:Kd->Addr} {H:Hp} {x:Addr} {k:Kd} {s g z:V}
theorem Rw.new {C x dx:Addr}{fs:List (Str × V)}(h1:H x=none)(h2:H dx=none)(ne:dx≠x):bC H (L2.upd (L2.upd H dx (.own x)) x (.ins C dx fs)):=fun b o e=>by
 rw[aY (aL e h1),aY (aL e h2)];exact e
end
def zN (CK:Kd->Addr):Sp:=fun vs H Q _=>∃(x dx:Addr) (k:Kd) (s g z:V),vs=[.ref x,s,g,z]/\H x=some (.ins (CK k) dx [])/\Q .non (upd H x (.ins (CK k) dx (jN s g z)))
def jE (k:Kd):Sp:=fun vs H Q _=>∃x,vs=[x]/\Q (.str k.wd) H
def pC (k:Kd):Sp:=fun vs H Q _=>∃x,vs=[x]/\Q (.bl (decide (k≠.pu))) H
def As (CK:Kd->Addr):Sp:=fun vs H Q _=>∃(x:Addr) (k:Kd) (s g z:V),vs=[.ref x]/\Rw CK H x k s g z/\∀t,H t=none->Q (.ref t) (upd H t (.tup [.str k.wd,s,g,z]))
def qg0 (CK:Kd->Addr)(H:Hp)(Q:VK)(k:Kd)(s g z:V):Prop:=∀x H',bC H H'->H x=none->Rw CK H' x k s g z->Q (.ref x) H'
theorem Oi {K:Frag}{H:Hp}{x y:V}{d:PyData}{neg:Bool}{Q:VK}(h1:oB K H x d)(h2:oB K H y d)(hl:d.canLay0=true)(hd:d.depth<=16)(z:Q (.bl (!neg)) H):Bi K neg x y H Q:=by
 refine⟨d,d,h1,h2,hl,hl,by lia,?_⟩;have e:PyData.eqv d d=true:=PySem.SeqAt.eqv_refl _ hl;rw[e]
 cases neg<;>exact z
def rd4 (w:Str)(i j:Int)(p:Q2):PyData:=.tuple [.str w,.int i,.int j,qd p]
theorem Uf {w:Str}(h:(PyData.str w).canLay0=true)(i j:Int)(p:Q2):(rd4 w i j p).canLay0=true:=by
 show ((PyData.str w).canLay0 && ((PyData.int i).canLay0 && ((PyData.int j).canLay0 && ((qd p).canLay0 && true))))=true;rw[h];rfl
theorem Kd.lay (k:Kd):(PyData.str k.wd).canLay0=true:=by cases k<;>decide +kernel
theorem ifT {c:Bool}{A B:Prop}(h:c=true)(x:A):if c=true then A else B:=by rw[if_pos h];exact x
theorem ifF {c:Bool}{A B:Prop}(h:c=false)(x:B):if c=true then A else B:=by rw[if_neg (by rw[h];decide)];exact x
theorem Qw {K:Frag}{H:Hp}{t a:Addr}{w:Str}{i j:Int}{p:Q2}(h:SqT K H t [.str w,.int i,.int j,.ref a])(f:Fq K H a p):oB K H (.ref t) (rd4 w i j p):=.tup h (.cons (.str _) (.cons (.int _) (.cons (.int _) (.cons f.dat .nil))))
theorem cZ (k j:Kd):decide (V.str k.wd=V.str j.wd)=decide (k=j):=by
 by_cases h:k=j
 ·subst h;simp
 ·rw[decide_eq_false h];exact decide_eq_false fun z=>h (Kd.wd_inj (V.str.inj z))
theorem iT {p:Kd->Prop}(a:p .pc)(b:p .pu)(c:p .ho):∀k,p k:=fun k=>by cases k<;>assumption
theorem vW (K:Frag)(t:PySem.Value):PySem.W.kitOne K t t=some true:=by unfold PySem.W.kitOne;rw[if_pos (beq_self_eq_true _)]
def kd3 {α:Type}(a b c:α):Kd->α
 | .pc=>a
 | .pu=>b
 | .ho=>c
end L2
namespace Mq
def gD (ps:List Q2):Prop:=∀p∈ps,Low p
end Mq
open Mq (gD)
namespace L2
open PySem PySem.Spec PyProof.Rows
section
variable {κ:Type} [DecidableEq κ]
def pK (kvs:List (κ × V))(k:κ):Option V:=(kvs.find? fun kv=>decide (kv.1=k)).map (·.2)
def lL (kvs:List (κ × V))(k:κ)(v:V):List (κ × V):=
 if (kvs.any fun kv=>decide (kv.1=k))=true then kvs.map (fun kv=>if kv.1=k then (kv.1,v) else kv) else kvs++[(k,v)]
theorem pF {p:κ × V}{r:List (κ × V)}{k:κ}(e:p.1=k):pK (p :: r) k=some p.2:=by simp[pK,find?_cons,e]
theorem lP {p:κ × V}{r:List (κ × V)}{k:κ}(e:¬p.1=k):pK (p :: r) k=pK r k:=by simp[pK,find?_cons,e]
theorem Cw (k:κ):∀kvs:List (κ × V),(kvs.any fun kv=>decide (kv.1=k))=(pK kvs k).isSome
 | []=>rfl
 |p :: r=>by
  rw[any_cons]
  by_cases e:p.1=k
  ·simp only[pF e,decide_eq_true e,Bool.true_or,Option.isSome_some]
  ·rw[lP e,decide_eq_false e,Bool.false_or];exact Cw k r
theorem lG (kvs:List (κ × V))(k:κ)(v:V):(lL kvs k v).length<=kvs.length+1:=by
 unfold lL;split
 ·rw[length_map];lia
 ·rw[length_append,length_cons,length_nil];lia
theorem kL.isSome_eq {o:Option V}{u:Option Value}(r:kL o u):o.isSome=u.isSome:=by
 cases o with
 |none=>cases u with
  |none=>rfl
  |some _=>exact(show False from r).elim
 |some _=>cases u with
  |none=>exact(show False from r).elim
  |some _=>rfl
theorem kL.getD {o:Option V}{u:Option Value}{d:V}{d':Value}(r:kL o u)(rd:cH d d'):cH (o.getD d) (u.getD d'):=by
 cases o with
 |none=>cases u with
  |none=>exact rd
  |some _=>exact(show False from r).elim
 |some _=>cases u with
  |none=>exact(show False from r).elim
  |some _=>exact r
theorem KV.val {kvs:List (κ × V)}{vs:List (κ × Value)}(r:KV kvs vs)(k:κ):kL (pK kvs k) (valueAt vs k):=by
 unfold KV at r
 induction r with
 |nil=>exact True.intro
 | @cons p q ps qs h t ih=>
  obtain⟨h1,h2⟩:=h
  by_cases e:p.1=k
  ·have e':q.1=k:=h1.symm.trans e;have b:valueAt (q :: qs) k=some q.2:=by simp[valueAt,find?_cons,e']
   rw[pF e,b];exact h2
  ·have e':¬q.1=k:=fun z=>e (h1.trans z);have b:valueAt (q :: qs) k=valueAt qs k:=by simp[valueAt,find?_cons,e']
   rw[lP e,b];exact ih
theorem KV.any {kvs:List (κ × V)}{vs:List (κ × Value)}(r:KV kvs vs)(k:κ):(kvs.any fun kv=>decide (kv.1=k))=vs.any fun kv=>decide (kv.1=k):=by
 unfold KV at r
 induction r with
 |nil=>rfl
 |cons h t ih=>rw[any_cons,any_cons,ih,h.1]
theorem KV.repl {kvs:List (κ × V)}{vs:List (κ × Value)}(r:KV kvs vs)(k:κ){y:V}{u:Value}(ry:cH y u) :
  KV (kvs.map fun kv=>if kv.1=k then (kv.1,y) else kv) (vs.map fun kv=>if kv.1=k then (kv.1,u) else kv):=by
 unfold KV at r ⊢
 induction r with
 |nil=>exact .nil
 | @cons p q ps qs h t ih=>
  rw[map_cons,map_cons];refine .cons ?_ ih;obtain⟨h1,h2⟩:=h
  by_cases e:p.1=k
  ·rw[if_pos e,if_pos (h1.symm.trans e)];exact⟨h1,ry⟩
  ·rw[if_neg e,if_neg (fun z=>e (h1.trans z))];exact⟨h1,h2⟩
theorem KV.put {kvs:List (κ × V)}{vs:List (κ × Value)}(r:KV kvs vs)(k:κ){y:V}{u:Value}(ry:cH y u):KV (lL kvs k y) (stored vs k u):=by
 unfold lL stored;rw[r.any k]
 by_cases e:(vs.any fun kv=>decide (kv.1=k))=true
 ·rw[if_pos e,if_pos e];exact r.repl k ry
 ·rw[if_neg e,if_neg e];exact Paired.snoc r ⟨rfl,ry⟩
theorem KV.length {kvs:List (κ × V)}{vs:List (κ × Value)}(r:KV kvs vs):kvs.length=vs.length:=Paired.length r
end
theorem xZ {P:Program}{w:World}{k:Key}{u:Value}(r:cH (kV k) u):(eQ P w).is k u=true:=by
 cases k with
 |inl i=>obtain⟨t,e⟩:=(show ∃t,u=Value.int i t from r);subst e;exact De P w i t
 |inr x=>obtain⟨t,e⟩:=(show ∃t,u=Value.str x t from r);subst e;exact Dv P w x t
theorem xR {P:Program}{w:World}:∀{ks:List Key} {us:List Value},cB (ks.map kV) us->ItemsAre (eQ P w) ks us
 | [],_,r=>by rw[map_nil] at r;cases r;exact .nil
 |k :: ks,_,r=>by
  rw[map_cons] at r
  cases r with
  |cons h t=>exact .cons (xZ h) (xR t)
abbrev KT (H:Hp):List (List Key × V)->List (List Key × Addr × Value)->Prop:=Paired fun p q=>p.1=q.1/\H q.2.1=some (.tup (p.1.map kV))/\cH p.2 q.2.2
theorem KT.val {H:Hp}{kvs:List (List Key × V)}{xs:List (List Key × Addr × Value)}(r:KT H kvs xs)(k:List Key):kL (pK kvs k) ((atKey xs k).map (·.2)):=by
 induction r with
 |nil=>exact True.intro
 | @cons p q ps qs h t ih=>
  obtain⟨h1,_,h2⟩:=h
  by_cases e:p.1=k
  ·have e':q.1=k:=h1.symm.trans e;have b:atKey (q :: qs) k=some q.2:=by simp[atKey,find?_cons,e']
   rw[pF e,b];exact h2
  ·have e':¬q.1=k:=fun z=>e (h1.trans z);have b:atKey (q :: qs) k=atKey qs k:=by simp[atKey,find?_cons,e']
   rw[lP e,b];exact ih
theorem KT.repl {H:Hp}{kvs:List (List Key × V)}{xs:List (List Key × Addr × Value)}(r:KT H kvs xs)(k:List Key){y:V}{u:Value}(ry:cH y u) :
  KT H (kvs.map fun kv=>if kv.1=k then (kv.1,y) else kv) (xs.map (putAt k u)):=by
 induction r with
 |nil=>exact .nil
 | @cons p q ps qs h t ih=>
  rw[map_cons,map_cons];refine .cons ?_ ih;obtain⟨h1,h2,h3⟩:=h;unfold putAt
  by_cases e:p.1=k
  ·rw[if_pos e,if_pos (h1.symm.trans e)];exact⟨h1,h2,ry⟩
  ·rw[if_neg e,if_neg (fun z=>e (h1.trans z))];exact⟨h1,h2,h3⟩
theorem KT.put {H:Hp}{kvs:List (List Key × V)}{xs:List (List Key × Addr × Value)}(r:KT H kvs xs)(k:List Key){b:Addr}{y:V}{u:Value}(hb:H b=some (.tup (k.map kV)))(ry:cH y u) :
  KT H (lL kvs k y) (storedH xs k b u):=by
 have e:(kvs.any fun kv=>decide (kv.1=k))=(atKey xs k).isSome:=by
  rw[Cw,(r.val k).isSome_eq,Option.isSome_map]
 unfold lL storedH;rw[e]
 by_cases q:(atKey xs k).isSome=true
 ·rw[if_pos q,if_pos q];exact r.repl k ry
 ·rw[if_neg q,if_neg q];exact Paired.snoc r ⟨rfl,hb,ry⟩
theorem KT.keeps {H H':Hp}{kvs:List (List Key × V)}{xs:List (List Key × Addr × Value)}(r:KT H kvs xs)(ht:∀b ys,H b=some (.tup ys)->H' b=some (.tup ys)):KT H' kvs xs:=
 Paired.mapP r fun _ _ z=>⟨z.1,ht _ _ z.2.1,z.2.2⟩
section
variable {P:Program} {w:World} {H:Hp} {h:Heap} {a:Addr}
theorem Uy {u:HO}(ok:HOk P w H h)(e:Rd H a u):eJ P w H h a u:=e.ok ok
theorem xM {kvs:List (Key × V)}(ok:HOk P w H h)(e:Rd H a (.dK kvs)):kvs.length<=sizeLine/\(a == sysModules)=false/\∃vs,KV kvs vs/\h.DictOf (eQ P w) a vs:=
 show eJ P w H h a (.dK kvs) from Uy ok e
theorem Vg {kvs:List (Key × V)}(ok:HOk P w H h)(e:H a=some (.dK kvs)):kvs.length<=sizeLine/\(a == sysModules)=false/\∃vs,KV kvs vs/\h.DictOf (eQ P w) a vs:=xM ok (.inl e)
theorem tN {ks:List Key}(ok:HOk P w H h)(e:H a=some (.tup (ks.map kV))):(tupleKind (eQ P w)).is h ks a:=by
 obtain⟨_,its,r,o,h1,h2,n,h3⟩:=(show eJ P w H h a (.tup (ks.map kV)) from ok a _ e)
 exact⟨o,its.toArray,n,h1,h2,h3,by simpa using xR r⟩
theorem wJ {kvs:List (List Key × V)}(ok:HOk P w H h)(e:Rd H a (.dT kvs)):kvs.length<=sizeLine/\(a == sysModules)=false/\
  ∃xs,KT H kvs xs/\h.DictOfH (tupleKind (eQ P w)) a xs:=by
 obtain⟨z,y,xs,r,o,es,ep,h1,h2,h3,h4,h5⟩:=(show eJ P w H h a (.dT kvs) from Uy ok e)
 refine⟨z,y,xs,r,o,es,ep,h1,h2,h3,h4,fun x hx=>?_,h5⟩;have all:∀{l:List (List Key × V)} {m:List (List Key × Addr × Value)},KT H l m->∀x∈m,(tupleKind (eQ P w)).is h x.1 x.2.1:=by
  intro l m q
  induction q with
  |nil=>intro x hx;exact nomatch hx
  | @cons p q ps qs hq t ih=>
   intro x hx;rcases mem_cons.mp hx with e | hx
   ·subst e;exact tN ok (by rw[<- hq.1];exact hq.2.1)
   ·exact ih x hx
 exact all r x hx
theorem qc6 {kvs:List (List Key × V)}(ok:HOk P w H h)(e:H a=some (.dT kvs)):kvs.length<=sizeLine/\(a == sysModules)=false/\
  ∃xs,KT H kvs xs/\h.DictOfH (tupleKind (eQ P w)) a xs:=wJ ok (.inl e)
end
def jM (H:Hp)(a:Addr)(y:V)(r:Option V):Prop:=
 (∃kvs k,Rd H a (.dK kvs)/\y=kV k/\r=pK kvs k)\/∃kvs k b,Rd H a (.dT kvs)/\y=.ref b/\H b=some (.tup (k.map kV))/\r=pK kvs k
def Om (H:Hp)(a:Addr)(y v:V)(H':Hp):Prop:=
 (∃kvs k,H a=some (.dK kvs)/\y=kV k/\kvs.length < sizeLine/\H'=upd H a (.dK (lL kvs k v)))\/
 ∃kvs k b,H a=some (.dT kvs)/\y=.ref b/\H b=some (.tup (k.map kV))/\kvs.length < sizeLine/\H'=upd H a (.dT (lL kvs k v))
theorem jM.k {H:Hp}{a:Addr}{kvs:List (Key × V)}{k:Key}(e:H a=some (.dK kvs)):jM H a (kV k) (pK kvs k):=.inl ⟨kvs,k,.inl e,rfl,rfl⟩
theorem Om.k {H:Hp}{a:Addr}{kvs:List (Key × V)}{k:Key}{v:V}(e:H a=some (.dK kvs))(hl:kvs.length < sizeLine):Om H a (kV k) v (upd H a (.dK (lL kvs k v))):=.inl ⟨kvs,k,e,rfl,hl,rfl⟩
section
variable {X:Cx} {pins:List (Addr × Obj)} {σ:St} {H:Hp} {s:Shared} {a:Addr} {y v:V} {u r:Value} {o:Option V} {A:Around} {E:Value->Shared->Prop}
theorem Inv.big (I:Inv X pins σ H s):sysModules < s.heap.objs.size:=by
 have h:mainGlobals < s.heap.objs.size:=(I.mod.glob.keeps I.bk).lt;exact Nat.lt_trans (by decide) h
theorem Kw {Q:Value->Shared->Prop}(hu:A.units+1 < cLine)(I:Inv X pins σ H s)(g:jM H a y (some v))(ry:cH y u)(h:∀w' s',Inv X pins σ H s'->cH v w'->Q w' s') :
  wpAny (model X.prog X.w) A (getItem (.ref a) u) Q E s:=by
 rcases g with ⟨kvs,k,e,ey,l⟩ | ⟨kvs,k,b,e,ey,eb,l⟩
 ·subst ey;obtain⟨z,hd,vs,rel,dd⟩:=xM I.hok e;obtain⟨w',hw,rw'⟩:=kL.some_of (v:=v) (o:=valueAt vs k) (by rw[l];exact rel.val k);exact wpAny_getItem_of (xZ ry) dd.mapOf hw (h w' _ (I.tok _) rw')
 ·subst ey
  cases (show u=Value.ref b from ry)
  obtain⟨z,hd,xs,rel,dd⟩:=wJ I.hok e;obtain⟨w',hw,rw'⟩:=kL.some_of (v:=v) (o:=(atKey xs k).map (·.2)) (by rw[l];exact rel.val k);obtain⟨p,hp,hp2⟩:=Option.map_eq_some_iff.mp hw;refine wpAny_getItem_heap (tupleKind_room_in1 hu) (tN I.hok eb) dd hp ?_;rw[hp2];exact h w' _ (I.tok _) rw'
theorem Sf {Q:Value->Shared->Prop}(hu:A.units+1 < cLine)(I:Inv X pins σ H s)(g:jM H a y o)(ry:cH y u)(h:∀s',Inv X pins σ H s'->Q (.bool (!o.isSome)) s') :
  wpAny (model X.prog X.w) A (compareOp .NotIn u (.ref a)) Q E s:=by
 rcases g with ⟨kvs,k,e,ey,l⟩ | ⟨kvs,k,b,e,ey,eb,l⟩
 ·subst ey;obtain⟨z,hd,vs,rel,dd⟩:=xM I.hok e;refine wpAny_notIn_of (xZ ry) hd dd.mapOf ?_;rw[<- (rel.val k).isSome_eq,<- l];exact h _ (I.tok _)
 ·subst ey
  cases (show u=Value.ref b from ry)
  obtain⟨z,hd,xs,rel,dd⟩:=wJ I.hok e;refine wpAny_notIn_heap (tupleKind_room_in1 hu) (tN I.hok eb) hd dd ?_;have q:=(rel.val k).isSome_eq;rw[Option.isSome_map] at q;rw[<- q,<- l];exact h _ (I.tok _)
theorem Ai {h':Heap}{t':Nat}{ob:HO}(I:Inv X pins σ H s)(mu:Mut (H a))(hs:Heap.SameBut a s.heap h')(he:∃q,h'.get? a=some q)(new:eJ X.prog X.w (upd H a ob) h' a ob) :
  Inv X pins σ (upd H a ob) { s with heap:=h',toks:=t' }:=
 I.write (x:=a) (e:=a) mu (.inl rfl) (fun b q hb z=>(hs.2 b hb).trans z) he new
theorem Mj {P:Program}{w:World}{H':Hp}{h':Heap}{kvs:List (Key × V)}{vs:List (Key × Value)}(z:kvs.length<=sizeLine)(hd:(a == sysModules)=false)(rel:KV kvs vs)(dd:h'.DictOf (eQ P w) a vs) :
  eJ P w H' h' a (.dK kvs):=⟨z,hd,vs,rel,dd⟩
theorem Jn {H':Hp}{Q:Unit->Shared->Prop}(hu:A.units+1 < cLine)(I:Inv X pins σ H s)(g:Om H a y v H')(ry:cH y u)(rv:cH v r)(h:∀s',Inv X pins σ H' s'->Q () s') :
  wpAny (model X.prog X.w) A (setItem (.ref a) u r) Q E s:=by
 rcases g with ⟨kvs,k,e,ey,l,eH⟩ | ⟨kvs,k,b,e,ey,eb,l,eH⟩
 ·subst ey eH;obtain⟨z,hd,vs,rel,dd⟩:=Vg I.hok e;have hz:vs.length<=sizeLine:=by rw[<- rel.length];exact z
  have hl:(lL kvs k v).length<=sizeLine:=by have:=lG kvs k v;lia
  refine wpAny_setItem_pairs (hsz:=hz) (xZ ry) dd fun h' dd' hs=>h _ ?_;have he:∃q,h'.get? a=some q:=let ⟨q,_,_,hq,_⟩:=dd';⟨q,hq⟩
  exact Ai I (by rw[e];exact True.intro) hs he (Mj hl hd (rel.put k rv) dd')
 ·subst ey eH
  cases (show u=Value.ref b from ry)
  obtain⟨z,hd,xs,rel,dd⟩:=qc6 I.hok e;have hz:xs.length<=sizeLine:=by rw[<- Paired.length rel];exact z
  have hl:(lL kvs k v).length<=sizeLine:=by have:=lG kvs k v;lia
  refine wpAny_setItem_heap (hsz:=hz) (tupleKind_room_in1 hu) (tN I.hok eb) dd fun h' dd' hs=>h _ ?_;obtain⟨q,es,ep,hq,h2,h3,h4,_,h5⟩:=dd';refine Ai I (by rw[e];exact True.intro) hs ⟨q,hq⟩ ⟨hl,hd,_,(rel.put k eb rv).keeps fun c ys ec=>?_,q,es,ep,hq,h2,h3,h4,h5⟩;rw[aY (dD ec e (fun z=>nomatch z))];exact ec
end
def Zp (i:Expr):Prop:=∀ov iv,subscripted i false ov iv=operate [ov,iv] (getItem ov iv)
theorem Rn {prog:Program}{w:World}{A:Around}{E:Value->Shared->Prop}{s:Shared}{env:Env}{value slice:Expr}{pos:Pos}{T id:String}{Q:Value->Shared->Prop}(hl:typeLookup (.type T) "__getitem__"=pure (some (.builtin id)))(hs:Zp slice)(h:wpAny (model prog w) A (eval value env) (fun o s₁=>wpAny (model prog w) A (eval slice env) (fun i s₂=>s₂.TypeIs o T/\wpAny (model prog w) A (getItem o i) Q E s₂) E s₁) E s) :
  wpAny (model prog w) A (eval (.Subscript value slice pos) env) Q E s:=by
 refine Subscript_ (wpAny_mono h (fun o s₁ h₁=>wpAny_mono h₁ (fun i s₂ h₂=>?_) fun _ _ x=>x) fun _ _ x=>x);obtain⟨hT,h₂⟩:=h₂;unfold subscriptTail;refine wpAny_bind ?_;rw[getitemInPython_of_ne hT.not_modules];refine wpAny_bind (wpAny_specialOf hT hl ?_);have fin:wpAny (model prog w) A (subscripted slice false o i) (fun r s₃=>wpAny (model prog w) A (letTemporaryGo value o r >>= fun _=>pure r) Q E s₃) E s₂:=by
  rw[hs o i];exact wpAny_operating (wpAny_mono h₂ (fun r s₃ h₃=>wpAny_bind (wpAny_letTemporaryGo (wpAny_pure h₃))) fun _ _ x=>x)
 first
  |exact wpAny_pure (wpAny_bind fin)
  |exact wpAny_bind (wpAny_pure (wpAny_bind fin))
  |exact wpAny_bind fin
theorem Cl {X:Cx}{pins:List (Addr × Obj)}{σ:St}{H:Hp}{s:Shared}{a:Addr}{y:V}{o:Option V}(I:Inv X pins σ H s)(g:jM H a y o):s.TypeIs (.ref a) "dict":=by
 rcases g with ⟨kvs,k,e,_,_⟩ | ⟨kvs,k,b,e,_,_,_⟩
 ·obtain⟨_,_,vs,_,dd⟩:=xM I.hok e;exact dd.typeIs
 ·obtain⟨_,_,xs,_,dd⟩:=wJ I.hok e;exact dd.typeIs
def qb0 (td ty:TE):TE:=fun σ H Q=>td σ H fun x H1=>ty σ H1 fun y H2=>∃a v,x=.ref a/\jM H2 a y (some v)/\Q v H2
def Qy (ty td:TE):TE:=fun σ H Q=>ty σ H fun y H1=>td σ H1 fun x H2=>∃a o,x=.ref a/\jM H2 a y o/\Q (.bl (!o.isSome)) H2
def qc5 (td ty tv:TE):TS:=fun D σ H=>tv σ H fun v H1=>td σ H1 fun x H2=>ty σ H2 fun y H3=>∃a H4,x=.ref a/\Om H3 a y v H4/\D.nx σ H4
section
variable {X:Cx} {o i e value:Expr} {pos pos' tpos:Pos} {td ty tv:TE}
theorem sQ (hu:X.A.units+1 < cLine)(ho:PE X o td)(hi:PE X i ty)(hs:Zp i):PE X (.Subscript o i pos) (qb0 td ty):=by
 intro pins s σ H Q I h;refine Rn PySem.F.slot_dict_getitem.lookup hs (thn (ho pins s σ H _ I h) fun u s1 ⟨x,H1,I1,rx,q1⟩=>thn (hi pins s1 σ H1 _ I1 q1) fun iv s2 ⟨y,H2,I2,ry,a,v,ex,g,q2⟩=>?_);subst ex;obtain rfl:u=Value.ref a:=rx;exact⟨Cl I2 g,Kw hu I2 g ry fun w' s3 I3 rw'=>⟨v,H2,I3,rw',q2⟩⟩
theorem Jh (hu:X.A.units+1 < cLine)(hi:PE X i ty)(ho:PE X o td):PC X .NotIn i o (Qy ty td):=by
 intro pins s σ H Q I h;refine thn (hi pins s σ H _ I h) fun iv s1 ⟨y,H1,I1,ry,q1⟩=>thn (ho pins s1 σ H1 _ I1 q1) fun u s2 ⟨x,H2,I2,rx,a,ov,ex,g,q2⟩=>?_;subst ex;obtain rfl:u=Value.ref a:=rx;exact Sf hu I2 g ry fun s3 I3=>⟨.bl (!ov.isSome),H2,I3,rfl,q2⟩
theorem Ta (hu:X.A.units+1 < cLine)(ho:PE X o td)(hi:PE X i ty)(hv:PE X value tv)(hs:swapsWith value (some (.Subscript o i pos')) pos.line X.env=pure false) :
  PS X (.Assign [.Subscript o i pos'] value pos) (qc5 td ty tv):=by
 intro pins s σ H D I h;refine wpAny_Assign_Subscript (thn (hv pins s σ H _ I h) fun r s1 ⟨v,H1,I1,rv,q1⟩=>thn (ho pins s1 σ H1 _ I1 q1) fun u s2 ⟨x,H2,I2,rx,q2⟩=>thn (hi pins s2 σ H2 _ I2 q2) fun iv s3 ⟨y,H3,I3,ry,a,H4,ex,g,q3⟩=>?_) hs;subst ex;obtain rfl:u=Value.ref a:=rx;exact Jn hu I3 g ry rv fun s4 I4=>⟨σ,H4,I4,q3⟩
end
theorem Ng {P:Program}{w:World}{H:Hp}(h:Heap)(hb:sysModules < h.objs.size):eJ P w H (h.push { cls:=.type "dict",data:=.dict #[] }) h.objs.size (.dK []):=
 ⟨Nat.zero_le _,beq_eq_false_iff_ne.mpr (Ne.symm (Nat.ne_of_lt hb)),[],.nil,Heap.DictOf.new h⟩
def Fo:List (TE × TE)->St->Hp->(List (V × V)->Hp->Prop)->Prop
 | [],_,H,Q=>Q [] H
 | (tk,tv) :: r,σ,H,Q=>tk σ H fun x H1=>tv σ H1 fun y H2=>Fo r σ H2 fun ps H3=>Q ((x,y) :: ps) H3
abbrev VV:List (V × V)->List (Value × Value)->Prop:=Paired fun p q=>cH p.1 q.1/\cH p.2 q.2
def PPs (X:Cx)(pos:Pos)(keys:List (Option Expr))(values:List Expr)(trs:List (TE × TE)):Prop:=
 ∀(pins:List (Addr × Obj)) (s:Shared) (σ:St) (H:Hp) (Q:List (V × V)->Hp->Prop),Inv X pins σ H s->Fo trs σ H Q->
  wpAny (model X.prog X.w) X.A (evalPairs (pairTrees keys values X.env pos)) (fun vs s'=>∃ps H',Inv X pins σ H' s'/\VV ps vs/\Q ps H') X.xe s
theorem Ha {X:Cx}{pos:Pos}:PPs X pos [] [] []:=fun pins s σ H Q I h=>pairTrees_nil_walk ⟨[],H,I,.nil,h⟩
theorem kT {X:Cx}{pos:Pos}{k v:Expr}{ks:List (Option Expr)}{vs:List Expr}{tk tv:TE}{trs:List (TE × TE)}(hk:PE X k tk)(hv:PE X v tv)(hr:PPs X pos ks vs trs) :
  PPs X pos (some k :: ks) (v :: vs) ((tk,tv) :: trs):=fun pins s σ H Q I h=>
 pairTrees_cons_walk (thn (hk pins s σ H _ I h) fun u s1 ⟨x,H1,I1,rx,q1⟩=>thn (hv pins s1 σ H1 _ I1 q1) fun w2 s2 ⟨y,H2,I2,ry,q2⟩=>
  thn (hr pins s2 σ H2 _ I2 q2) fun ws s3 ⟨ps,H3,I3,rel,q3⟩=>⟨(x,y) :: ps,H3,I3,.cons ⟨rx,ry⟩ rel,q3⟩)
def jK (kvs more:List (Key × V)):List (Key × V):=more.foldl (fun acc kv=>lL acc kv.1 kv.2) kvs
theorem KV.merge:∀{more:List (Key × V)} {rs:List (Key × Value)} {kvs:List (Key × V)} {vs:List (Key × Value)},KV more rs->KV kvs vs->KV (jK kvs more) (merged vs rs):=by
 intro more rs kvs vs r;unfold KV at r
 induction r generalizing kvs vs with
 |nil=>intro q;exact q
 | @cons p q ps qs h t ih=>
  intro r0;have e:KV (lL kvs p.1 p.2) (stored vs q.1 q.2):=by
   have:=r0.put p.1 h.2;rw[<- h.1];exact this
  exact ih e
theorem mZ:∀(more kvs:List (Key × V)),(jK kvs more).length<=kvs.length+more.length
 | [],kvs=>by show kvs.length<=kvs.length+0;lia
 |p :: r,kvs=>by
  have h1:=mZ r (lL kvs p.1 p.2);have h2:=lG kvs p.1 p.2;show (jK (lL kvs p.1 p.2) r).length<=_;rw[length_cons];lia
theorem uW {P:Program}{w:World}:∀{kvs:List (Key × V)} {ws:List (Value × Value)},VV (kvs.map fun kv=>(kV kv.1,kv.2)) ws->∃rs,Carries (eQ P w) ws rs/\KV kvs rs
 | [],_,r=>by rw[map_nil] at r;cases r;exact⟨[],True.intro,.nil⟩
 |p :: kvs,_,r=>by
  rw[map_cons] at r
  cases r with
  | @cons a b as bs h t=>
   obtain⟨rs,c,q⟩:=uW (P:=P) (w:=w) t;obtain⟨b1,b2⟩:=b;exact⟨(p.1,b2) :: rs,⟨xZ h.1,rfl,c⟩,.cons ⟨rfl,h.2⟩ q⟩
def qb5 (trs:List (TE × TE)):TE:=fun σ H Q=>∀p,H p=none->Fo trs σ (upd H p (.dK [])) fun ps H2=>H2 p=some (.dK [])/\∃kvs:List (Key × V),ps=kvs.map (fun kv=>(kV kv.1,kv.2))/\kvs.length<=15/\Q (.ref p) (upd H2 p (.dK (jK [] kvs)))
theorem Im {X:Cx}{pos:Pos}{keys:List (Option Expr)}{values:List Expr}{trs:List (TE × TE)}(h:PPs X pos keys values trs)(hall:keys.all (·.isSome)=true)(hl:keys.length=values.length)(h0:keys≠[])(h15:keys.length<=15):PE X (.Dict keys values pos) (qb5 trs):=by
 intro pins s σ H Q I q;have hn:=I.hok.fresh (Nat.le_refl s.heap.objs.size);have I1:=I.laid (a:=s.heap.objs.size) (o:=.dK []) (h':=s.heap.push { cls:=.type "dict",data:=.dict #[] }) (t':=s.toks) (fun _ _ q=>Heap.get?_push_of_some _ q) (Nat.le_refl _) (Ng s.heap I.big);refine wpAny_Dict_walk (knd:=eQ X.prog X.w) hall hl h0 h15 (thn (h pins _ σ _ _ I1 (q _ hn)) fun ws s2 ⟨ps,H2,I2,rel,e,kvs,ep,lk,q2⟩=>?_);subst ep;obtain⟨rs,c,rk⟩:=uW (P:=X.prog) (w:=X.w) rel;obtain⟨z,hd,vs0,r0,dd⟩:=Vg I2.hok e
 cases r0
 refine⟨rs,c,dd,fun h' dd' hs=>⟨.ref s.heap.objs.size,_,?_,rfl,q2⟩⟩;have hz:(jK [] kvs).length<=sizeLine:=by
  have h1:=mZ kvs [];rw[length_nil] at h1;rw[sizeLine_eq];lia
 have he:∃q,h'.get? s.heap.objs.size=some q:=let ⟨q,_,_,hq,_⟩:=dd';⟨q,hq⟩
 exact Ai I2 (by rw[e];exact True.intro) hs he (Mj hz hd (rk.merge .nil) dd')
structure M1 (X:Cx) (o:Expr) (m:Str) (apos:Pos) (e:Expr) (cpos:Pos):Prop where
 base:attributeBase o m X.env (eval o X.env)=eval o X.env
 few:((backTo cpos (starEach [e] X.env)).all (fun x=>!x.1) && (backToKw cpos (keywordEach [] X.env)).all (fun x=>x.1.isSome)
  && decide (([e]:List Expr).length+([]:List Keyword).length+(if ([]:List Keyword).isEmpty then 0 else 1) < 30))=true
 line:(apos.endLine == cpos.line)=true
 trees:backTo cpos (starEach [e] X.env)=[(false,eval e X.env)]
def IsD (H:Hp)(a:Addr):Prop:=(∃kvs,Rd H a (.dK kvs))\/∃kvs,Rd H a (.dT kvs)
theorem Xw {X:Cx}{pins:List (Addr × Obj)}{σ:St}{H:Hp}{s:Shared}{a:Addr}(I:Inv X pins σ H s)(d:IsD H a) :
  s.TypeIs (.ref a) "dict"/\(∀b,Value.ref a=.ref b->∃ob,s.heap.get? b=some ob/\ob.dict=none)/\(a == sysModules)=false:=by
 rcases d with ⟨kvs,e⟩ | ⟨kvs,e⟩
 ·obtain⟨_,hd,vs,_,dd⟩:=xM I.hok e;refine⟨dd.typeIs,fun b q=>?_,hd⟩
  cases q
  obtain⟨ob,_,_,h1,h2,_⟩:=dd;exact⟨ob,h1,h2.2.1⟩
 ·obtain⟨_,hd,xs,_,dd⟩:=wJ I.hok e;refine⟨dd.typeIs,fun b q=>?_,hd⟩
  cases q
  obtain⟨ob,_,_,h1,h2,_⟩:=dd;exact⟨ob,h1,h2.2.1⟩
section
variable {X:Cx} {pins:List (Addr × Obj)} {σ:St} {H:Hp} {s:Shared} {a:Addr} {y d:V} {u r:Value} {o:Option V} {A:Around} {E:Value->Shared->Prop}
theorem Xb {Q:Value->Shared->Prop}(hu:A.units+1 < cLine)(I:Inv X pins σ H s)(g:jM H a y o)(ry:cH y u)(h:∀w' s',Inv X pins σ H s'->cH (o.getD .non) w'->Q w' s') :
  wpAny (model X.prog X.w) A (call (.builtin "dict.get") [.ref a,u]) Q E s:=by
 rcases g with ⟨kvs,k,e,ey,l⟩ | ⟨kvs,k,b,e,ey,eb,l⟩
 ·subst ey;obtain⟨z,hd,vs,rel,dd⟩:=xM I.hok e;refine call_meetsIn PySem.F.slot_dict_get dd.typeIs PySem.F.entry_dict_get (PySem.F.args_dict_get_2 _ _) (meets_dict_get (eQ X.prog X.w) a (xZ ry) hd) ⟨_,dd.mapOf,h _ _ (I.tok _) ?_⟩;rw[l];exact(rel.val k).getD rfl
 ·subst ey
  cases (show u=Value.ref b from ry)
  obtain⟨z,hd,xs,rel,dd⟩:=wJ I.hok e;refine call_meetsIn PySem.F.slot_dict_get dd.typeIs PySem.F.entry_dict_get (PySem.F.args_dict_get_2 _ _) (meetsH_dict_get (tupleKind (eQ X.prog X.w)) a b hd) ⟨tupleKind_room_in1 hu,k,xs,tN I.hok eb,dd,h _ _ (I.tok _) ?_⟩;rw[l];exact(rel.val k).getD rfl
end
def Xy (td ty:TE):TE:=fun σ H Q=>td σ H fun x H1=>∃a,x=.ref a/\IsD H1 a/\ty σ H1 fun y H2=>∃o,jM H2 a y o/\Q (o.getD .non) H2
section
variable {X:Cx} {o e f:Expr} {apos cpos:Pos} {td ty tx:TE}
theorem Lz (hu:X.A.units+1 < cLine)(ho:PE X o td)(he:PE X e ty)(m:M1 X o "get" apos e cpos):PE X (.Call (.Attribute o "get" apos) [e] [] cpos) (Xy td ty):=by
 intro pins s σ H Q I h;refine wpAny_Call_method m.base m.few m.line PySem.F.plainAttrs_dict PySem.F.slot_dict_get PySem.F.type_dict_get (thn (ho pins s σ H _ I h) fun u s1 ⟨x,H1,I1,rx,a,ex,d,q1⟩=>?_);subst ex;obtain rfl:u=Value.ref a:=rx;obtain⟨t1,t2,_⟩:=Xw I1 d;refine⟨t1,t2,?_⟩;rw[m.trees];refine Calls.callWith_builtin rfl (Calls.evalArgs_plain (Calls.spliced_cons (thn (he pins s1 σ H1 _ I1 q1) fun iv s2 ⟨y,H2,I2,ry,ov,g,q2⟩=>Calls.spliced_nil ?_)));exact Xb hu I2 g ry fun w' s3 I3 rw'=>⟨_,H2,I3,rw',q2⟩
end
def Ks:Kd->Q2->Q2->Q2->Q2
 | .pc,u,_,p=>kU u p
 | .pu,_,_,p=>p
 | .ho,_,v,_=>v
theorem Fq.mod {K:Frag}{a:Addr}{d:Option Addr}{n:Nat}{sl:Array (Option Value)}{i j:Int}{t u:Tok}(l:K.lookup a=some ⟨.type "tuple",d,.seq #[.int i t,.int j u] n,sl⟩)(H:Hp):Fq K H a (i,j):=
 .inr ⟨_,_,_,l,rfl,rfl,(zl9 2),.cons ⟨_,rfl⟩ (.cons ⟨_,rfl⟩ .nil)⟩
abbrev RD:=Kd × Int × Int × Q2
inductive Rts (K:Frag) (H:Hp):List V->List RD->Prop where
 |nil:Rts K H [] []
 |cons {t z:Addr} {k:Kd} {i j:Int} {p:Q2} {xs:List V} {ds:List RD} (h:SqT K H t [.str k.wd,.int i,.int j,.ref z]) (f:Fq K H z p) (q:Rts K H xs ds):Rts K H (.ref t :: xs) ((k,i,j,p) :: ds)
section
variable {K:Frag} {H H':Hp}
theorem Rts.same (e:bC H H'):∀{xs:List V} {ds:List RD},Rts K H xs ds->Rts K H' xs ds
 |_,_,.nil=>.nil
 |_,_,.cons h f q=>.cons (e.seqT h) (e.fq f) (Rts.same e q)
theorem Rts.length:∀{xs:List V} {ds:List RD},Rts K H xs ds->xs.length=ds.length
 |_,_,.nil=>rfl
 |_,_,.cons _ _ q=>by simp[Rts.length q]
theorem Rts.app:∀{xs ys:List V} {ds es:List RD},Rts K H xs ds->Rts K H ys es->Rts K H (xs++ys) (ds++es)
 |_,_,_,_,.nil,r=>r
 |_,_,_,_,.cons h f q,r=>.cons h f (Rts.app q r)
theorem Rts.at:∀{xs:List V} {ds:List RD} {q:Nat} {d:RD},Rts K H xs ds->ds[q]?=some d->∃t z,xs[q]?=some (.ref t)/\SqT K H t [.str d.1.wd,.int d.2.1,.int d.2.2.1,.ref z]/\Fq K H z d.2.2.2
 |_,_,_,_,.nil,h=>by simp at h
 |_,_,0,_,.cons h f _,e=>by simp at e;subst e;exact⟨_,_,rfl,h,f⟩
 |_,_,i+1,_,.cons _ _ q,e=>by simpa using Rts.at q (by simpa using e)
theorem Rts.set {t z:Addr}{k:Kd}{i j:Int}{p:Q2}(h:SqT K H t [.str k.wd,.int i,.int j,.ref z])(f:Fq K H z p):∀{xs:List V} {ds:List RD} (q:Nat),Rts K H xs ds->Rts K H (xs.set q (.ref t)) (ds.set q (k,i,j,p))
 |_,_,_,.nil=>.nil
 |_,_,0,.cons _ _ q=>.cons h f q
 |_,_,n+1,.cons a b q=>.cons a b (Rts.set h f n q)
theorem Rts.upd {l:Addr}{ys:List V}{o:HO}(hl:H l=some (.lst ys)):∀{xs:List V} {ds:List RD},Rts K H xs ds->Rts K (L2.upd H l o) xs ds
 |_,_,.nil=>.nil
 |_,_,.cons h f q=>.cons (h.upd hl) (f.upd hl) (Rts.upd hl q)
def rdd (d:RD):PyData:=rd4 d.1.wd d.2.1 d.2.2.1 d.2.2.2
theorem Rts.dat:∀{xs:List V} {ds:List RD},Rts K H xs ds->rF K H xs (ds.map rdd)
 |_,_,.nil=>.nil
 |_,_,.cons h f q=>.cons (Qw h f) (Rts.dat q)
theorem vQ:∀ds:List RD,PyData.canLayAll0 (ds.map rdd)=true
 | []=>rfl
 |d :: r=>by
  show ((rdd d).canLay0 && PyData.canLayAll0 (r.map rdd))=true;rw[vQ r,show (rdd d).canLay0=true from Uf (Kd.lay _) _ _ _];rfl
theorem tZ:∀ds:List RD,PyData.depthAll (ds.map rdd)<=3
 | []=>by simp[PyData.depthAll]
 |d :: r=>by
  have b:=tZ r;have a:(rdd d).depth<=3:=by simp[rdd,rd4,qd,PyData.depth,PyData.depthAll]
  simp only[map_cons,PyData.depthAll];lia
theorem Vs {a b:Addr}{xs ys:List V}{ds:List RD}{neg:Bool}{Q:VK}(h1:SqL K H a xs)(h2:SqL K H b ys)(f1:Rts K H xs ds)(f2:Rts K H ys ds)(z:Q (.bl (!neg)) H):Bi K neg (.ref a) (.ref b) H Q:=
 Oi (d:=.list (ds.map rdd)) (.lst h1 f1.dat) (.lst h2 f2.dat) (vQ ds) (by have:=tZ ds;simp only[PyData.depth];lia) z
end
def bQ (l:Addr)(H H':Hp):Prop:=∀b o,H b=some o->b≠l->H' b=some o
theorem bC.x {l:Addr}{H H':Hp}(s:bC H H'):bQ l H H':=fun b o h _=>s b o h
theorem bQ.trans {l:Addr}{H H1 H2:Hp}(a:bQ l H H1)(b:bQ l H1 H2):bQ l H H2:=fun c o h n=>b c o (a c o h n) n
theorem bQ.write {l:Addr}{H H1:Hp}{o:HO}(a:bQ l H H1):bQ l H (upd H1 l o):=fun c u h n=>by rw[aY n];exact a c u h n
section
variable {K:Frag} {H H':Hp} {l:Addr}
theorem bQ.seqT {a:Addr}{xs ys:List V}(hl:H l=some (.lst ys))(e:bQ l H H')(h:SqT K H a xs):SqT K H' a xs:=by
 rcases h with (h | ⟨u,h⟩) | h
 ·exact .inl (.inl (e _ _ h (dD h hl (fun z=>by cases z))))
 ·exact .inl (.inr ⟨u,e _ _ h (dD h hl (fun z=>by cases z))⟩)
 ·exact .inr h
theorem bQ.rts {ys:List V}(hl:H l=some (.lst ys))(e:bQ l H H'):∀{xs:List V} {ds:List RD},Rts K H xs ds->Rts K H' xs ds
 |_,_,.nil=>.nil
 |_,_,.cons h f q=>.cons (e.seqT hl h) (e.seqT hl f) (bQ.rts hl e q)
end
theorem fpk:¬(("point_count":Str) = "kept"):=by decide +kernel
def gL (m:Int)(l:Addr):List (Str × V):=cP "kept" (.ref l) (cP "point_count" (.int m) [])
theorem vH (m:Int)(l:Addr):(gL m l).lookup ("point_count":Str)=some (.int m):=by
 unfold gL;rw[bK,if_neg fpk,bK,if_pos rfl]
theorem eT (m:Int)(l:Addr):(gL m l).lookup ("kept":Str)=some (.ref l):=by
 unfold gL;rw[bK,if_pos rfl]
theorem cX (m:Int)(l:Addr){x:Str}(h1:¬x = "point_count")(h2:¬x = "kept"):(gL m l).lookup x=none:=by
 unfold gL;rw[bK,if_neg h2,bK,if_neg h1];rfl
theorem Jp (m:Int)(l l':Addr):cP "kept" (.ref l') (gL m l)=gL m l':=by
 unfold gL;show cP "kept" (.ref l') (cP "kept" (.ref l) [(("point_count":Str),V.int m)])=cP "kept" (.ref l') [(("point_count":Str),V.int m)];show cP "kept" (.ref l') (if (("point_count":Str)) = "kept" then _ else _)=(if (("point_count":Str)) = "kept" then _ else _)
 rw[if_neg fpk,if_neg fpk];show (if (("point_count":Str)) = "kept" then _ else (("point_count":Str),V.int m) :: (if ("kept":Str) = "kept" then _ else _))=_;rw[if_neg fpk,if_pos rfl];rfl
theorem Kj (m:Int)(l:Addr):(gL m l).length<=2:=by
 unfold gL;have a:=dQ ("kept":Str) (.ref l) (cP "point_count" (.int m) []);have b:=dQ ("point_count":Str) (.int m) [];simp only[length_nil] at b;lia
def zS (m:Int)(d:RD):Prop:=0<=d.2.1/\d.2.1 < m/\0<=d.2.2.1/\d.2.2.1 < m/\Low d.2.2.2/\(d.1=.pc->0 < d.2.2.2.1)/\Bd 1000 d.2.2.2
structure dH (CN:Addr) (K:Frag) (H:Hp) (n l:Addr) (m:Int) (ds:List RD):Prop where
 ob:∃dx,H n=some (.ins CN dx (gL m l))
 ls:∃ts,H l=some (.lst ts)/\Rts K H ts ds
theorem dH.same {CN:Addr}{K:Frag}{H H':Hp}{n l:Addr}{m:Int}{ds:List RD}(e:bC H H')(h:dH CN K H n l m ds):dH CN K H' n l m ds:=
 let ⟨⟨dx,a⟩,ts,b,c⟩:=h;⟨⟨dx,e _ _ a⟩,ts,e _ _ b,c.same e⟩
structure NT (K:Frag) (mg:Str->Option Value) (CN:Addr):Prop where
 cl:Cls K CN
 nP:gG K CN "point_count"
 nK:gG K CN "kept"
 t1:W.findIn K (.ref CN) "__class__"=some (some (.builtin "object.__class__"))
 t2:W.specialIn K (.builtin "object.__class__") "__get__"=some (some (.builtin "getset_descriptor.__get__"))
 t3:W.takesIn K (.builtin "object.__class__")=some true
 t4:W.mroIn K CN (.type "object")=some true
 mN:mg "Net"=some (.ref CN)
def uF (K:Frag)(CK:Kd->Addr):Sp:=fun vs H Q _=>∃(t:Addr) (v s g z:V),vs=[.ref t]/\SqT K H t [v,s,g,z]/\∃k:Kd,v=.str k.wd/\qg0 CK H Q k s g z
def Pk (K:Frag):Sp:=fun vs H Q _=>∃(a:Addr) (p:Q2),vs=[.ref a]/\Fq K H a p/\Low p/\Q (.bl true) H
def qd0 (K:Frag):Sp:=fun vs H Q _=>∃(a:Addr) (p:Q2) (n:Nat),vs=[.ref a]/\Fq K H a p/\Low p/\0 < p.1/\Bd n p/\n<=8000/\Q (.bl true) H
def Xa:Sp:=fun vs H Q _=>∃i b:Int,vs=[.int i,.int b]/\0<=i/\i < b/\Q (.bl true) H
def Xg (K:Frag):Sp:=fun vs H Q _=>∃(k:Kd) (z:Addr) (p:Q2),vs=[.str k.wd,.ref z]/\Fq K H z p/\Low p/\(k=.pc->0 < p.1)/\Bd 1000 p/\Q .non H
def Aw (CN:Addr):Sp:=fun vs H Q _=>∃(n dx:Addr) (m:Int),vs=[.ref n,.int m]/\H n=some (.ins CN dx [])/\1<=m/\m<=20/\∀l H',H l=none->(∀b o,H b=some o->b≠n->H' b=some o)->H' n=some (.ins CN dx (gL m l))->H' l=some (.lst [])->Q .non H'
def qK (CN:Addr)(K:Frag):Sp:=fun vs H Q _=>∃(n l:Addr) (m:Int) (ds:List RD),vs=[.ref n]/\dH CN K H n l m ds/\Q (.int m) H
def Ht (CN:Addr)(K:Frag):Sp:=fun vs H Q _=>∃(n l:Addr) (m:Int) (ds:List RD),vs=[.ref n]/\dH CN K H n l m ds/\Q (.int ds.length) H
def Hy (CN:Addr)(K:Frag):Sp:=fun vs H Q _=>∃(n l:Addr) (m:Int) (ds:List RD),vs=[.ref n]/\dH CN K H n l m ds/\∀a ts H',bC H H'->H a=none->H' a=some (.lst ts)->Rts K H' ts ds->Q (.ref a) H'
def Ur (CN:Addr)(K:Frag)(CK:Kd->Addr):Sp:=fun vs H Q _=>∃(n l x z:Addr) (m:Int) (ds:List RD) (k:Kd) (i j:Int) (p:Q2),vs=[.ref n,.ref x]/\dH CN K H n l m ds/\Rw CK H x k (.int i) (.int j) (.ref z)/\Fq K H z p/\zS m (k,i,j,p)/\ds.length < 40/\
 ∀H',bQ l H H'->dH CN K H' n l m (ds++[(k,i,j,p)])->Q (.int ds.length) H'
def Bu (CN:Addr)(K:Frag):Sp:=fun vs H Q _=>∃(n l z:Addr) (m q:Int) (ds:List RD) (k:Kd) (i j:Int) (p0 p:Q2),vs=[.ref n,.int q,.ref z]/\dH CN K H n l m ds/\0<=q/\ds[q.toNat]?=some (k,i,j,p0)/\Fq K H z p/\Low p/\(k=.pc->0 < p.1)/\Bd 1000 p/\
 ∀H',bQ l H H'->dH CN K H' n l m (ds.set q.toNat (k,i,j,p))->Q .non H'
def Bh (CN:Addr)(K:Frag):Sp:=fun vs H Q _=>∃(n l:Addr) (m:Int) (ds:List RD),vs=[.ref n]/\dH CN K H n l m ds/\1<=m/\m<=20/\∀n' l' H',bC H H'->H n'=none->H l'=none->dH CN K H' n' l' m ds->Q (.ref n') H'
theorem pE {a1 u:TS}{D:kY}{σ:St}{H:Hp}(P:St->Hp->Prop)(h1:∀X:St->Hp->Prop,(∀σ' H',P σ' H'->X σ' H')->(a1) { D with nx:=X } σ H)(h2:∀σ' H',P σ' H'->u D σ' H'):(gF a1 (u)) D σ H:=h1 _ h2
theorem Xt {a1 a2 u:TS}{D:kY}{σ:St}{H:Hp}(P:St->Hp->Prop)(h1:∀X:St->Hp->Prop,(∀σ' H',P σ' H'->X σ' H')->(gF a1 (a2)) { D with nx:=X } σ H)(h2:∀σ' H',P σ' H'->u D σ' H'):(gF a1 (gF a2 (u))) D σ H:=h1 _ h2
theorem qf3 {a1 a2 a3 u:TS}{D:kY}{σ:St}{H:Hp}(P:St->Hp->Prop)(h1:∀X:St->Hp->Prop,(∀σ' H',P σ' H'->X σ' H')->(gF a1 (gF a2 (a3))) { D with nx:=X } σ H)(h2:∀σ' H',P σ' H'->u D σ' H'):(gF a1 (gF a2 (gF a3 (u)))) D σ H:=h1 _ h2
theorem Vr {a1 a2 a3 a4 u:TS}{D:kY}{σ:St}{H:Hp}(P:St->Hp->Prop)(h1:∀X:St->Hp->Prop,(∀σ' H',P σ' H'->X σ' H')->(gF a1 (gF a2 (gF a3 (a4)))) { D with nx:=X } σ H)(h2:∀σ' H',P σ' H'->u D σ' H'):(gF a1 (gF a2 (gF a3 (gF a4 (u))))) D σ H:=h1 _ h2
theorem qe3 {a1 a2 a3 a4 a5 a6 u:TS}{D:kY}{σ:St}{H:Hp}(P:St->Hp->Prop)(h1:∀X:St->Hp->Prop,(∀σ' H',P σ' H'->X σ' H')->(gF a1 (gF a2 (gF a3 (gF a4 (gF a5 (a6)))))) { D with nx:=X } σ H)(h2:∀σ' H',P σ' H'->u D σ' H'):(gF a1 (gF a2 (gF a3 (gF a4 (gF a5 (gF a6 (u))))))) D σ H:=h1 _ h2
end L2
namespace Mq
def val (p:Q2):Rat:=(p.1:Rat) / (p.2:Rat)
theorem dU {b:Int}(h:b≠0):(b:Rat)≠0:=fun e=>h (Rat.intCast_inj.mp (by simpa using e))
theorem Ek {p:Q2}{t b:Int}(hp:p.2≠0)(hb:b≠0)(h:p.1*b=t*p.2):val p=(t:Rat) / (b:Rat):=by
 unfold val;have h1:=dU hp;have h2:=dU hb;have h3:(p.1:Rat)*(b:Rat)=(t:Rat)*(p.2:Rat):=by rw[<- Rat.intCast_mul,<- Rat.intCast_mul,h]
 grind
theorem jW {t b:Int}(hb:b≠0):val (red t b)=(t:Rat) / (b:Rat):=by
 have:=(iA (t:=t) hb).pos;exact Ek (by lia) hb (yC hb)
theorem Rq {p q:Q2}(hp:Low p)(hq:Low q)(h:val p=val q):p=q:=by
 refine Mu hp hq ?_;have p1:=dU (show p.2≠0 by have:=hp.pos;lia);have q1:=dU (show q.2≠0 by have:=hq.pos;lia);unfold val at h;have:(p.1:Rat)*(q.2:Rat)=(q.1:Rat)*(p.2:Rat):=by grind
 rw[<- Rat.intCast_mul,<- Rat.intCast_mul] at this;exact Rat.intCast_inj.mp this
theorem vP {p q:Q2}(hp:1<=p.2)(hq:1<=q.2):val (oW p q)=val p+val q:=by
 have p1:=dU (show p.2≠0 by lia);have q1:=dU (show q.2≠0 by lia);unfold oW;rw[jW (gZ hp hq),Rat.intCast_add,Rat.intCast_mul,Rat.intCast_mul,Rat.intCast_mul];unfold val;grind
theorem mI {p q:Q2}(hp:1<=p.2)(hq:1<=q.2):val (minus p q)=val p - val q:=by
 have p1:=dU (show p.2≠0 by lia);have q1:=dU (show q.2≠0 by lia);unfold minus;rw[jW (gZ hp hq),Rat.intCast_sub,Rat.intCast_mul,Rat.intCast_mul,Rat.intCast_mul];unfold val;grind
theorem Kg {p q:Q2}(hp:1<=p.2)(hq:1<=q.2):val (mY p q)=val p*val q:=by
 have p1:=dU (show p.2≠0 by lia);have q1:=dU (show q.2≠0 by lia);unfold mY;rw[jW (gZ hp hq),Rat.intCast_mul,Rat.intCast_mul];unfold val;grind
theorem vI {p q:Q2}(hp:1<=p.2)(hq:1<=q.2)(h0:q.1≠0):val (kU p q)=val p / val q:=by
 have p1:=dU (show p.2≠0 by lia);have q1:=dU (show q.2≠0 by lia);have q2:=dU h0;unfold kU;rw[jW (sZ hp h0),Rat.intCast_mul,Rat.intCast_mul];unfold val;grind
theorem vB:val (0,1)=0:=by unfold val;simp;grind
theorem uY:val (1,1)=1:=by unfold val;simp;grind
theorem Gi {t b:Int}(ht:0 < t)(hb:0 < b):0 < (red t b).1:=by
 have h1:=yC (t:=t) (b:=b) (by lia);have h2:=(iA (t:=t) (b:=b) (by lia)).pos;have h3:0 < t*(red t b).2:=Int.mul_pos ht (by lia);rw[<- h1] at h3;exact Int.pos_of_mul_pos_left h3 (by lia)
def rs (n:Nat)(F:Nat->Rat):Rat:=match n with
 |0=>0
 |n+1=>rs n F+F n
theorem aS {n:Nat}{F G:Nat->Rat}(h:∀i,i < n->F i=G i):rs n F=rs n G:=by
 induction n with
 |zero=>rfl
 |succ n ih=>simp only[rs];rw[ih (fun i hi=>h i (by lia)),h n (by lia)]
theorem dG (n:Nat)(F G:Nat->Rat):rs n (fun i=>F i+G i)=rs n F+rs n G:=by
 induction n with
 |zero=>simp[rs];grind
 |succ n ih=>simp only[rs];rw[ih];grind
theorem eX (n:Nat)(c:Rat)(F:Nat->Rat):rs n (fun i=>c*F i)=c*rs n F:=by
 induction n with
 |zero=>simp[rs]
 |succ n ih=>simp only[rs];rw[ih];grind
theorem jH (n:Nat)(F:Nat->Rat):rs n (fun i=>- F i)=- rs n F:=by
 induction n with
 |zero=>simp[rs]
 |succ n ih=>simp only[rs];rw[ih];grind
theorem dW (n:Nat):rs n (fun _=>0)=0:=by
 induction n with
 |zero=>rfl
 |succ n ih=>simp only[rs];rw[ih];grind
theorem Aa (n k:Nat)(F:Nat->Rat):rs n (fun i=>if k=i then F i else 0)=if k < n then F k else 0:=by
 induction n with
 |zero=>simp[rs]
 |succ n ih=>
  simp only[rs];rw[ih]
  by_cases h1:k < n
  ·rw[if_pos h1,if_neg (by lia),if_pos (by lia)];grind
  ·by_cases h2:k=n
   ·subst h2;rw[if_neg h1,if_pos rfl,if_pos (by lia)];grind
   ·rw[if_neg h1,if_neg h2,if_neg (by lia)];grind
abbrev z0:Q2:=(0,1)
abbrev Row:=Nat × Nat × Q2
theorem gD.pos {ls:List Q2}(h:gD ls):Pos ls:=fun p hp=>(h p hp).pos
def oF (L b:Int):Int:=Int.fdiv L (gc L b)*b
theorem nY {L b:Int}(hL:1<=L)(hb:1<=b):1<=oF L b/\(∃j,oF L b=L*j)/\(∃k,oF L b=k*b/\1<=k)/\oF L b<=L*b:=by
 have gp:0 < gc L b:=vU (by lia);have d1:gc L b ∣ L:=by unfold gc;exact Int.gcd_dvd_left ..
 have d2:gc L b ∣ b:=by unfold gc;exact Int.gcd_dvd_right ..
 obtain⟨k,hk⟩:=d1;obtain⟨j,hj⟩:=d2;have ek:Int.fdiv L (gc L b)=k:=fG (by lia) hk;have k1:1<=k:=by
  have:0 < gc L b*k:=by lia
  have:=Int.pos_of_mul_pos_right this (by lia);lia
 unfold oF;rw[ek];refine⟨?_,⟨j,?_⟩,⟨k,rfl,k1⟩,?_⟩
 ·have:0 < k*b:=Int.mul_pos (by lia) (by lia);lia
 ·generalize gc L b=g at *
  rw[hk,hj];grind
 ·have:k<=L:=by
   rw[hk];have:=Int.mul_le_mul_of_nonneg_right (show 1<=gc L b by lia) (show 0<=k by lia);lia
  exact Int.mul_le_mul_of_nonneg_right this (by lia)
def eI (ps:List Q2):Int:=ps.foldl (fun L p=>oF L p.2) 1
theorem Ko (ps:List Q2)(p:Q2):eI (ps++[p])=oF (eI ps) p.2:=by unfold eI;rw[foldl_append];rfl
theorem mE {ps:List Q2}{i:Nat}{p:Q2}(h:ps[i]?=some p):eI (ps.take (i+1))=oF (eI (ps.take i)) p.2:=by
 rw[take_add_one,h];exact Ko _ _
theorem oE {ps:List Q2}(hp:Pos ps){n:Nat}(hb:∀p∈ps,Bd n p):∀i,i<=ps.length->1<=eI (ps.take i)/\B (1+n*i) (eI (ps.take i))/\∀p∈ps.take i,∃k,eI (ps.take i)=k*p.2
 |0,_=>⟨by show (1:Int)<=1;lia,show (1:Nat) < 2 ^ (1+n*0) by simp,fun p h=>by simp at h⟩
 |i+1,hi=>by
  obtain⟨h1,h2,h3⟩:=oE hp hb i (by lia);have e:ps[i]?=some ps[i]:=getElem?_eq_getElem (by lia);have mem:ps[i]∈ps:=getElem_mem _;rw[mE e];obtain⟨l1,⟨j,l2⟩,⟨k,l3,l4⟩,l5⟩:=nY h1 (hp _ mem);refine⟨l1,?_,fun p hpp=>?_⟩
  ·have:=h2.mul (hb _ mem).b;refine B.mono (n:=1+n*i+n) (this.le ?_) (by rw[Nat.mul_succ];lia);have h0:1<=ps[i].2:=hp _ mem;have:0<=eI (ps.take i)*ps[i].2:=Int.mul_nonneg (by lia) (by lia);lia
  ·rw[take_add_one,e] at hpp;rcases mem_append.mp hpp with z | z
   ·obtain⟨q,hq⟩:=h3 p z;exact⟨q*j,by rw[l2,hq];grind⟩
   ·have:p=ps[i]:=by simpa using z
    rw[this];exact⟨k,l3⟩
theorem tH {ps:List Q2}(hp:Pos ps):1<=eI ps:=by
 have:∀(l:List Q2) (L:Int),1<=L->Pos l->1<=l.foldl (fun L p=>oF L p.2) L:=fun l=>by
  induction l with
  |nil=>intro L h _;exact h
  |cons p l ih=>intro L h q;exact ih _ (nY h (q p (by simp))).1 fun x hx=>q x (mem_cons_of_mem _ hx)
 exact this ps 1 (by lia) hp
def Cy (L:Int)(p:Q2):Int:=p.1*Int.fdiv L p.2
def iw (ps:List Q2):List Int:=ps.map (Cy (eI ps))
theorem Mo {L k:Int}{p:Q2}(h:1<=p.2)(e:L=k*p.2):((Cy L p:Int):Rat)=val p*(L:Rat):=by
 have e1:Int.fdiv L p.2=k:=fG (by lia) (by rw[e,Int.mul_comm]);have n:=dU (show p.2≠0 by lia);unfold Cy val;rw[e1,e,Rat.intCast_mul,Rat.intCast_mul];grind
theorem Ch {ps:List Q2}(hp:Pos ps):∀p∈ps,∃k,eI ps=k*p.2:=fun p hpp=>by
 have:∀(l:List Q2) (L:Int),1<=L->Pos l->(∃j,l.foldl (fun L p=>oF L p.2) L=L*j)/\∀p∈l,∃k,l.foldl (fun L p=>oF L p.2) L=k*p.2:=fun l=>by
  induction l with
  |nil=>intro L h _;exact⟨⟨1,by simp⟩,fun p h=>by simp at h⟩
  |cons q l ih=>
   intro L h hq;obtain⟨l1,⟨j,l2⟩,⟨k,l3,l4⟩,l5⟩:=nY h (hq q (by simp));obtain⟨⟨j2,i1⟩,i2⟩:=ih (oF L q.2) l1 fun x hx=>hq x (mem_cons_of_mem _ hx);refine⟨⟨j*j2,by rw[foldl_cons,i1,l2];grind⟩,fun p hp=>?_⟩;rcases mem_cons.mp hp with rfl | hp
   ·exact⟨k*j2,by rw[foldl_cons,i1,l3];grind⟩
   ·exact i2 p hp
 exact(this ps 1 (by lia) hp).2 p hpp
def fE (X:List (List Q2)):Prop:=∀row∈X,Pos row
theorem Qe {row:List Q2}(h:Pos row)(j:Nat):1<=(row.getD j z0).2:=by
 rw[getD_eq_getElem?_getD]
 cases e:row[j]? with
 |none=>exact Int.le_refl 1
 |some v=>exact h v (mem_of_getElem? e)
end Mq
open Mq (Aa Ch Cy Gi aS dG dU dW eI eX fE iw jH jW mI oE tH vB vI vP val)
namespace L2
open PySem PySem.Spec PyProof.Rows
abbrev Mf (scope:Scope)(cl:List (Str × Addr))(x0:Str)(C:Addr)(env:Env):Env:={ compEnvC scope cl C env with cells:=(x0,C+1) :: cl }
abbrev qd2 (X:Cx)(scope:Scope)(cl:List (Str × Addr))(x0:Str)(Nc:List Str)(C:Addr)(s3:Shared)(H3:Hp)(fp:List Addr)(pins:List (Addr × Obj)):Cx:=
 { X with N:=Nc,s₀:=s3,H₀:=H3,env:=Mf scope cl x0 C X.env,outer:=X.stack,ex:=fp,fn:=fun x=>x == x0,pn:=X.pn++pins,xe:=fun _ _=>False }
def Ite (K : Frag)(a : Addr) : It :=
  ⟨fun i H => ∃ xs x, SqL K H a xs /\ xs[i]? = some x,
   fun i H v H' => ∃ T x, v = .ref T /\ H T = none /\ H' = upd H T (.tup [.int (i : Int), x]) /\ ∀ xs, SqL K H a xs -> xs[i]? = some x,
   fun i H => ∃ xs, SqL K H a xs /\ xs.length <= i⟩
def Xi (e it l:Addr)(i:Nat)(h:Heap):Prop:=e≠it/\(∃old,IsEnum h e it (i:Int) old)/\h.IsListIter it l i
theorem Ka {P:Program}{w:World}{K:Frag}{elts:List Expr}{kk:Nat}{tpos:Pos}(e it l:Addr) :
  Ja P w K (.Tuple elts kk tpos) (Ite K l) [e,it] e (Xi e it l) where
 mem:=by simp
 obj:=fun i h st b hb=>by
  obtain⟨ne,⟨old,he⟩,⟨o1,e1,c1,d1⟩⟩:=st;simp only[mem_cons,not_mem_nil,or_false] at hb;rcases hb with rfl | rfl
  ·exact⟨_,he,fun v q=>by cases q⟩
  ·exact⟨o1,e1,fun v q=>by rw[d1] at q;cases q⟩
 keep:=fun i h h' st k=>by
  obtain⟨ne,⟨old,he⟩,⟨o1,e1,c1,d1⟩⟩:=st;exact⟨ne,⟨old,k _ (by simp) _ he⟩,⟨o1,k _ (by simp) _ e1,c1,d1⟩⟩
 item:=by
  intro X hP hw hK hc i pins s σ H E I hf st hg;subst hP hw hK;obtain⟨ne,⟨old,he⟩,t1⟩:=st;obtain⟨xs,x,hx,ex⟩:=hg;obtain⟨its1,rv1,p1,z1⟩:=I.list hx;obtain⟨u1,hu1,ru1⟩:=rv1.get ex;refine wpAny_pyNext_enum_item he t1 p1.isList (x:=u1) (by simpa using hu1) ne fun h' g1 g2 g3 g4 kk'=>?_;have hn:H s.heap.objs.size=none:=I.hok.fresh (Nat.le_refl _);have lt:∀b∈[e,it],b < s.heap.objs.size:=fun b hb=>by
   simp only[mem_cons,not_mem_nil,or_false] at hb;obtain⟨o1,e1,_⟩:=t1;rcases hb with rfl | rfl
   ·exact Heap.lt_size he
   ·exact Heap.lt_size e1
  have I1:Inv X pins σ (upd H s.heap.objs.size (.tup [.int (i:Int),x])) { s with heap:=s.heap.push { cls:=.type "tuple",data:=.seq #[.int i s.toks,u1] },toks:=s.toks+1 }:=
   I.laid (t':=s.toks+1) (fun b o e=>Heap.get?_push_of_some _ e) (Nat.le_refl _) (show eJ X.prog X.w _ _ _ (.tup [.int (i:Int),x]) from ⟨zl9 2,[.int i s.toks,u1],.cons ⟨_,rfl⟩ (.cons ru1 .nil),IsTup.new _ _⟩)
  have hf1:∀b∈[e,it],mU X pins (upd H s.heap.objs.size (.tup [.int (i:Int),x])) b:=fun b hb=>⟨by rw[aY (Nat.ne_of_lt (lt b hb))];exact(hf b hb).1,(hf b hb).2⟩
  have k1:∀b o,b∉[e,it]->(s.heap.push { cls:=.type "tuple",data:=.seq #[.int i s.toks,u1] }).get? b=some o->h'.get? b=some o:=fun b o nb e=>by
   simp only[mem_cons,not_mem_nil,or_false,not_or] at nb
   by_cases hb:b=s.heap.objs.size
   ·subst hb;rw[Heap.get?_push_size _ rfl] at e
    cases e
    exact g3
   ·have e0:s.heap.get? b=some o:=by rw[Heap.get?_push_ne _ _ _ hb] at e;exact e
    exact kk' b o nb.1 nb.2 e0
  have I2:Inv X pins σ (upd H s.heap.objs.size (.tup [.int (i:Int),x])) { s with heap:=h',toks:=s.toks+1 }:=Inv.turnedL (s:={ s with heap:=s.heap.push { cls:=.type "tuple",data:=.seq #[.int i s.toks,u1] },toks:=s.toks+1 }) (t':=s.toks+1) I1 k1 hf1;refine⟨_,rfl,wpAny_letOwnedTupleGo_enum (s:={ s with heap:=h',toks:=s.toks+1 }) g1 fun h2 q1 q2=>?_⟩;have kz:∀b o,b≠e->h'.get? b=some o->h2.get? b=some o:=fun b o nb e=>(q2.2 b nb).trans e;have I3:Inv X pins σ (upd H s.heap.objs.size (.tup [.int (i:Int),x])) { s with heap:=h2,toks:=s.toks+1 }:=Inv.turnedL (s:={ s with heap:=h',toks:=s.toks+1 }) (t':=s.toks+1) (fp:=[e]) I2 (fun b o nb e=>kz b o (by simpa using nb) e) fun b hb=>hf1 b (by simp at hb;simp[hb]);obtain⟨o3,e3,c3,d3⟩:=g2;refine⟨.ref s.heap.objs.size,_,I3,rfl,⟨_,x,rfl,hn,rfl,fun xs' h1=>?_⟩,⟨ne,⟨_,q1⟩,⟨o3,kz _ _ ne.symm e3,c3,d3⟩⟩,fun b hb=>(hf1 b hb).1⟩;rw[I.list_inj h1 hx];exact ex
 done:=by
  intro X hP hw hK hc i pins s σ H E I hf st hg;subst hP hw hK;obtain⟨ne,⟨old,he⟩,t1⟩:=st;obtain⟨xs,hx,hor⟩:=hg;obtain⟨its1,rv1,p1,z1⟩:=I.list hx;have l1':=rv1.length;refine wpAny_pyNext_enum_end (I.ok.hd hc) he t1 p1.isList (by simp;lia) fun h' kk'=>⟨rfl,?_⟩
  refine I.turnedL (t':=s.toks) (fun b o nb e=>?_) hf;simp only[mem_cons,not_mem_nil,or_false,not_or] at nb;exact kk' b o nb.2 e
 self:=fun A i s Q E st h=>by
  obtain⟨ne,⟨old,he⟩,t1⟩:=st;exact wpAny_pyIter_enum he h
section
variable {X:Cx}
def qa3 (K:Frag)(ta:TA):TI:=fun σ H R=>ta σ H fun vs H1=>∃a,vs=[.ref a]/\(∃xs,SqL K H1 a xs)/\R (Ite K a) H1
theorem Ad {e1:Expr}{ta:TA}{p pos:Pos}{elts:List Expr}{kk:Nat}{tpos:Pos}(hg:Gl X "enumerate")(hm:X.mg "enumerate"=none)(hv:bootBuiltins "enumerate"=some (.type "enumerate"))(ha:PA X [e1] ta)(hs:starEach [e1] X.env=(false,eval e1 X.env) :: starEach [] X.env:=by rfl)(hpl:(backTo pos (starEach [] X.env)).any (·.1)=false:=by rfl):PI X (.Tuple elts kk tpos) (.Call (.Name "enumerate" p) [e1] [] pos) (qa3 X.K ta):=by
 intro pins s σ H R I h;refine Call_ (jY I hg hm hv (PyProof.Rows.callWith_type1 (thn (ha pos pins s σ H _ I h) fun us s1 ⟨vs,H1,I1,r1,q1⟩=>?_) hs hpl));obtain⟨a,rfl,⟨xs,hx⟩,q⟩:=q1;obtain⟨u,rfl,ra⟩:=Ea r1
 cases (show u=Value.ref a from ra)
 obtain⟨its1,rv1,p1,z1⟩:=I1.list hx;have la:a < s1.heap.objs.size:=by obtain⟨o,e,_⟩:=p1.isList;exact Heap.lt_size e
 refine call_enumerate_list p1.isList fun h' g1 g2 g3 kk'=>?_;refine wpAny_pyIter_enum g1 ?_;refine⟨s1.heap.objs.size+1,[s1.heap.objs.size+1,s1.heap.objs.size],_,Ite X.K a,H1,rfl,I1.kept (t':=s1.toks) kk',Ka _ _ a,⟨?_,⟨_,g1⟩,g2⟩,fun c hc=>?_,q⟩
 ·exact Nat.succ_ne_self _
 ·have hle:s1.heap.objs.size<=c:=by
   simp only[mem_cons,not_mem_nil,or_false] at hc;rcases hc with rfl | rfl<;>first | exact Nat.le_add_right _ _ | exact Nat.le_refl _
  exact I1.fpOk hle (I1.hok.fresh hle)
theorem Oa {K:Frag}{a:Addr}{xs:List V}{g:TG}{tb:TS}{D:kY}{σ:St}{H:Hp}(Pv:Nat->St->Hp->Prop)(h0:Pv 0 σ H)(hl:∀i σ H,i<=xs.length->Pv i σ H->SqL K H a xs)(hs:∀i x σ H T,xs[i]?=some x->Pv i σ H->H T=none->g (.ref T) σ (upd H T (.tup [.int (i:Int),x])) fun σ2 H2=>tb { D with nx:=Pv (i+1),ct:=Pv (i+1),bk:=D.nx } σ2 H2)(hd:∀σ H,Pv xs.length σ H->D.nx σ H) :
  ∃W:Nat->Nat->St->Hp->Prop,(∃m,W 0 m σ H)/\∀i m σ H,W i m σ H->
   ((Ite K a).stop i H/\D.nx σ H)\/((Ite K a).go i H/\∃N:St->Hp->Prop,(∀σ' H',N σ' H'->∃m',m' < m/\W (i+1) m' σ' H')/\∀x H',(Ite K a).yld i H x H'->g x σ H' fun σ2 H2=>tb { D with nx:=N,ct:=N,bk:=D.nx } σ2 H2):=by
 refine⟨fun i m σ H=>m=xs.length - i/\i<=xs.length/\Pv i σ H,⟨_,rfl,Nat.zero_le _,h0⟩,?_⟩;rintro i m σ H ⟨rfl,hi,p⟩;have qx:=hl i σ H hi p
 by_cases hlt:i < xs.length
 ·refine .inr ⟨⟨xs,xs[i],qx,by simp[hlt]⟩,Pv (i+1),fun σ' H' p'=>⟨xs.length - (i+1),by lia,rfl,hlt,p'⟩,fun v H' z=>?_⟩;obtain⟨T,x,rfl,hT,rfl,hh⟩:=z;exact hs i x σ H T (hh xs qx) p hT
 ·have e:i=xs.length:=by lia
  subst e;exact .inl ⟨⟨xs,qx,Nat.le_refl _⟩,hd σ H p⟩
theorem xQ {K:Frag}{a:Addr}{xs:List V}{nl:Nat}{fr:List Nat}{g:TG}{tt:TT}{te:TE}{σ:St}{D:Addr}{H1:Hp}{Q:VK}(Pv:Nat->List V->Hp->Prop)(h0:Pv 0 [] (upd H1 D (.lst [])))(hl:∀i zs H,Pv i zs H->H D=some (.lst zs))(hx:∀i zs H,i<=xs.length->Pv i zs H->SqL K H a xs)(hs:∀i zs x H T,xs[i]?=some x->Pv i zs H->H T=none->∀(C:Nat->List V->Hp->Prop),(∀zs H,Pv (i+1) zs H->C (i+1) zs H)->Il nl fr g tt te σ D C i zs (.ref T) (upd H T (.tup [.int (i:Int),x])))(hd:∀zs H,Pv xs.length zs H->Q (.ref D) H) :
  Cg (Ite K a) nl fr g tt te σ D H1 Q:=by
 refine⟨fun i m zs H=>m=xs.length - i/\i<=xs.length/\Pv i zs H,⟨_,rfl,Nat.zero_le _,h0⟩,?_⟩;rintro i m zs H ⟨rfl,hi,p⟩;refine⟨hl i zs H p,?_⟩;have qx:=hx i zs H hi p
 by_cases hlt:i < xs.length
 ·refine .inr ⟨⟨xs,xs[i],qx,by simp[hlt]⟩,fun v H' z=>?_⟩;obtain⟨T,x,rfl,hT,rfl,hh⟩:=z;exact hs i zs x H T (hh xs qx) p hT (fun j zs Hz=>∃m',m' < xs.length - i/\m'=xs.length - j/\j<=xs.length/\Pv j zs Hz) fun zs Hz z=>⟨xs.length - (i+1),by lia,rfl,hlt,z⟩
 ·have e:i=xs.length:=by lia
  subst e;exact .inl ⟨⟨xs,qx,Nat.le_refl _⟩,hd zs H p⟩
end
end L2
namespace Shp
open PySem L2
theorem Ru {t b:Int}(h:0 < b):dvr t b=gc t b:=by unfold dvr;rw[if_neg (by lia)]
end Shp
namespace Mq
def skip (j k:Nat):Nat:=if k < j then k else k+1
def sgn (n:Nat):Rat:=if n % 2=0 then 1 else -1
theorem uJ (n:Nat):sgn (n+1)=- sgn n:=by
 unfold sgn;rcases Nat.mod_two_eq_zero_or_one n with h | h
 ·rw[if_neg (by lia),if_pos h]
 ·rw[if_pos (by lia),if_neg (by lia)];grind
abbrev Mat:=Nat->Nat->Rat
def det:Nat->Mat->Rat
 |0,_=>1
 |n+1,M=>rs (n+1) fun j=>sgn (n+j)*M n j*det n fun i k=>M i (skip j k)
theorem fP (n:Nat)(M:Mat):det (n+1) M=rs (n+1) fun j=>sgn (n+j)*M n j*det n fun i k=>M i (skip j k):=rfl
theorem Ud {j k n:Nat}(hk:k < n):skip j k < n+1:=by unfold skip;split<;>lia
theorem cS:∀{n:Nat} {M N:Mat},(∀i j,i < n->j < n->M i j=N i j)->det n M=det n N
 |0,_,_,_=>rfl
 |n+1,M,N,h=>by
  rw[fP,fP];exact aS fun j hj=>by rw[h n j (by lia) hj,cS (N:=fun i k=>N i (skip j k)) fun i k hi hk=>h i _ (by lia) (Ud hk)]
theorem yT {j k l:Nat}(h:j<=k):skip (k+1) (skip j l)=skip j (skip k l):=by
 unfold skip
 by_cases h1:l < j
 ·rw[if_pos h1,if_pos (show l < k by lia),if_pos (show l < k+1 by lia),if_pos h1]
 ·rw[if_neg h1]
  by_cases h2:l < k
  ·rw[if_pos h2,if_pos (show l+1 < k+1 by lia),if_neg h1]
  ·rw[if_neg h2,if_neg (show ¬l+1 < k+1 by lia),if_neg (show ¬l+1 < j by lia)]
theorem Tn (n m:Nat)(F:Nat->Nat->Rat):(rs n fun i=>rs m fun j=>F i j)=rs m fun j=>rs n fun i=>F i j:=by
 induction n with
 |zero=>simp only[rs];rw[dW]
 |succ n ih=>simp only[rs];rw[ih,<- dG]
theorem oO (n:Nat)(F:Nat->Rat):rs (n+1) F=F 0+rs n fun i=>F (i+1):=by
 induction n with
 |zero=>simp only[rs];grind
 |succ n ih=>rw[show rs (n+1+1) F=rs (n+1) F+F (n+1) from rfl,ih];simp only[rs];grind
theorem wN (N:Nat)(X:Nat->Nat->Rat):(rs (N+1) fun j=>rs N fun k=>X j k)=(rs N fun k=>rs N fun j=>if k<=j then X (j+1) k else 0)+rs N fun j=>rs N fun k=>if j<=k then X j k else 0:=by
 have h1:(rs (N+1) fun j=>rs N fun k=>X j k)=(rs (N+1) fun j=>rs N fun k=>if k < j then X j k else 0)+rs (N+1) fun j=>rs N fun k=>if k < j then 0 else X j k:=by
  rw[<- dG];refine aS fun j _=>?_;rw[<- dG];exact aS fun k _=>by split<;>grind
 have h2:(rs (N+1) fun j=>rs N fun k=>if k < j then X j k else 0)=rs N fun k=>rs N fun j=>if k<=j then X (j+1) k else 0:=by
  rw[Tn];refine aS fun k _=>?_;rw[oO,if_neg (by lia)];have:(rs N fun i=>if k < i+1 then X (i+1) k else 0)=rs N fun j=>if k<=j then X (j+1) k else 0:=aS fun i _=>by
   by_cases c:k<=i
   ·rw[if_pos (by lia),if_pos c]
   ·rw[if_neg (by lia),if_neg c]
  rw[this];grind
 have h3:(rs (N+1) fun j=>rs N fun k=>if k < j then 0 else X j k)=rs N fun j=>rs N fun k=>if j<=k then X j k else 0:=by
  show (rs N fun j=>rs N fun k=>if k < j then 0 else X j k)+(rs N fun k=>if k < N then 0 else X N k)=_;have:(rs N fun k=>if k < N then 0 else X N k)=rs N fun _=>0:=aS fun k hk=>by rw[if_pos hk]
  rw[this,dW];have e2:(rs N fun j=>rs N fun k=>if k < j then 0 else X j k)=rs N fun j=>rs N fun k=>if j<=k then X j k else 0:=aS fun j _=>aS fun k _=>by
   by_cases c:j<=k
   ·rw[if_neg (by lia),if_pos c]
   ·rw[if_pos (by lia),if_neg c]
  rw[e2];grind
 rw[h1,h2,h3]
theorem Gf (N:Nat)(X Y:Nat->Nat->Rat)(h:∀j k,j<=k->Y (k+1) j=- X j k)(h':∀j k,j<=k->X (k+1) j=- Y j k):(rs (N+1) fun j=>rs N fun k=>Y j k)=- rs (N+1) fun j=>rs N fun k=>X j k:=by
 rw[wN,wN];have e1:(rs N fun k=>rs N fun j=>if k<=j then Y (j+1) k else 0)=- rs N fun j=>rs N fun k=>if j<=k then X j k else 0:=by
  rw[<- jH];refine aS fun k _=>?_;rw[<- jH];exact aS fun j _=>by
   by_cases c:k<=j
   ·rw[if_pos c,if_pos c,h k j c]
   ·rw[if_neg c,if_neg c];grind
 have e2:(rs N fun k=>rs N fun j=>if k<=j then X (j+1) k else 0)=- rs N fun j=>rs N fun k=>if j<=k then Y j k else 0:=by
  rw[<- jH];refine aS fun k _=>?_;rw[<- jH];exact aS fun j _=>by
   by_cases c:k<=j
   ·rw[if_pos c,if_pos c,h' k j c]
   ·rw[if_neg c,if_neg c];grind
 rw[e1,e2];grind
def cJ (a:Nat)(M:Mat):Mat:=fun i=>if i=a then M (a+1) else if i=a+1 then M a else M i
theorem Gs (n:Nat)(M:Mat):det (n+2) M=rs (n+2) fun j=>rs (n+1) fun k=>(sgn (n+1+j)*M (n+1) j)*(sgn (n+k)*M n (skip j k)*det n fun i l=>M i (skip j (skip k l))):=by
 rw[fP];exact aS fun j _=>by rw[fP,<- eX]
theorem oU (a b:Nat):sgn (a+1+b)=- sgn (a+b):=by rw[show a+1+b=a+b+1 by lia,uJ]
theorem yY (n:Nat)(M:Mat):det (n+2) (cJ n M)=- det (n+2) M:=by
 rw[Gs,Gs];refine Gf (n+1) _ _ (fun j k hjk=>?_) (fun j k hjk=>?_)
 ·show (sgn (n+1+(k+1))*cJ n M (n+1) (k+1))*(sgn (n+j)*cJ n M n (skip (k+1) j)*det n fun i l=>cJ n M i (skip (k+1) (skip j l)))=- ((sgn (n+1+j)*M (n+1) j)*(sgn (n+k)*M n (skip j k)*det n fun i l=>M i (skip j (skip k l))));have a1:cJ n M (n+1)=M n:=by unfold cJ;rw[if_neg (by lia),if_pos rfl]
  have a2:cJ n M n=M (n+1):=by unfold cJ;rw[if_pos rfl]
  have a3:(det n fun i l=>cJ n M i (skip (k+1) (skip j l)))=det n fun i l=>M i (skip j (skip k l)):=cS fun i l hi _=>by
   show cJ n M i (skip (k+1) (skip j l))=M i (skip j (skip k l));rw[yT hjk];unfold cJ;rw[if_neg (by lia),if_neg (by lia)]
  have a4:skip (k+1) j=j:=by unfold skip;rw[if_pos (by lia)]
  have a5:skip j k=k+1:=by unfold skip;rw[if_neg (by lia)]
  rw[a1,a2,a3,a4,a5,oU,oU,show n+(k+1)=n+k+1 by lia,uJ];generalize (det n fun i l=>M i (skip j (skip k l)))=dd;generalize sgn (n+k)=s1;generalize sgn (n+j)=s2;grind
 ·show (sgn (n+1+(k+1))*M (n+1) (k+1))*(sgn (n+j)*M n (skip (k+1) j)*det n fun i l=>M i (skip (k+1) (skip j l)))=- ((sgn (n+1+j)*cJ n M (n+1) j)*(sgn (n+k)*cJ n M n (skip j k)*det n fun i l=>cJ n M i (skip j (skip k l))));have a1:cJ n M (n+1)=M n:=by unfold cJ;rw[if_neg (by lia),if_pos rfl]
  have a2:cJ n M n=M (n+1):=by unfold cJ;rw[if_pos rfl]
  have a3:(det n fun i l=>M i (skip (k+1) (skip j l)))=det n fun i l=>cJ n M i (skip j (skip k l)):=cS fun i l hi _=>by
   show M i (skip (k+1) (skip j l))=cJ n M i (skip j (skip k l));rw[yT hjk];unfold cJ;rw[if_neg (by lia),if_neg (by lia)]
  have a4:skip (k+1) j=j:=by unfold skip;rw[if_pos (by lia)]
  have a5:skip j k=k+1:=by unfold skip;rw[if_neg (by lia)]
  rw[a1,a2,a3,a4,a5,oU,oU,show n+(k+1)=n+k+1 by lia,uJ];generalize (det n fun i l=>cJ n M i (skip j (skip k l)))=dd;generalize sgn (n+k)=s1;generalize sgn (n+j)=s2;grind
theorem kM:∀(n a:Nat) (M:Mat),a+1 < n->det n (cJ a M)=- det n M
 |0,_,_,h=>absurd h (by lia)
 |n+1,a,M,h=>by
  by_cases e:a+1=n
  ·subst e;exact yY a M
  ·rw[fP,fP,<- jH];refine aS fun j hj=>?_;have e1:cJ a M n j=M n j:=by unfold cJ;rw[if_neg (by lia),if_neg (by lia)]
   have e2:(det n fun i k=>cJ a M i (skip j k))=- det n fun i k=>M i (skip j k):=by
    rw[<- kM n a (fun i k=>M i (skip j k)) (by lia)];exact cS fun i k _ _=>by
     show cJ a M i (skip j k)=cJ a (fun i k=>M i (skip j k)) i k;unfold cJ;split
     ·rfl
     ·split<;>rfl
   rw[e1,e2];grind
theorem xE:∀(t n:Nat) (M:Mat) (i:Nat),i+t+1=n->(∀j,M i j=M n j)->det (n+1) M=0
 |0,n,M,i,h,e=>by
  have hn:n=i+1:=by lia
  subst hn;have s:=yY i M;have c:det (i+2) (cJ i M)=det (i+2) M:=cS fun k j _ _=>by
   unfold cJ
   by_cases k1:k=i
   ·rw[if_pos k1,k1];exact(e j).symm
   ·rw[if_neg k1]
    by_cases k2:k=i+1
    ·rw[if_pos k2,k2];exact e j
    ·rw[if_neg k2]
  rw[c] at s;grind
 |t+1,n,M,i,h,e=>by
  have s:=kM (n+1) i M (by lia);have z:=xE t n (cJ i M) (i+1) (by lia) fun j=>by
   have a1:cJ i M (i+1)=M i:=by unfold cJ;rw[if_neg (by lia),if_pos rfl]
   have a2:cJ i M n=M n:=by unfold cJ;rw[if_neg (by lia),if_neg (by lia)]
   rw[a1,a2];exact e j
  rw[z] at s;grind
def Aj (n:Nat)(S:Mat)(x:Nat->Rat):Mat:=fun i=>if i=n then x else S i
def F (n:Nat)(S:Mat)(c:Nat->Nat)(x:Nat->Rat):Rat:=det (n+1) (Aj n (fun i j=>S i (c j)) fun j=>x (c j))
theorem Jf (n:Nat)(S:Mat)(c:Nat->Nat)(x:Nat->Rat):F n S c x=rs (n+1) fun j=>sgn (n+j)*x (c j)*det n fun i k=>S i (c (skip j k)):=by
 unfold F;rw[fP];refine aS fun j _=>?_;have e1:Aj n (fun i j=>S i (c j)) (fun j=>x (c j)) n j=x (c j):=by unfold Aj;rw[if_pos rfl]
 rw[e1,cS fun i k hi _=>show Aj n (fun i j=>S i (c j)) (fun j=>x (c j)) i (skip j k)=S i (c (skip j k)) by unfold Aj;rw[if_neg (by lia)]]
theorem Zh (n:Nat)(S:Mat)(c:Nat->Nat)(x y:Nat->Rat)(l:Rat):F n S c (fun j=>x j+l*y j)=F n S c x+l*F n S c y:=by
 rw[Jf,Jf,Jf,<- eX,<- dG];exact aS fun j _=>by grind
theorem Ie (n:Nat)(S:Mat)(c:Nat->Nat){i:Nat}(h:i < n):F n S c (S i)=0:=by
 unfold F;refine xE (n - i - 1) n _ i (by lia) fun j=>?_;unfold Aj;rw[if_neg (by lia),if_pos rfl]
theorem Ba (n:Nat)(S:Mat)(c:Nat->Nat)(x:Nat->Rat)(h:∀j,j < n->x (c j)=0):F n S c x=x (c n)*det n fun i j=>S i (c j):=by
 rw[Jf];show (rs n fun j=>sgn (n+j)*x (c j)*det n fun i k=>S i (c (skip j k)))+sgn (n+n)*x (c n)*(det n fun i k=>S i (c (skip n k)))=_;have z:(rs n fun j=>sgn (n+j)*x (c j)*det n fun i k=>S i (c (skip j k)))=rs n fun _=>0:=aS fun j hj=>by rw[h j hj];grind
 have s:sgn (n+n)=1:=by unfold sgn;rw[if_pos (by lia)]
 have d:(det n fun i k=>S i (c (skip n k)))=det n fun i j=>S i (c j):=cS fun i k _ hk=>by show S i (c (skip n k))=_;unfold skip;rw[if_pos hk]
 rw[z,dW,s,d];grind
theorem Ci {n:Nat}{F:Nat->Rat}(h:∀i,i < n->∃z:Int,F i=(z:Rat)):∃z:Int,rs n F=(z:Rat):=by
 induction n with
 |zero=>exact⟨0,by simp[rs]⟩
 |succ n ih=>
  obtain⟨a,ha⟩:=ih fun i hi=>h i (by lia);obtain⟨b,hb⟩:=h n (by lia);exact⟨a+b,by simp only[rs];rw[ha,hb,Rat.intCast_add]⟩
theorem Iz (n:Nat):∃z:Int,sgn n=(z:Rat):=by
 unfold sgn;split
 ·exact⟨1,by simp⟩
 ·exact⟨-1,by rw[Rat.intCast_neg];simp⟩
theorem qA {a b:Rat}(h:∃z:Int,a=(z:Rat))(k:∃z:Int,b=(z:Rat)):∃z:Int,a*b=(z:Rat):=by
 obtain⟨x,rfl⟩:=h;obtain⟨y,rfl⟩:=k;exact⟨x*y,by rw[Rat.intCast_mul]⟩
theorem xV:∀{n:Nat} {M:Mat},(∀i j,∃z:Int,M i j=(z:Rat))->∃z:Int,det n M=(z:Rat)
 |0,_,_=>⟨1,by simp[det]⟩
 |n+1,M,h=>by
  rw[fP];exact Ci fun j _=>qA (qA (Iz _) (h n j)) (xV fun i k=>h i _)
theorem Tp {n:Nat}{S:Mat}{c:Nat->Nat}{x:Nat->Rat}(h:∀i j,∃z:Int,S i j=(z:Rat))(hx:∀j,∃z:Int,x j=(z:Rat)):∃z:Int,F n S c x=(z:Rat):=by
 unfold F;refine xV fun i j=>?_;unfold Aj;split
 ·exact hx _
 ·exact h i _
def Lin (Φ:(Nat->Rat)->Rat):Prop:=∀x y l,Φ (fun j=>x j+l*y j)=Φ x+l*Φ y
theorem Lin.zero {Φ:(Nat->Rat)->Rat}(h:Lin Φ):Φ (fun _=>0)=0:=by
 have:=h (fun _=>0) (fun _=>0) 1;have e:(fun j:Nat=>(fun _=>(0:Rat)) j+1*(fun _=>(0:Rat)) j)=fun _=>0:=by funext j;show (0:Rat)+1*0=0;grind
 rw[e] at this;grind
theorem Lin.mul {Φ:(Nat->Rat)->Rat}(h:Lin Φ)(l:Rat)(y:Nat->Rat):Φ (fun j=>l*y j)=l*Φ y:=by
 have:=h (fun _=>0) y l;have e:(fun j:Nat=>(fun _=>(0:Rat)) j+l*y j)=fun j=>l*y j:=by funext j;show (0:Rat)+l*y j=_;grind
 rw[e,h.zero] at this;grind
theorem Lin.sum {Φ:(Nat->Rat)->Rat}(h:Lin Φ)(a:Nat->Rat)(Y:Nat->Nat->Rat):∀n,Φ (fun j=>rs n fun k=>a k*Y k j)=rs n fun k=>a k*Φ (Y k)
 |0=>h.zero
 |n+1=>by
  have:=h (fun j=>rs n fun k=>a k*Y k j) (Y n) (a n);simp only[rs];rw[this,Lin.sum h a Y n]
theorem Gg (n:Nat)(S:Mat)(c:Nat->Nat):Lin (F n S c):=fun x y l=>Zh n S c x y l
def Wh (x:Rat):Prop:=∃z:Int,x=(z:Rat)
theorem Wh.mul {a b:Rat}(h:Wh a)(k:Wh b):Wh (a*b):=qA h k
theorem Wh.neg {a:Rat}(h:Wh a):Wh (-a):=by obtain⟨z,rfl⟩:=h;exact⟨-z,by rw[Rat.intCast_neg]⟩
theorem Wh.sub {a b:Rat}(h:Wh a)(k:Wh b):Wh (a - b):=by obtain⟨x,rfl⟩:=h;obtain⟨y,rfl⟩:=k;exact⟨x - y,by rw[Rat.intCast_sub]⟩
theorem Wh.one:Wh 1:=⟨1,by simp⟩
theorem Wh.nil:Wh 0:=⟨0,by simp⟩
structure Bar (m:Nat) (A E:Mat) (r col:Nat) (d:Rat) (c:Nat->Nat):Prop where
 dne:d≠0
 rm:r<=m
 rc:r<=col
 clt:∀j,j < r->c j < col
 cinj:∀i j,i < r->j < r->c i=c j->i=j
 wA:∀i j,Wh (A i j)
 wE:∀i j,i < m->Wh (E i j)
 i2:∀k j,k < r->j < r->E k (c j)=if j=k then d else 0
 i3:∀i x,r<=i->i < m->x < col->E i x=0
 i4:∀i x,i < m->d*A i x=(rs r fun k=>A i (c k)*E k x)+if i < r then 0 else E i x
 i5:det r (fun i j=>A i (c j))=d
 i6:∀Φ,Lin Φ->(∀s,s < r->Φ (A s)=0)->∀k,k < r->Φ (E k)=0
 full:r=col->∀j,j < r->c j=j
theorem Bar.start {m:Nat}{A:Mat}(wA:∀i j,Wh (A i j)):Bar m A A 0 0 1 id where
 dne:=by grind
 rm:=by lia
 rc:=by lia
 clt:=fun j h=>absurd h (by lia)
 cinj:=fun i j h=>absurd h (by lia)
 wA:=wA
 wE:=fun i j _=>wA i j
 i2:=fun k j h=>absurd h (by lia)
 i3:=fun i x _ _ h=>absurd h (by lia)
 i4:=fun i x _=>by simp only[rs];rw[if_neg (by lia)];grind
 i5:=rfl
 i6:=fun Φ _ _ k h=>absurd h (by lia)
 full:=fun _ j h=>absurd h (by lia)
section
variable {m:Nat} {A E:Mat} {r col:Nat} {d:Rat} {c:Nat->Nat}
theorem Bar.skip (h:Bar m A E r col d c)(hz:∀i,r<=i->i < m->E i col=0):Bar m A E r (col+1) d c:=
 { h with
  rc:=by have:=h.rc;lia
  clt:=fun j hj=>by have:=h.clt j hj;lia
  i3:=fun i x hi hm hx=>by
   by_cases e:x=col
   ·rw[e];exact hz i hi hm
   ·exact h.i3 i x hi hm (by lia)
  full:=fun e=>by have:=h.rc;lia }
def sw (p r i:Nat):Nat:=if i=r then p else if i=p then r else i
theorem yF {p r i:Nat}(hp:r<=p)(hi:i < r):sw p r i=i:=by unfold sw;rw[if_neg (by lia),if_neg (by lia)]
theorem Vc {p r i:Nat}(hp:r<=p)(hi:r<=i):r<=sw p r i:=by unfold sw;split;exact hp;split<;>lia
theorem Ae {p r i m:Nat}(hp:p < m)(hr:r < m)(hi:i < m):sw p r i < m:=by unfold sw;split;exact hp;split<;>lia
theorem Ou (p r i:Nat):sw p r (sw p r i)=i:=by
 unfold sw
 by_cases h1:i=r
 ·rw[if_pos h1]
  by_cases h2:p=r
  ·rw[if_pos h2];lia
  ·rw[if_neg h2,if_pos rfl];exact h1.symm
 ·rw[if_neg h1]
  by_cases h2:i=p
  ·rw[if_pos h2,if_pos rfl];exact h2.symm
  ·rw[if_neg h2,if_neg h1,if_neg h2]
theorem Bar.swap (h:Bar m A E r col d c){p:Nat}(hp:r<=p)(hpm:p < m):Bar m (fun i=>A (sw p r i)) (fun i=>E (sw p r i)) r col d c:=
 { h with
  wA:=fun i j=>h.wA _ j
  wE:=fun i j hi=>h.wE _ j (Ae hpm (by lia) hi)
  i2:=fun k j hk hj=>by
   show E (sw p r k) (c j)=_;rw[yF hp hk];exact h.i2 k j hk hj
  i3:=fun i x hi hm hx=>h.i3 _ x (Vc hp hi) (Ae hpm (by lia) hm) hx
  i4:=fun i x hm=>by
   have e:(rs r fun k=>A (sw p r i) (c k)*E (sw p r k) x)=rs r fun k=>A (sw p r i) (c k)*E k x:=aS fun k hk=>by rw[yF hp hk]
   show d*A (sw p r i) x=(rs r fun k=>A (sw p r i) (c k)*E (sw p r k) x)+_;rw[e,h.i4 _ x (Ae hpm (by lia) hm)];congr 1
   by_cases hi:i < r
   ·rw[yF hp hi,if_pos hi]
   ·have:=Vc hp (show r<=i by lia);rw[if_neg (by lia),if_neg hi]
  i5:=by
   rw[<- h.i5];exact cS fun i j hi _=>by show A (sw p r i) (c j)=_;rw[yF hp hi]
  i6:=fun Φ hΦ hs k hk=>by
   show Φ (E (sw p r k))=0;rw[yF hp hk];exact h.i6 Φ hΦ (fun s hs'=>by have:=hs s hs';rwa [yF hp hs'] at this) k hk }
def clr (E:Mat)(r col:Nat)(d:Rat):Mat:=fun k x=>if k=r then E r x else (E r col*E k x - E k col*E r x) / d
def c1 (c:Nat->Nat)(r col:Nat):Nat->Nat:=fun j=>if j=r then col else c j
theorem iX (c:Nat->Nat){r col j:Nat}(h:j < r):c1 c r col j=c j:=by unfold c1;rw[if_neg (by lia)]
theorem nQ (c:Nat->Nat)(r col:Nat):c1 c r col r=col:=by unfold c1;rw[if_pos rfl]
theorem zV (E:Mat)(r col:Nat)(d:Rat):clr E r col d r=E r:=by funext x;unfold clr;rw[if_pos rfl]
theorem kZ (E:Mat){r col k:Nat}{d:Rat}(h:k≠r)(x:Nat):clr E r col d k x=(E r col*E k x - E k col*E r x) / d:=by unfold clr;rw[if_neg h]
theorem Bar.j2 (h:Bar m A E r col d c)(hr:r < m):∀k j,k < r+1->j < r+1->clr E r col d k (c1 c r col j)=if j=k then E r col else 0:=fun k j hk hj=>by
 have hd:=h.dne
 by_cases kr:k=r
 ·subst kr;rw[zV]
  by_cases jr:j=k
  ·rw[if_pos jr,jr,nQ]
  ·rw[if_neg jr,iX c (by lia)];exact h.i3 k _ (Nat.le_refl _) hr (h.clt j (by lia))
 ·rw[kZ E kr]
  by_cases jr:j=r
  ·subst jr;rw[nQ,if_neg (by lia)];grind
  ·rw[iX c (by lia),h.i2 k j (by lia) (by lia),h.i3 r (c j) (Nat.le_refl _) hr (h.clt j (by lia))]
   by_cases e:j=k
   ·rw[if_pos e,if_pos e];grind
   ·rw[if_neg e,if_neg e];grind
theorem Bar.j4 (h:Bar m A E r col d c)(hr:r < m):∀i x,i < m->E r col*A i x=(rs (r+1) fun k=>A i (c1 c r col k)*clr E r col d k x)+if i < r+1 then 0 else clr E r col d i x:=fun i x hi=>by
 have hd:=h.dne;have q:=h.i4 i x hi;have q2:=h.i4 i col hi;show _=(rs r fun k=>A i (c1 c r col k)*clr E r col d k x)+A i (c1 c r col r)*clr E r col d r x+_;rw[nQ,zV];have e:(rs r fun k=>A i (c1 c r col k)*clr E r col d k x)=(E r col / d)*(rs r fun k=>A i (c k)*E k x)+(-(E r x / d))*rs r fun k=>A i (c k)*E k col:=by
  rw[<- eX,<- eX,<- dG];exact aS fun k hk=>by rw[iX c hk,kZ E (by lia)];grind
 rw[e];generalize (rs r fun k=>A i (c k)*E k x)=s1 at q ⊢;generalize (rs r fun k=>A i (c k)*E k col)=s2 at q2 ⊢
 by_cases h1:i < r
 ·rw[if_pos h1] at q q2;rw[if_pos (by lia)];have:s1=d*A i x:=by grind
  have:s2=d*A i col:=by grind
  subst s1 s2;grind
 ·rw[if_neg h1] at q q2;have a1:s1=d*A i x - E i x:=by grind
  have a2:s2=d*A i col - E i col:=by grind
  subst a1 a2
  by_cases h2:i=r
  ·subst h2;rw[if_pos (by lia)];grind
  ·rw[if_neg (by lia),kZ E h2];grind
theorem Bar.j6 (h:Bar m A E r col d c)(hr:r < m):∀Φ,Lin Φ->(∀s,s < r+1->Φ (A s)=0)->∀k,k < r+1->Φ (clr E r col d k)=0:=fun Φ hΦ hs k hk=>by
 have hd:=h.dne;have z:=h.i6 Φ hΦ fun s hs'=>hs s (by lia);have zr:Φ (E r)=0:=by
  have e:E r=fun x=>(fun x=>d*A r x) x+(-1)*(fun x=>rs r fun k=>A r (c k)*E k x) x:=by
   funext x
   have:=h.i4 r x hr;rw[if_neg (by lia)] at this;show E r x=d*A r x+(-1)*(rs r fun k=>A r (c k)*E k x)
   grind
  rw[e,hΦ,hΦ.mul,hΦ.sum,hs r (by lia)];have:(rs r fun k=>A r (c k)*Φ (E k))=rs r fun _=>0:=aS fun k hk=>by rw[z k hk];grind
  rw[this,dW];grind
 by_cases kr:k=r
 ·rw[kr,zV];exact zr
 ·have e:clr E r col d k=fun x=>(fun x=>(E r col / d)*E k x) x+(-(E k col / d))*E r x:=by
   funext x
   rw[kZ E kr];show _=(E r col / d)*E k x+(-(E k col / d))*E r x;grind
  rw[e,hΦ,hΦ.mul,z k (by lia),zr];grind
theorem Bar.j5 (h:Bar m A E r col d c)(hr:r < m):det (r+1) (fun i j=>A i (c1 c r col j))=E r col:=by
 have hd:=h.dne;have e1:det (r+1) (fun i j=>A i (c1 c r col j))=F r A (c1 c r col) (A r):=by
  unfold F;exact cS fun i j hi _=>by
   unfold Aj
   by_cases e:i=r
   ·rw[if_pos e,e]
   ·rw[if_neg e]
 have hΦ:=Gg r A (c1 c r col);have z:=h.i6 _ hΦ fun s hs=>Ie r A (c1 c r col) hs;have eA:A r=fun x=>(fun x=>(1 / d)*E r x) x+(1 / d)*(fun x=>rs r fun k=>A r (c k)*E k x) x:=by
  funext x
  have:=h.i4 r x hr;rw[if_neg (by lia)] at this;show A r x=(1 / d)*E r x+(1 / d)*(rs r fun k=>A r (c k)*E k x)
  grind
 have zs:(rs r fun k=>A r (c k)*F r A (c1 c r col) (E k))=0:=by
  have:(rs r fun k=>A r (c k)*F r A (c1 c r col) (E k))=rs r fun _=>0:=aS fun k hk=>by rw[z k hk];grind
  rw[this,dW]
 have fb:=Ba r A (c1 c r col) (E r) fun j hj=>by rw[iX c hj];exact h.i3 r _ (Nat.le_refl _) hr (h.clt j hj)
 have dd:(det r fun i j=>A i (c1 c r col j))=d:=by rw[<- h.i5];exact cS fun i j _ hj=>by show A i (c1 c r col j)=_;rw[iX c hj]
 rw[nQ,dd] at fb;rw[e1,eA,hΦ,hΦ.mul,hΦ.sum,zs,fb];grind
theorem Bar.wV (h:Bar m A E r col d c)(hr:r < m)(he:E r col≠0):∀i x,i < m->Wh (clr E r col d i x):=by
 have j2:=h.j2 hr;have j4:=h.j4 hr;have j5:=h.j5 hr;have j6:=h.j6 hr;have cin:∀i j,i < r+1->j < r+1->c1 c r col i=c1 c r col j->i=j:=fun i j hi hj e=>by
  by_cases a:i=r
  ·by_cases b:j=r
   ·lia
   ·rw[a,nQ,iX c (by lia)] at e;have:=h.clt j (by lia);lia
  ·by_cases b:j=r
   ·rw[b,nQ,iX c (by lia)] at e;have:=h.clt i (by lia);lia
   ·rw[iX c (by lia),iX c (by lia)] at e;exact h.cinj i j (by lia) (by lia) e
 have top:∀k x,k < r+1->Wh (clr E r col d k x):=fun k x hk=>by
  by_cases hx:∃j,j < r+1/\x=c1 c r col j
  ·obtain⟨j,hj,rfl⟩:=hx;rw[j2 k j hk hj];split
   ·exact h.wE r col hr
   ·exact Wh.nil
  ·let c2:Nat->Nat:=fun j=>if j=r+1 then x else c1 c r col j
   let u:Nat->Rat:=fun j=>if j=c1 c r col k then 1 else 0
   have hΦ:=Gg (r+1) A c2;have z:=j6 _ hΦ (fun s hs=>Ie (r+1) A c2 hs) k hk;have eu:u=fun y=>(fun y=>u y+(-(1 / E r col))*clr E r col d k y) y+(1 / E r col)*clr E r col d k y:=by
    funext y
    show u y=u y+(-(1 / E r col))*clr E r col d k y+(1 / E r col)*clr E r col d k y;grind
   have fb:=Ba (r+1) A c2 (fun y=>u y+(-(1 / E r col))*clr E r col d k y) fun j hj=>by
    have ec:c2 j=c1 c r col j:=by show (if j=r+1 then x else c1 c r col j)=_;rw[if_neg (by lia)]
    rw[ec];show u (c1 c r col j)+(-(1 / E r col))*clr E r col d k (c1 c r col j)=0;rw[j2 k j hk hj];show (if c1 c r col j=c1 c r col k then (1:Rat) else 0)+_=0
    by_cases e:j=k
    ·rw[if_pos e,if_pos (by rw[e])];grind
    ·rw[if_neg e,if_neg (fun q=>e (cin j k hj hk q))];grind
   have dd:(det (r+1) fun i j=>A i (c2 j))=E r col:=by
    rw[<- j5];exact cS fun i j _ hj=>by show A i (if j=r+1 then x else c1 c r col j)=_;rw[if_neg (by lia)]
   have ux:u x=0:=by show (if x=c1 c r col k then (1:Rat) else 0)=0;rw[if_neg (fun q=>hx ⟨k,hk,q⟩)]
   have cx:c2 (r+1)=x:=by show (if r+1=r+1 then x else _)=x;rw[if_pos rfl]
   rw[dd,cx] at fb;have val:F (r+1) A c2 u=- clr E r col d k x:=by
    rw[eu,hΦ,z,fb];show (u x+(-(1 / E r col))*clr E r col d k x)*E r col+_=_;rw[ux];grind
   have wh:Wh (F (r+1) A c2 u):=Tp h.wA fun j=>by
    show Wh (if j=c1 c r col k then (1:Rat) else 0);split
    ·exact Wh.one
    ·exact Wh.nil
   rw[val] at wh;have:=wh.neg
   rwa [show - - clr E r col d k x=clr E r col d k x by grind] at this
 intro i x hi
 by_cases h1:i < r+1
 ·exact top i x h1
 ·have q:=j4 i x hi;rw[if_neg h1] at q;have e:clr E r col d i x=E r col*A i x - rs (r+1) fun k=>A i (c1 c r col k)*clr E r col d k x:=by grind
  rw[e];exact Wh.sub (Wh.mul (h.wE r col hr) (h.wA i x)) (Ci fun k hk=>Wh.mul (h.wA _ _) (top k x hk))
theorem Bar.clear (h:Bar m A E r col d c)(hr:r < m)(he:E r col≠0):Bar m A (clr E r col d) (r+1) (col+1) (E r col) (c1 c r col) where
 dne:=he
 rm:=hr
 rc:=by have:=h.rc;lia
 clt:=fun j hj=>by
  by_cases e:j=r
  ·rw[e,nQ];lia
  ·rw[iX c (by lia)];have:=h.clt j (by lia);lia
 cinj:=fun i j hi hj e=>by
  by_cases a:i=r
  ·by_cases b:j=r
   ·lia
   ·rw[a,nQ,iX c (by lia)] at e;have:=h.clt j (by lia);lia
  ·by_cases b:j=r
   ·rw[b,nQ,iX c (by lia)] at e;have:=h.clt i (by lia);lia
   ·rw[iX c (by lia),iX c (by lia)] at e;exact h.cinj i j (by lia) (by lia) e
 wA:=h.wA
 wE:=fun i j hi=>h.wV hr he i j hi
 i2:=h.j2 hr
 i3:=fun i x hi hm hx=>by
  rw[kZ E (by lia)]
  by_cases e:x=col
  ·rw[e];grind
  ·rw[h.i3 i x (by lia) hm (by lia),h.i3 r x (Nat.le_refl _) hr (by lia)];grind
 i4:=h.j4 hr
 i5:=h.j5 hr
 i6:=h.j6 hr
 full:=fun e j hj=>by
  by_cases a:j=r
  ·rw[a,nQ];lia
  ·rw[iX c (by lia)];exact h.full (by lia) j (by lia)
end
def ent (R:List (List Int))(i x:Nat):Int:=(R.getD i []).getD x 0
def at2 (R:List (List Int)):Mat:=fun i x=>((ent R i x:Int):Rat)
theorem Bar.congr {m:Nat}{A E E':Mat}{r col:Nat}{d:Rat}{c:Nat->Nat}(h:Bar m A E r col d c)(e:∀i,i < m->E i=E' i):Bar m A E' r col d c:=
 { h with
  wE:=fun i j hi=>by rw[<- e i hi];exact h.wE i j hi
  i2:=fun k j hk hj=>by rw[<- e k (by have:=h.rm;lia)];exact h.i2 k j hk hj
  i3:=fun i x hi hm hx=>by rw[<- e i hm];exact h.i3 i x hi hm hx
  i4:=fun i x hm=>by
   rw[h.i4 i x hm];congr 1
   ·exact aS fun k hk=>by rw[e k (by have:=h.rm;lia)]
   ·rw[e i hm]
  i6:=fun Φ hΦ hs k hk=>by rw[<- e k (by have:=h.rm;lia)];exact h.i6 Φ hΦ hs k hk }
theorem Px (n:Nat):∀(t p r:Nat) (A:Mat),p=r+t+1->p < n->det n (fun i=>A (sw p r i))=- det n A
 |0,p,r,A,h,hp=>by
  subst h;rw[<- kM n r A (by lia)];exact cS fun i j _ _=>by
   show A (sw (r+0+1) r i) j=cJ r A i j;unfold sw cJ
   by_cases h1:i=r
   ·rw[if_pos h1,if_pos h1]
   ·rw[if_neg h1,if_neg h1]
    by_cases h2:i=r+1
    ·rw[if_pos (by lia),if_pos h2]
    ·rw[if_neg (by lia),if_neg h2]
 |t+1,p,r,A,h,hp=>by
  have ih:=Px n t (r+t+1) r (cJ (r+t+1) A) rfl (by lia);have s1:=kM n (r+t+1) A (by lia);have s2:=kM n (r+t+1) (fun i=>cJ (r+t+1) A (sw (r+t+1) r i)) (by lia);have e:det n (fun i=>A (sw p r i))=det n (cJ (r+t+1) (fun i=>cJ (r+t+1) A (sw (r+t+1) r i))):=cS fun i j _ _=>by
   subst h;show A (sw (r+(t+1)+1) r i) j=cJ (r+t+1) (fun i=>cJ (r+t+1) A (sw (r+t+1) r i)) i j
   by_cases h1:i=r
   ·have a1:sw (r+(t+1)+1) r i=r+t+1+1:=by unfold sw;rw[if_pos h1];lia
    have a2:sw (r+t+1) r i=r+t+1:=by unfold sw;rw[if_pos h1]
    rw[a1];unfold cJ;rw[if_neg (by lia),if_neg (by lia)];dsimp only;rw[a2,if_pos rfl]
   ·by_cases h2:i=r+t+1+1
    ·have a1:sw (r+(t+1)+1) r i=r:=by unfold sw;rw[if_neg h1,if_pos (by lia)]
     have a2:sw (r+t+1) r (r+t+1)=r:=by unfold sw;rw[if_neg (by lia),if_pos rfl]
     rw[a1];unfold cJ;rw[if_neg (by lia),if_pos h2];dsimp only;rw[a2,if_neg (by lia),if_neg (by lia)]
    ·have a1:sw (r+(t+1)+1) r i=i:=by unfold sw;rw[if_neg h1,if_neg (by lia)]
     rw[a1]
     by_cases h3:i=r+t+1
     ·have a2:sw (r+t+1) r (r+t+1+1)=r+t+1+1:=by unfold sw;rw[if_neg (by lia),if_neg (by lia)]
      unfold cJ;rw[if_pos h3];dsimp only;rw[a2,if_neg (by lia),if_pos rfl,h3]
     ·have a2:sw (r+t+1) r i=i:=by unfold sw;rw[if_neg h1,if_neg h3]
      unfold cJ;rw[if_neg h3,if_neg h2];dsimp only;rw[a2,if_neg h3,if_neg h2]
  rw[e,s2,ih,s1];grind
def fD (R:List (List Int))(p r:Nat):List (List Int):=(R.set p (R.getD r [])).set r (R.getD p [])
theorem Yi (R:List (List Int))(p r:Nat):(fD R p r).length=R.length:=by unfold fD;simp
theorem Bq {R:List (List Int)}{p r:Nat}(hp:p < R.length)(hr:r < R.length)(i:Nat):(fD R p r).getD i []=R.getD (sw p r i) []:=by
 unfold fD sw;rw[getD_eq_getElem?_getD]
 by_cases h1:i=r
 ·rw[if_pos h1,h1,getElem?_set_self (by simpa using hr)];rfl
 ·rw[if_neg h1,getElem?_set_ne (Ne.symm h1)]
  by_cases h2:i=p
  ·rw[if_pos h2,h2,getElem?_set_self hp];rfl
  ·rw[if_neg h2,getElem?_set_ne (Ne.symm h2),getD_eq_getElem?_getD]
def gN (upper row:List Int)(col:Nat)(dv:Int):List Int:=zipWith (fun here above=>Int.fdiv (upper.getD col 0*here - row.getD col 0*above) dv) row upper
def cN (R:List (List Int))(r col:Nat)(dv:Int):List (List Int):=R.mapIdx fun i row=>if i=r then row else gN (R.getD r []) row col dv
theorem Gz (R:List (List Int))(r col:Nat)(dv:Int):(cN R r col dv).length=R.length:=by unfold cN;simp
theorem oY {R:List (List Int)}{i:Nat}(hi:i < R.length)(r col:Nat)(dv:Int):(cN R r col dv).getD i []=if i=r then R.getD i [] else gN (R.getD r []) (R.getD i []) col dv:=by
 unfold cN;rw[getD_eq_getElem?_getD,getElem?_mapIdx,getElem?_eq_getElem hi];have:R.getD i []=R[i]:=by rw[getD_eq_getElem?_getD,getElem?_eq_getElem hi];rfl
 rw[this];rfl
structure SI (m w:Nat) (A0:Mat) (R:List (List Int)) (r col:Nat) (d sg:Int):Prop where
 len:R.length=m
 wid:∀i,i < m->(R.getD i []).length=w
 bar:∃A c,Bar m A (at2 R) r col (d:Rat) c/\det m A=(sg:Rat)*det m A0
 one:sg=1\/sg=-1
theorem SI.start {m w:Nat}{R:List (List Int)}(h:R.length=m)(hw:∀i,i < m->(R.getD i []).length=w):SI m w (at2 R) R 0 0 1 1:=
 ⟨h,hw,⟨at2 R,id,by
  have:=Bar.start (m:=m) (A:=at2 R) fun i j=>⟨_,rfl⟩
  simpa using this,by simp⟩,.inl rfl⟩
theorem SI.skip {m w:Nat}{A0:Mat}{R:List (List Int)}{r col:Nat}{d sg:Int}(h:SI m w A0 R r col d sg)(hz:∀i,r<=i->i < m->ent R i col=0):SI m w A0 R r (col+1) d sg:=by
 obtain⟨A,c,B,e⟩:=h.bar;exact⟨h.len,h.wid,⟨A,c,B.skip fun i h1 h2=>by unfold at2;rw[hz i h1 h2];simp,e⟩,h.one⟩
theorem SI.swap {m w:Nat}{A0:Mat}{R:List (List Int)}{r col:Nat}{d sg:Int}(h:SI m w A0 R r col d sg){p:Nat}(hp:r < p)(hm:p < m):SI m w A0 (fD R p r) r col d (-sg):=by
 obtain⟨A,c,B,e⟩:=h.bar;have hl:=h.len;have gd:=fun i=>Bq (R:=R) (p:=p) (r:=r) (by lia) (by lia) i;refine⟨(Yi R p r).trans hl,fun i hi=>?_,⟨_,c,(B.swap (by lia) hm).congr fun i hi=>?_,?_⟩,?_⟩
 ·rw[gd i];exact h.wid _ (Ae hm (by lia) hi)
 ·funext x
  show (((R.getD (sw p r i) []).getD x 0:Int):Rat)=((((fD R p r).getD i []).getD x 0:Int):Rat)
  rw[gd i]
 ·rw[Px m (p - r - 1) p r A (by lia) hm,e,Rat.intCast_neg];grind
 ·rcases h.one with z | z
  ·right;lia
  ·left;lia
theorem lF {l:List Int}{x:Nat}(h:x < l.length):l[x]?=some (l.getD x 0):=by rw[getD_eq_getElem?_getD,getElem?_eq_getElem h];rfl
theorem tJ {l:List Int}{x:Nat}(h:l.length<=x):l.getD x 0=0:=by rw[getD_eq_getElem?_getD,getElem?_eq_none h];rfl
theorem Hw {m w:Nat}{A A0:Mat}{R:List (List Int)}{r col:Nat}{d sg:Int}(h:SI m w A0 R r col d sg){c:Nat->Nat}(B:Bar m A (at2 R) r col (d:Rat) c)(hr:r < m)(hc:col < w)(he:ent R r col≠0){i:Nat}(hi:i < m)(hir:i≠r)(x:Nat) :
  ∃z:Int,(gN (R.getD r []) (R.getD i []) col d).getD x 0=z/\(z:Rat)=clr (at2 R) r col (d:Rat) i x/\(x < w->ent R r col*ent R i x - ent R i col*ent R r x=d*z):=by
 have dn:d≠0:=fun z=>B.dne (by rw[z];simp);have dq:=B.dne;have heq:at2 R r col≠0:=fun z=>he (Rat.intCast_inj.mp (by unfold at2 at z;simpa using z));have wi:=h.wid i hi;have wr:=h.wid r hr
 by_cases hx:x < w
 ·obtain⟨z,hz⟩:=B.wV hr heq i x hi;have e1:ent R r col*ent R i x - ent R i col*ent R r x=d*z:=by
   rw[kZ _ hir] at hz;have:((ent R r col*ent R i x - ent R i col*ent R r x:Int):Rat)=((d*z:Int):Rat):=by
    rw[Rat.intCast_sub,Rat.intCast_mul,Rat.intCast_mul,Rat.intCast_mul,<- hz];show at2 R r col*at2 R i x - at2 R i col*at2 R r x=_;grind
   exact Rat.intCast_inj.mp this
  refine⟨z,?_,hz.symm,fun _=>e1⟩;unfold gN;have g1:(R.getD i [])[x]?=some ((R.getD i []).getD x 0):=lF (by lia);have g2:(R.getD r [])[x]?=some ((R.getD r []).getD x 0):=lF (by lia);rw[getD_eq_getElem?_getD (l:=zipWith _ _ _),getElem?_zipWith,g1,g2];exact fG dn e1
 ·refine⟨0,?_,?_,fun h=>absurd h hx⟩
  ·unfold gN;exact tJ (by rw[length_zipWith,wi,wr];lia)
  ·rw[kZ _ hir];have a1:at2 R i x=0:=by unfold at2 ent;rw[tJ (by lia)];simp
   have a2:at2 R r x=0:=by unfold at2 ent;rw[tJ (by lia)];simp
   rw[a1,a2];simp;grind
theorem SI.clear {m w:Nat}{A0:Mat}{R:List (List Int)}{r col:Nat}{d sg:Int}(h:SI m w A0 R r col d sg)(hr:r < m)(hc:col < w)(he:ent R r col≠0):SI m w A0 (cN R r col d) (r+1) (col+1) (ent R r col) sg:=by
 obtain⟨A,c,B,e⟩:=h.bar;have hl:=h.len;have heq:at2 R r col≠0:=fun z=>he (Rat.intCast_inj.mp (by unfold at2 at z;simpa using z));refine⟨(Gz R r col d).trans hl,fun i hi=>?_,⟨A,_,(B.clear hr heq).congr fun i hi=>?_,e⟩,h.one⟩
 ·rw[oY (by lia)];split
  ·exact h.wid i hi
  ·unfold gN;rw[length_zipWith,h.wid i hi,h.wid r hr,Nat.min_self]
 ·funext x
  show clr (at2 R) r col (d:Rat) i x=((((cN R r col d).getD i []).getD x 0:Int):Rat)
  rw[oY (by lia)]
  by_cases hir:i=r
  ·rw[if_pos hir,hir,zV];rfl
  ·rw[if_neg hir];obtain⟨z,h1,h2,_⟩:=Hw h B hr hc he hi hir x;rw[h1,h2]
def BdR (n:Nat)(R:List (List Int)):Prop:=∀i x,B n (ent R i x)
theorem SI.whole {m w:Nat}{A0:Mat}{R:List (List Int)}{d sg:Int}(h:SI m w A0 R m m d sg):det m A0=(sg:Rat)*(d:Rat):=by
 obtain⟨A,c,B,e⟩:=h.bar;have f:=B.full rfl;have i5:=B.i5;have:det m (fun i j=>A i (c j))=det m A:=cS fun i j _ hj=>by show A i (c j)=A i j;rw[f j hj]
 rw[this,e] at i5;rcases h.one with z | z
 ·rw[z] at i5 ⊢;simp at i5 ⊢;exact i5
 ·rw[z,Rat.intCast_neg] at i5 ⊢;simp at i5 ⊢;grind
theorem SI.lame {m w:Nat}{A0:Mat}{R:List (List Int)}{r:Nat}{d sg:Int}(h:SI m w A0 R r m d sg)(hr:r < m):det m A0=0:=by
 obtain⟨A,c,B,e⟩:=h.bar;obtain⟨n,rfl⟩:∃n,m=n+1:=⟨m - 1,by lia⟩
 have dq:=B.dne;have e1:det (n+1) A=F n A id (A n):=by
  unfold F;exact cS fun i j hi _=>by
   unfold Aj
   by_cases z:i=n
   ·rw[if_pos z,z];rfl
   ·rw[if_neg z];rfl
 have hΦ:=Gg n A id;have z:=B.i6 _ hΦ fun s hs=>Ie n A id (by lia);have eA:A n=fun x=>(fun x=>(1 / (d:Rat))*at2 R n x) x+(1 / (d:Rat))*(fun x=>rs r fun k=>A n (c k)*at2 R k x) x:=by
  funext x
  have:=B.i4 n x (by lia);rw[if_neg (by lia)] at this;show A n x=(1 / (d:Rat))*at2 R n x+(1 / (d:Rat))*(rs r fun k=>A n (c k)*at2 R k x)
  grind
 have zs:(rs r fun k=>A n (c k)*F n A id (at2 R k))=0:=by
  have:(rs r fun k=>A n (c k)*F n A id (at2 R k))=rs r fun _=>0:=aS fun k hk=>by rw[z k hk];grind
  rw[this,dW]
 have zn:F n A id (at2 R n)=0:=by
  rw[Jf];have:(rs (n+1) fun j=>sgn (n+j)*at2 R n (id j)*det n fun i k=>A i (id (Mq.skip j k)))=rs (n+1) fun _=>0:=aS fun j hj=>by
   rw[show at2 R n (id j)=0 from B.i3 n j (by lia) (by lia) hj];grind
  rw[this,dW]
 have:det (n+1) A=0:=by
  rw[e1,eA,hΦ,hΦ.mul,hΦ.sum,zs,zn];grind
 rw[this] at e;rcases h.one with q | q
 ·rw[q] at e;simp at e;exact e.symm
 ·rw[q,Rat.intCast_neg] at e;simp at e;grind
def Kr:Nat->(Nat->Rat)->Rat
 |0,_=>1
 |n+1,b=>Kr n b*b n
theorem pN:∀(n:Nat) (b:Nat->Rat) (Q:Mat),det n (fun i j=>b i*Q i j)=Kr n b*det n Q
 |0,_,_=>by simp[det,Kr]
 |n+1,b,Q=>by
  rw[fP,fP,<- eX];refine aS fun j _=>?_;have:=pN n b (fun i k=>Q i (Mq.skip j k));show sgn (n+j)*(b n*Q n j)*det n (fun i k=>b i*Q i (Mq.skip j k))=Kr n b*b n*_;rw[this];grind
end Mq
open Mq (BdR Bq Kr Mat SI cN cS det ent fD gN lF oO oY pN)
namespace Shp
open PySem L2
inductive Imx (D:Addr) (H:Hp):List V->List (List Int)->Prop where
 |nil:Imx D H [] []
 |cons {u:Addr} {r:List Int} {us:List V} {R:List (List Int)} (ne:u≠D) (h:H u=some (.lst (r.map V.int))) (q:Imx D H us R):Imx D H (.ref u :: us) (r :: R)
theorem Imx.same {D:Addr}{H H':Hp}(e:bC H H'):∀{xs:List V} {R:List (List Int)},Imx D H xs R->Imx D H' xs R
 |_,_,.nil=>.nil
 |_,_,.cons n h q=>.cons n (e _ _ h) (q.same e)
theorem Imx.upd {D:Addr}{H:Hp}{o:HO}:∀{xs:List V} {R:List (List Int)},Imx D H xs R->Imx D (L2.upd H D o) xs R
 |_,_,.nil=>.nil
 |_,_,.cons n h q=>.cons n (by rw[aY n];exact h) q.upd
theorem Imx.length {D:Addr}{H:Hp}:∀{xs:List V} {R:List (List Int)},Imx D H xs R->xs.length=R.length
 |_,_,.nil=>rfl
 |_,_,.cons _ _ q=>by rw[length_cons,length_cons,q.length]
theorem Imx.get {D:Addr}{H:Hp}:∀{xs:List V} {R:List (List Int)} {i:Nat} {x:V},Imx D H xs R->xs[i]?=some x->∃u r,x=.ref u/\R[i]?=some r/\u≠D/\H u=some (.lst (r.map V.int))
 |_,_,0,_,.cons n h q,e=>by simp at e;exact⟨_,_,e.symm,rfl,n,h⟩
 |_,_,i+1,_,.cons n h q,e=>by simp at e;exact q.get e
theorem Imx.at {D:Addr}{H:Hp}{xs:List V}{R:List (List Int)}(h:Imx D H xs R){i:Nat}(hi:i < R.length):∃u,xs[i]?=some (.ref u)/\u≠D/\H u=some (.lst ((R.getD i []).map V.int)):=by
 have hx:i < xs.length:=by rw[h.length];exact hi
 obtain⟨u,r,e1,e2,e3,e4⟩:=h.get (getElem?_eq_getElem hx);refine⟨u,by rw[getElem?_eq_getElem hx,e1],e3,?_⟩;rw[getD_eq_getElem?_getD,e2];exact e4
theorem Imx.app {D:Addr}{H:Hp}:∀{xs ys:List V} {R S:List (List Int)},Imx D H xs R->Imx D H ys S->Imx D H (xs++ys) (R++S)
 |_,_,_,_,.nil,k=>k
 |_,_,_,_,.cons n h q,k=>.cons n h (q.app k)
theorem Imx.set {D:Addr}{H:Hp}{u:Addr}{r:List Int}(hn:u≠D)(hu:H u=some (.lst (r.map V.int))):∀{xs:List V} {R:List (List Int)} (i:Nat),Imx D H xs R->Imx D H (xs.set i (.ref u)) (R.set i r)
 |_,_,_,.nil=>by simp;exact .nil
 |_,_,0,.cons n h q=>.cons hn hu q
 |_,_,i+1,.cons n h q=>.cons n h (q.set hn hu i)
theorem Imx.other {D D':Addr}{H:Hp}(hD:H D'=none):∀{xs:List V} {R:List (List Int)},Imx D H xs R->Imx D' H xs R
 |_,_,.nil=>.nil
 |_,_,.cons n h q=>.cons (fun z=>by rw[z,hD] at h;cases h) h (q.other hD)
theorem kF {l:List Int}{i:Nat}(h:i < l.length):(l.map V.int)[i]?=some (.int (l.getD i 0)):=by
 rw[getElem?_map,lF h];rfl
def Vb (K:Frag):Sp:=fun vs H Q _=>∃(a:Addr) (xs:List V) (ps:List Q2) (n:Nat),vs=[.ref a]/\SqL K H a xs/\Fqs K H xs ps/\Mq.Pos ps/\(∀p∈ps,Bd n p)/\ps.length<=100/\10+n+n*ps.length<=8000/\
 ∀t l H',bC H H'->H l=none->SqT K H' t [.ref l,.int (eI ps)]->H' l=some (.lst ((iw ps).map V.int))->Q (.ref t) H'
def Uu (K:Frag):Sp:=fun vs H Q _=>∃(l D:Addr) (zs:List V) (R:List (List Int)) (r c m w:Nat),vs=[.ref l,.int (r:Int),.int (c:Int)]/\SqL K H l zs/\Imx D H zs R/\R.length=m/\(∀i,i < m->(R.getD i []).length=w)/\c < w/\r<=m/\m<=100/\
 (∀p,r<=p->p < m->ent R p c≠0->Q (.int (p:Int)) H)/\((∀i,r<=i->i < m->ent R i c=0)->Q .non H)
def yA (K:Frag):Sp:=fun vs H Q _=>∃(u v:Addr) (row upper:List Int) (c n:Nat) (dv:Int),vs=[.ref u,.ref v,.int (c:Int),.int dv]/\SqL K H u (row.map V.int)/\SqL K H v (upper.map V.int)/\row.length=upper.length/\row.length<=100/\c < row.length/\dv≠0/\
 (∀i,Mq.B n (row.getD i 0))/\(∀i,Mq.B n (upper.getD i 0))/\Mq.B n dv/\n<=9000/\
 ∀l H',bC H H'->H l=none->H' l=some (.lst ((gN upper row c dv).map V.int))->Q (.ref l) H'
def wX (K:Frag):Sp:=fun vs H Q _=>∃(l D:Addr) (zs:List V) (R:List (List Int)) (r c m w n:Nat) (dv:Int),vs=[.ref l,.int (r:Int),.int (c:Int),.int dv]/\SqL K H l zs/\Imx D H zs R/\R.length=m/\(∀i,i < m->(R.getD i []).length=w)/\c < w/\w<=100/\r < m/\m<=100/\dv≠0/\BdR n R/\Mq.B n dv/\n<=9000/\
 ∀l' zs' H',bC H H'->H l'=none->H' l'=some (.lst zs')->Imx l' H' zs' (cN R r c dv)->Q (.ref l') H'
def Qn (l:Addr)(rank:Nat)(pivot sign:Int):HO:=.dK (jK [] [(.inr "rows",.ref l),(.inr "rank",.int (rank:Int)),(.inr "pivot",.int pivot),(.inr "sign",.int sign)])
def wgt (X:List (List Q2)):Rat:=det X.length fun i j=>val ((X.getD i []).getD j Mq.z0)
theorem Co {H:Hp}{d l:Addr}{rank:Nat}{pivot sign:Int}(h:H d=some (Qn l rank pivot sign)):jM H d (.str "rows") (some (.ref l))/\jM H d (.str "rank") (some (.int (rank:Int)))/\jM H d (.str "pivot") (some (.int pivot))/\jM H d (.str "sign") (some (.int sign)):=by
 refine⟨?_,?_,?_,?_⟩
 ·exact jM.k (k:=(Sum.inr "rows":Key)) h
 ·exact jM.k (k:=(Sum.inr "rank":Key)) h
 ·exact jM.k (k:=(Sum.inr "pivot":Key)) h
 ·exact jM.k (k:=(Sum.inr "sign":Key)) h
def rM (X:List (List Q2)):Int:=X.foldl (fun b row=>b*eI row) 1
theorem wR {X:List (List Q2)}{i:Nat}{row:List Q2}(h:X[i]?=some row):rM (X.take (i+1))=rM (X.take i)*eI row:=by
 unfold rM;rw[take_add_one,h,foldl_append];rfl
theorem qC (X:List (List Q2)):∀i,i<=X.length->((rM (X.take i):Int):Rat)=Kr i fun k=>((eI (X.getD k []):Int):Rat)
 |0,_=>by simp[rM,Kr]
 |i+1,h=>by
  have e:X[i]?=some (X.getD i []):=by rw[getD_eq_getElem?_getD,getElem?_eq_getElem (by lia)];rfl
  rw[wR e,Rat.intCast_mul,qC X i (by lia)];rfl
theorem Ax {X:List (List Q2)}(hX:fE X):∀i,i<=X.length->1<=rM (X.take i)
 |0,_=>by show (1:Int)<=1;lia
 |i+1,h=>by
  have e:X[i]?=some (X.getD i []):=by rw[getD_eq_getElem?_getD,getElem?_eq_getElem (by lia)];rfl
  rw[wR e];have h1:=Ax hX i (by lia);have h2:=tH (hX _ (mem_of_getElem? e));have:=Int.mul_pos (show 0 < rM (X.take i) by lia) (show 0 < eI (X.getD i []) by lia);lia
theorem Ot {row:List Q2}(hp:Mq.Pos row){j:Nat}(hj:j < row.length):(((iw row).getD j 0:Int):Rat)=((eI row:Int):Rat)*val (row.getD j Mq.z0):=by
 have ej:row[j]?=some (row.getD j Mq.z0):=by rw[getD_eq_getElem?_getD,getElem?_eq_getElem hj];rfl
 have mem:row.getD j Mq.z0∈row:=mem_of_getElem? ej;obtain⟨k,hk⟩:=Ch hp _ mem;have e2:(iw row).getD j 0=Cy (eI row) (row.getD j Mq.z0):=by
  unfold iw;rw[getD_eq_getElem?_getD,getElem?_map,ej];rfl
 rw[e2,Mq.Mo (hp _ mem) hk];grind
theorem tW (row:List Q2):(iw row).length=row.length:=by unfold iw;simp
end Shp
namespace Mq
theorem lH (m a:Nat)(v:Rat)(h:a < m):(rs m fun i=>if i=a then v else 0)=v:=by
 induction m with
 |zero=>lia
 |succ m ih=>
  simp only[rs]
  by_cases e:m=a
  ·subst e;rw[if_pos rfl];have:(rs m fun i=>if i=m then v else 0)=rs m fun _=>0:=aS fun i hi=>by rw[if_neg (by lia)]
   rw[this,dW];grind
  ·rw[if_neg e,ih (by lia)];grind
theorem qa0 (m p r:Nat)(hp:p < m)(hr:r < m)(F:Nat->Rat):(rs m fun i=>F (sw p r i))=rs m F:=by
 by_cases e:p=r
 ·subst e;exact aS fun i _=>by
   congr 1;unfold sw
   by_cases h:i=p
   ·rw[if_pos h,h]
   ·rw[if_neg h,if_neg h]
 have:(rs m fun i=>F (sw p r i))=rs m fun i=>F i+((if i=r then F p - F r else 0)+(if i=p then F r - F p else 0)):=aS fun i _=>by
  unfold sw
  by_cases h1:i=r
  ·rw[if_pos h1,if_pos h1,if_neg (by lia),h1];grind
  ·rw[if_neg h1,if_neg h1]
   by_cases h2:i=p
   ·rw[if_pos h2,if_pos h2,h2];grind
   ·rw[if_neg h2,if_neg h2];grind
 rw[this,dG,dG,lH m r _ hr,lH m p _ hp];grind
structure LI (m:Nat) (Aq:Mat) (R:List (List Int)):Prop where
 lin:∀i x,i < m->x < m->at2 R i x=rs m fun k=>at2 R i (m+k)*Aq k x
 ind:∀lam:Nat->Rat,(∀j,j < m->(rs m fun i=>lam i*at2 R i (m+j))=0)->∀i,i < m->lam i=0
theorem qU {R:List (List Int)}{p r:Nat}(hp:p < R.length)(hr:r < R.length)(i x:Nat):at2 (fD R p r) i x=at2 R (sw p r i) x:=by
 show ((((fD R p r).getD i []).getD x 0:Int):Rat)=_;rw[Bq hp hr];rfl
theorem LI.swap {m:Nat}{Aq:Mat}{R:List (List Int)}(h:LI m Aq R)(hl:R.length=m){p r:Nat}(hp:p < m)(hr:r < m):LI m Aq (fD R p r) where
 lin:=fun i x hi hx=>by
  rw[qU (by lia) (by lia),h.lin _ x (Ae hp hr hi) hx];exact aS fun k _=>by rw[qU (by lia) (by lia)]
 ind:=fun lam hz i hi=>by
  have:=h.ind (fun i=>lam (sw p r i)) (fun j hj=>by
   rw[<- hz j hj,<- qa0 m p r hp hr];exact aS fun i _=>by
    show lam (sw p r (sw p r i))*_=_;rw[Ou,qU (by lia) (by lia)]) (sw p r i) (Ae hp hr hi)
  have e:lam (sw p r (sw p r i))=0:=this
  rwa [Ou] at e
theorem rT {m w:Nat}{A0:Mat}{R:List (List Int)}{r col:Nat}{d sg:Int}(h:SI m w A0 R r col d sg)(hr:r < m)(hc:col < w)(he:ent R r col≠0){i:Nat}(hi:i < m)(x:Nat) :
  at2 (cN R r col d) i x=if i=r then at2 R i x else (at2 R r col*at2 R i x - at2 R i col*at2 R r x) / (d:Rat):=by
 obtain⟨A,c,B,e⟩:=h.bar;have hl:=h.len;show ((((cN R r col d).getD i []).getD x 0:Int):Rat)=_;rw[oY (by lia)]
 by_cases hir:i=r
 ·rw[if_pos hir,if_pos hir];rfl
 ·rw[if_neg hir,if_neg hir];obtain⟨z,h1,h2,_⟩:=Hw h B hr hc he hi hir x;rw[h1,h2,kZ _ hir]
theorem SI.dne {m w:Nat}{A0:Mat}{R:List (List Int)}{r col:Nat}{d sg:Int}(h:SI m w A0 R r col d sg):(d:Rat)≠0:=by
 obtain⟨A,c,B,e⟩:=h.bar;exact B.dne
theorem LI.clear {m w:Nat}{Aq A0:Mat}{R:List (List Int)}{r col:Nat}{d sg:Int}(h:LI m Aq R)(s:SI m w A0 R r col d sg)(hr:r < m)(hc:col < w)(he:ent R r col≠0):LI m Aq (cN R r col d):=by
 have dn:=s.dne;have hn:at2 R r col≠0:=fun z=>he (Rat.intCast_inj.mp (by unfold at2 at z;simpa using z));have cl:=fun (i:Nat) (hi:i < m) (x:Nat)=>rT s hr hc he hi x;refine⟨fun i x hi hx=>?_,fun lam hz i hi=>?_⟩
 ·rw[cl i hi x]
  by_cases e:i=r
  ·rw[if_pos e,h.lin i x hi hx];exact aS fun k _=>by rw[cl i hi,if_pos e]
  ·rw[if_neg e,h.lin i x hi hx,h.lin r x hr hx];have:(rs m fun k=>at2 (cN R r col d) i (m+k)*Aq k x)=rs m fun k=>(at2 R r col / (d:Rat))*(at2 R i (m+k)*Aq k x)+(-(at2 R i col / (d:Rat)))*(at2 R r (m+k)*Aq k x):=aS fun k _=>by rw[cl i hi,if_neg e];grind
   rw[this,dG,eX,eX];grind
 ·-- the factors of the rows as they were
  have key:=h.ind (fun i=>if i=r then lam r - (rs m fun k=>if k=r then 0 else lam k*(at2 R k col / (d:Rat))) else lam i*(at2 R r col / (d:Rat))) (fun j hj=>by
   have e0:=hz j hj;have e1:(rs m fun i=>lam i*at2 (cN R r col d) i (m+j))=rs m fun i=>(if i=r then lam r*at2 R r (m+j) else 0)+((if i=r then 0 else lam i*(at2 R r col / (d:Rat))*at2 R i (m+j))+(-(at2 R r (m+j)))*(if i=r then 0 else lam i*(at2 R i col / (d:Rat)))):=aS fun i hi=>by
    rw[cl i hi]
    by_cases e:i=r
    ·rw[if_pos e,if_pos e,if_pos e,if_pos e,e];grind
    ·rw[if_neg e,if_neg e,if_neg e,if_neg e];grind
   rw[e1,dG,dG,eX,lH m r _ hr] at e0;have e2:(rs m fun i=>(if i=r then lam r - (rs m fun k=>if k=r then 0 else lam k*(at2 R k col / (d:Rat))) else lam i*(at2 R r col / (d:Rat)))*at2 R i (m+j))=rs m fun i=>(if i=r then (lam r - (rs m fun k=>if k=r then 0 else lam k*(at2 R k col / (d:Rat))))*at2 R r (m+j) else 0)+(if i=r then 0 else lam i*(at2 R r col / (d:Rat))*at2 R i (m+j)):=aS fun i _=>by
    by_cases e:i=r
    ·rw[if_pos e,if_pos e,if_pos e,e];grind
    ·rw[if_neg e,if_neg e,if_neg e];grind
   rw[e2,dG,lH m r _ hr];grind)
  have other:∀k,k < m->k≠r->lam k=0:=fun k hk e=>by
   have:=key k hk;rw[if_neg e] at this;have n2:at2 R r col / (d:Rat)≠0:=fun z=>hn (by grind);grind
  by_cases e:i=r
  ·have:=key r hr;rw[if_pos rfl] at this;have z:(rs m fun k=>if k=r then 0 else lam k*(at2 R k col / (d:Rat)))=rs m fun _=>0:=aS fun k hk=>by
    by_cases e:k=r
    ·rw[if_pos e]
    ·rw[if_neg e,other k hk e];grind
   rw[z,dW] at this;rw[e];grind
  ·exact other i hi e
theorem LI.lame {m w:Nat}{Aq A0:Mat}{R:List (List Int)}{d sg:Int}{r:Nat}(h:LI m Aq R)(s:SI m w A0 R r m d sg)(hr:r < m):(∃k,k < m/\ent R (m - 1) (m+k)≠0)/\∀x,x < m->(rs m fun k=>at2 R (m - 1) (m+k)*Aq k x)=0:=by
 obtain⟨A,c,B,e⟩:=s.bar;refine⟨Classical.byContradiction fun n=>?_,fun x hx=>?_⟩
 ·have all:∀k,k < m->ent R (m - 1) (m+k)=0:=fun k hk=>Classical.byContradiction fun z=>n ⟨k,hk,z⟩;have:=h.ind (fun i=>if i=m - 1 then 1 else 0) (fun j hj=>by
   have:(rs m fun i=>(if i=m - 1 then (1:Rat) else 0)*at2 R i (m+j))=rs m fun _=>0:=aS fun i _=>by
    by_cases e:i=m - 1
    ·rw[if_pos e,e];have:at2 R (m - 1) (m+j)=0:=by unfold at2;rw[all j hj];simp
     rw[this];grind
    ·rw[if_neg e];grind
   rw[this,dW]) (m - 1) (by lia)
  rw[if_pos rfl] at this;grind
 ·rw[<- h.lin (m - 1) x (by lia) hx];exact B.i3 (m - 1) x (by lia) (by lia) hx
end Mq
namespace PySem
open Sem (wp)
section
variable {prog:Program} {w:World} {A:Around} {E:Value->Shared->Prop} {h:Heap} {g:Array GenState} {d:Drawn} {t:Nat} {os:OsState}
variable {nm q:Str} {C N f:Addr} {bs bm bmB:List Value} {hdct:Bool} {sn:List Str} {sub:List Value} {ab:Bool} {col:Option Bool} {dd:Option Addr} {k0 k1 k2 k3 k5:Option Value} {B Bn newId nid initId inN:String} {bmN:List Value}
abbrev Xo (h:Heap)(C:Addr)(rest:List Value):Heap:=(h.push { cls:=.type "tuple",data:=.seq rest.toArray }).push { cls:=.ref C,data:=.fields #[.ref h.objs.size,.none,.none,.none,.bool false,.none] }
end
end PySem
namespace Shp
open PySem L2
inductive Fmd (K:Frag) (H0:Hp) (D:Addr) (H:Hp):List V->List (List Q2)->Prop where
 |nil:Fmd K H0 D H [] []
 |cons {u:Addr} {xs:List V} {ps:List Q2} {us:List V} {X:List (List Q2)} (n0:H0 u=none) (ne:u≠D) (h:H u=some (.lst xs)) (f:Fqs K H xs ps) (q:Fmd K H0 D H us X):Fmd K H0 D H (.ref u :: us) (ps :: X)
theorem Fmd.same {K:Frag}{H0:Hp}{D:Addr}{H H':Hp}(e:bC H H'):∀{xs:List V} {X:List (List Q2)},Fmd K H0 D H xs X->Fmd K H0 D H' xs X
 |_,_,.nil=>.nil
 |_,_,.cons n0 n h f q=>.cons n0 n (e _ _ h) (f.same e) (q.same e)
theorem Fmd.length {K:Frag}{H0:Hp}{D:Addr}{H:Hp}:∀{xs:List V} {X:List (List Q2)},Fmd K H0 D H xs X->xs.length=X.length
 |_,_,.nil=>rfl
 |_,_,.cons _ _ _ _ q=>by rw[length_cons,length_cons,q.length]
def pT (X:List (List Q2)):Mat:=fun i j=>val ((X.getD i []).getD j Mq.z0)
def mM (m i:Nat)(row:List Q2):List Int:=iw row++(range m).map fun c=>if c=i then eI row else 0
def jO (X:List (List Q2)):List (List Int):=X.mapIdx fun i row=>mM X.length i row
theorem Mn (X:List (List Q2)):(jO X).length=X.length:=by unfold jO;simp
theorem vE {X:List (List Q2)}{i:Nat}(h:i < X.length):(jO X).getD i []=mM X.length i (X.getD i []):=by
 unfold jO;rw[getD_eq_getElem?_getD,getElem?_mapIdx,getD_eq_getElem?_getD,getElem?_eq_getElem h];rfl
theorem wG {X:List (List Q2)}{i:Nat}(h:i < X.length):X[i]?=some (X.getD i []):=by rw[getD_eq_getElem?_getD,getElem?_eq_getElem h];rfl
theorem Bv (m i:Nat)(row:List Q2):(mM m i row).length=row.length+m:=by unfold mM;simp[tW]
theorem xK {X:List (List Q2)}(hX:fE X)(hw:∀row∈X,row.length=X.length){i x:Nat}(hi:i < X.length)(hx:x < X.length):Mq.at2 (jO X) i x=((eI (X.getD i []):Int):Rat)*pT X i x:=by
 have mem:=mem_of_getElem? (wG hi);show ((((jO X).getD i []).getD x 0:Int):Rat)=_;rw[vE hi];unfold mM;have l:=hw _ mem;rw[getD_eq_getElem?_getD,getElem?_append_left (by rw[tW];lia),<- getD_eq_getElem?_getD];exact Ot (hX _ mem) (by lia)
theorem tU {X:List (List Q2)}(hw:∀row∈X,row.length=X.length){i k:Nat}(hi:i < X.length)(hk:k < X.length):ent (jO X) i (X.length+k)=if k=i then eI (X.getD i []) else 0:=by
 have mem:=mem_of_getElem? (wG hi);unfold ent;rw[vE hi];unfold mM;have l:=hw _ mem;rw[getD_eq_getElem?_getD,getElem?_append_right (by rw[tW];lia),tW,l,Nat.add_sub_cancel_left,getElem?_map,getElem?_range hk];rfl
theorem Sl {X:List (List Q2)}(hX:fE X)(hw:∀row∈X,row.length=X.length):Mq.LI X.length (pT X) (jO X) where
 lin:=fun i x hi hx=>by
  rw[xK hX hw hi hx];have:(Mq.rs X.length fun k=>Mq.at2 (jO X) i (X.length+k)*pT X k x)=Mq.rs X.length fun k=>if k=i then ((eI (X.getD i []):Int):Rat)*pT X i x else 0:=aS fun k hk=>by
   show ((ent (jO X) i (X.length+k):Int):Rat)*_=_;rw[tU hw hi hk]
   by_cases e:k=i
   ·rw[if_pos e,if_pos e,e]
   ·rw[if_neg e,if_neg e];simp
  rw[this,Mq.lH _ _ _ hi]
 ind:=fun lam hz i hi=>by
  have e:=hz i hi;have:(Mq.rs X.length fun j=>lam j*Mq.at2 (jO X) j (X.length+i))=Mq.rs X.length fun j=>if j=i then lam i*((eI (X.getD i []):Int):Rat) else 0:=aS fun k hk=>by
   show _*((ent (jO X) k (X.length+i):Int):Rat)=_;rw[tU hw hk hi]
   by_cases e:k=i
   ·rw[if_pos e,if_pos e.symm,e]
   ·rw[if_neg e,if_neg (Ne.symm e)];simp
  rw[this,Mq.lH _ _ _ hi] at e;have g:=tH (hX _ (mem_of_getElem? (wG hi)));have n:=dU (show eI (X.getD i [])≠0 by lia);grind
theorem Rt {X:List (List Q2)}{R:List (List Int)}(h:∀i j,i < X.length->j < X.length->Mq.at2 R i j=((eI (X.getD i []):Int):Rat)*pT X i j):det X.length (Mq.at2 R)=((rM X:Int):Rat)*wgt X:=by
 unfold wgt;have hb:=qC X X.length (Nat.le_refl _);rw[take_length] at hb;rw[hb,<- pN];exact cS fun i j hi hj=>h i j hi hj
theorem Ql {X:List (List Q2)}{R R':List (List Int)}{w r:Nat}{d sg:Int}(hX:fE X)(hR:det X.length (Mq.at2 R)=((rM X:Int):Rat)*wgt X)(h:SI X.length w (Mq.at2 R) R' r X.length d sg):(r < X.length/\wgt X=0)\/(r=X.length/\wgt X≠0):=by
 have b1:=Ax hX X.length (Nat.le_refl _);rw[take_length] at b1;have bn:=dU (show rM X≠0 by lia);obtain⟨A,c,B,e⟩:=h.bar;have rm:=B.rm;have dn:=B.dne;clear B
 by_cases hr:r < X.length
 ·left
  have e:=h.lame hr;rw[hR] at e;exact⟨hr,by grind⟩
 ·right
  have er:r=X.length:=by lia
  subst er;refine⟨rfl,fun z=>?_⟩;have e:=h.whole;rw[hR,z] at e;rcases h.one with q | q
  ·rw[q] at e;simp at e;grind
  ·rw[q,Rat.intCast_neg] at e;simp at e;grind
structure Stp (m w:Nat) (A0:Mat) (Pr:List (List Int)->Prop):Prop where
 sw:∀R r col d sg p,SI m w A0 R r col d sg->r < p->p < m->Pr R->Pr (fD R p r)
 cl:∀R r col d sg,SI m w A0 R r col d sg->r < m->col < w->ent R r col≠0->Pr R->Pr (cN R r col d)
theorem Xp {m w:Nat}{A0 Aq:Mat}:Stp m w A0 (Mq.LI m Aq):=
 ⟨fun R r col d sg p s h1 h2 h=>h.swap s.len h2 (by lia),fun R r col d sg s h1 h2 h3 h=>h.clear s h1 h2 h3⟩
end Shp
namespace Mq
theorem Ly {row:List Q2}{j:Nat}(h:j < row.length):row[j]?=some (row.getD j z0):=by rw[getD_eq_getElem?_getD,getElem?_eq_getElem h];rfl
end Mq
namespace Shp
open PySem L2
theorem Fmd.get {K:Frag}{H0:Hp}{D:Addr}{H:Hp}:∀{xs:List V} {X:List (List Q2)} {i:Nat} {x:V},Fmd K H0 D H xs X->xs[i]?=some x->∃u ys ps,x=.ref u/\X[i]?=some ps/\H0 u=none/\u≠D/\H u=some (.lst ys)/\Fqs K H ys ps
 |_,_,0,_,.cons n0 n h f q,e=>by simp at e;exact⟨_,_,_,e.symm,rfl,n0,n,h,f⟩
 |_,_,i+1,_,.cons n0 n h f q,e=>by simp at e;exact q.get e
end Shp
namespace Mq
def KI (m:Nat)(A0:Mat)(R:List (List Int)):Prop:=∀Φ,Lin Φ->(∀k,k < m->Φ (at2 R k)=0)->∀i,i < m->Φ (A0 i)=0
theorem KI.swap {m:Nat}{A0:Mat}{R:List (List Int)}(h:KI m A0 R)(hl:R.length=m){p r:Nat}(hp:p < m)(hr:r < m):KI m A0 (fD R p r):=fun Φ lin hz=>by
 refine h Φ lin fun k hk=>?_;have e:at2 R k=at2 (fD R p r) (sw p r k):=by
  funext x
  rw[qU (by lia) (by lia),Ou]
 rw[e];exact hz _ (Ae hp hr hk)
theorem KI.clear {m w:Nat}{A0 A1:Mat}{R:List (List Int)}{r col:Nat}{d sg:Int}(h:KI m A1 R)(s:SI m w A0 R r col d sg)(hr:r < m)(hc:col < w)(he:ent R r col≠0):KI m A1 (cN R r col d):=fun Φ lin hz=>by
 have dn:=s.dne;have hn:at2 R r col≠0:=fun z=>he (Rat.intCast_inj.mp (by unfold at2 at z;simpa using z));have cl:=fun (i:Nat) (hi:i < m) (x:Nat)=>rT s hr hc he hi x;have zr:Φ (at2 R r)=0:=by
  have e:at2 R r=at2 (cN R r col d) r:=by funext x;rw[cl r hr x,if_pos rfl]
  rw[e];exact hz r hr
 refine h Φ lin fun k hk=>?_
 by_cases e:k=r
 ·rw[e];exact zr
 ·have e2:at2 R k=fun x=>(fun x=>((d:Rat) / at2 R r col)*at2 (cN R r col d) k x) x+(at2 R k col / at2 R r col)*at2 R r x:=by
   funext x
   show _=((d:Rat) / at2 R r col)*at2 (cN R r col d) k x+_;rw[cl k hk x,if_neg e];grind
  rw[e2,lin,lin.mul,hz k hk,zr];grind
theorem KI.whole {m w:Nat}{A0 A1:Mat}{R:List (List Int)}{d sg:Int}(h:KI m A1 R)(s:SI m w A0 R m m d sg){i:Nat}(hi:i < m):(rs m fun k=>A1 i k*(at2 R k m / (d:Rat)))=A1 i m:=by
 obtain⟨A,c,B,e⟩:=s.bar;have dn:=B.dne;have:=h (fun f=>(rs m fun k=>f k*(at2 R k m / (d:Rat))) - f m) (fun x y l=>by
  have:(rs m fun k=>(x k+l*y k)*(at2 R k m / (d:Rat)))=(rs m fun k=>x k*(at2 R k m / (d:Rat))+l*(y k*(at2 R k m / (d:Rat)))):=aS fun k _=>by grind
  show (rs m fun k=>(x k+l*y k)*(at2 R k m / (d:Rat))) - (x m+l*y m)=((rs m fun k=>x k*(at2 R k m / (d:Rat))) - x m)+l*((rs m fun k=>y k*(at2 R k m / (d:Rat))) - y m)
  rw[this,dG,eX];grind) (fun k hk=>by
  have:(rs m fun j=>at2 R k j*(at2 R j m / (d:Rat)))=rs m fun j=>if j=k then (d:Rat)*(at2 R k m / (d:Rat)) else 0:=aS fun j hj=>by
   have i2:=B.i2 k j hk hj;rw[B.full rfl j hj] at i2;rw[i2]
   by_cases z:j=k
   ·rw[if_pos z,if_pos z,z]
   ·rw[if_neg z,if_neg z];grind
  show (rs m fun j=>at2 R k j*(at2 R j m / (d:Rat))) - at2 R k m=0;rw[this,lH m k _ hk];grind) i hi
 have e2:(rs m fun k=>A1 i k*(at2 R k m / (d:Rat))) - A1 i m=0:=this;grind
end Mq
namespace Shp
open PySem L2
def kX (X:List (List Q2))(qs:List Q2):List (List Q2):=zipWith (fun row q=>row++[q]) X qs
def iH (X:List (List Q2))(qs:List Q2):List (List Int):=(kX X qs).map iw
section
variable {X:List (List Q2)} {qs:List Q2}
theorem oI (hl:qs.length=X.length):(kX X qs).length=X.length:=by unfold kX;simp[hl]
theorem By (hl:qs.length=X.length):(iH X qs).length=X.length:=by unfold iH;rw[length_map,oI hl]
theorem oK (hl:qs.length=X.length){i:Nat}(hi:i < X.length):(kX X qs).getD i []=X.getD i []++[qs.getD i Mq.z0]:=by
 unfold kX;rw[getD_eq_getElem?_getD,getElem?_zipWith,wG hi,Mq.Ly (show i < qs.length by lia)];rfl
theorem uT (hl:qs.length=X.length){i:Nat}(hi:i < X.length):(iH X qs).getD i []=iw (X.getD i []++[qs.getD i Mq.z0]):=by
 unfold iH;rw[getD_eq_getElem?_getD,getElem?_map,wG (X:=kX X qs) (by rw[oI hl];exact hi),oK hl hi];rfl
theorem sU (hX:fE X)(hq:Mq.Pos qs)(hl:qs.length=X.length){i:Nat}(hi:i < X.length):Mq.Pos (X.getD i []++[qs.getD i Mq.z0]):=fun p hp=>by
 rcases mem_append.mp hp with z | z
 ·exact hX _ (mem_of_getElem? (wG hi)) p z
 ·have e:p=qs.getD i Mq.z0:=by simpa using z
  rw[e];exact Mq.Qe hq i
theorem Fa (hX:fE X)(hq:Mq.Pos qs)(hl:qs.length=X.length):fE (kX X qs):=fun row hr=>by
 obtain⟨i,hi,rfl⟩:=getElem_of_mem hr;have hi':i < X.length:=by rw[oI hl] at hi;exact hi
 have e:=oK hl hi';rw[getD_eq_getElem?_getD,getElem?_eq_getElem hi] at e;have e':(kX X qs)[i]=X.getD i []++[qs.getD i Mq.z0]:=e;rw[e'];exact sU hX hq hl hi'
theorem vX (hX:fE X)(hq:Mq.Pos qs)(hl:qs.length=X.length)(hw:∀row∈X,row.length=X.length){i x:Nat}(hi:i < X.length)(hx:x < X.length+1) :
  Mq.at2 (iH X qs) i x=((eI ((kX X qs).getD i []):Int):Rat)*if x < X.length then pT X i x else val (qs.getD i Mq.z0):=by
 have l:=hw _ (mem_of_getElem? (wG hi));show ((((iH X qs).getD i []).getD x 0:Int):Rat)=_;rw[uT hl hi,oK hl hi,Ot (sU hX hq hl hi) (by rw[length_append,l];simpa using hx)];congr 1
 by_cases h:x < X.length
 ·rw[if_pos h,getD_eq_getElem?_getD,getElem?_append_left (by rw[l];exact h),<- getD_eq_getElem?_getD];rfl
 ·have ex:x=X.length:=by lia
  rw[if_neg h,getD_eq_getElem?_getD,getElem?_append_right (by rw[l];lia),l,ex,Nat.sub_self];rfl
theorem Te (hX:fE X)(hq:Mq.Pos qs)(hl:qs.length=X.length)(hw:∀row∈X,row.length=X.length):det X.length (Mq.at2 (iH X qs))=((rM (kX X qs):Int):Rat)*wgt X:=by
 unfold wgt;have hb:=qC (kX X qs) (kX X qs).length (Nat.le_refl _);rw[take_length,oI hl] at hb;rw[hb,<- pN];refine cS fun i j hi hj=>?_;rw[vX hX hq hl hw hi (by lia),if_pos hj];rfl
theorem Li {R R':List (List Int)}{w r:Nat}{d sg:Int}{f:Rat}(fn:f≠0)(hR:det X.length (Mq.at2 R)=f*wgt X)(h:SI X.length w (Mq.at2 R) R' r X.length d sg):(r < X.length/\wgt X=0)\/(r=X.length/\wgt X≠0):=by
 obtain⟨A,c,B,e⟩:=h.bar;have rm:=B.rm;have dn:=B.dne;clear B
 by_cases hr:r < X.length
 ·left
  have e:=h.lame hr;rw[hR] at e;exact⟨hr,by grind⟩
 ·right
  have er:r=X.length:=by lia
  subst er;refine⟨rfl,fun z=>?_⟩;have e:=h.whole;rw[hR,z] at e;rcases h.one with q | q
  ·rw[q] at e;simp at e;grind
  ·rw[q,Rat.intCast_neg] at e;simp at e;grind
theorem Os (hX:fE X)(hq:Mq.Pos qs)(hl:qs.length=X.length)(hw:∀row∈X,row.length=X.length){R':List (List Int)}{w r:Nat}{d sg:Int}(h:SI X.length w (Mq.at2 (iH X qs)) R' r X.length d sg):(r < X.length/\wgt X=0)\/(r=X.length/\wgt X≠0):=by
 have b1:=Ax (Fa hX hq hl) (kX X qs).length (Nat.le_refl _);rw[take_length] at b1;exact Li (dU (show rM (kX X qs)≠0 by lia)) (Te hX hq hl hw) h
end
structure Slv (X:List (List Q2)) (qs ps:List Q2):Prop where
 len:ps.length=X.length
 low:gD ps
 bd:∀p∈ps,Bd 9000 p
 sum:∀i,i < X.length->(Mq.rs X.length fun j=>pT X i j*val (ps.getD j Mq.z0))=val (qs.getD i Mq.z0)
theorem Wu {X:List (List Q2)}{qs:List Q2}(hX:fE X)(hq:Mq.Pos qs)(hl:qs.length=X.length)(hw:∀row∈X,row.length=X.length){R:List (List Int)}{w:Nat}{d sg:Int}(h:Mq.KI X.length (Mq.at2 (iH X qs)) R)(s:SI X.length w (Mq.at2 (iH X qs)) R X.length X.length d sg){i:Nat}(hi:i < X.length):(Mq.rs X.length fun j=>pT X i j*(Mq.at2 R j X.length / (d:Rat)))=val (qs.getD i Mq.z0):=by
 have e:=h.whole s hi;rw[vX hX hq hl hw hi (by lia),if_neg (by lia)] at e;have e2:(Mq.rs X.length fun k=>Mq.at2 (iH X qs) i k*(Mq.at2 R k X.length / (d:Rat)))=((eI ((kX X qs).getD i []):Int):Rat)*Mq.rs X.length fun k=>pT X i k*(Mq.at2 R k X.length / (d:Rat)):=by
  rw[<- eX];refine aS fun k hk=>?_;rw[vX hX hq hl hw hi (by lia),if_pos hk];grind
 rw[e2] at e;have g:=tH (sU hX hq hl hi);have n:=dU (show eI ((kX X qs).getD i [])≠0 by rw[oK hl hi];lia);grind
end Shp
namespace Mq
def Wb (n:Nat)(x:Rat):Prop:=∃z:Int,x=(z:Rat)/\B n z
theorem Wb.mono {n m:Nat}{x:Rat}(h:Wb n x)(l:n<=m):Wb m x:=by obtain⟨z,e,b⟩:=h;exact⟨z,e,b.mono l⟩
theorem Wb.mul {n m:Nat}{x y:Rat}(h:Wb n x)(k:Wb m y):Wb (n+m) (x*y):=by
 obtain⟨a,rfl,b⟩:=h;obtain⟨c,rfl,d⟩:=k;exact⟨a*c,by rw[Rat.intCast_mul],b.mul d⟩
theorem Wb.sub {n:Nat}{x y:Rat}(h:Wb n x)(k:Wb n y):Wb (n+1) (x - y):=by
 obtain⟨a,rfl,b⟩:=h;obtain⟨c,rfl,d⟩:=k;exact⟨a - c,by rw[Rat.intCast_sub],b.sub d⟩
theorem Wb.neg {n:Nat}{x:Rat}(h:Wb n x):Wb n (-x):=by
 obtain⟨a,rfl,b⟩:=h;exact⟨-a,by rw[Rat.intCast_neg],b.neg⟩
theorem Wb.zero (n:Nat):Wb n 0:=⟨0,by simp,Nat.two_pow_pos _⟩
theorem Wb.one:Wb 1 1:=⟨1,by simp,show (1:Nat) < 2 ^ 1 by decide⟩
theorem Wb.sgn {n:Nat}{x:Rat}(h:Wb n x)(k:Nat):Wb n (Mq.sgn k*x):=by
 unfold Mq.sgn;split
 ·rw[show (1:Rat)*x=x by grind];exact h
 ·rw[show (-1:Rat)*x=-x by grind];exact h.neg
theorem Ux {n:Nat}{f:Nat->Rat}:∀K,(∀k,k < K->Wb n (f k))->∃z:Int,rs K f=(z:Rat)/\z.natAbs+K<=K*2 ^ n
 |0,_=>⟨0,by simp only[rs];simp,by simp⟩
 |K+1,h=>by
  obtain⟨z,e,b⟩:=Ux K fun k hk=>h k (by lia);obtain⟨y,e2,b2⟩:=h K (by lia);refine⟨z+y,by simp only[rs];rw[e,e2,Rat.intCast_add],?_⟩;have:y.natAbs < 2 ^ n:=b2;rw[Nat.succ_mul];lia
def SB (n m:Nat)(R:List (List Int))(r col:Nat)(d:Int):Prop:=∃A c,Bar m A (at2 R) r col (d:Rat) c/\∀i x,i < m->Wb n (A i x)
theorem SB.start {n m:Nat}{R:List (List Int)}(hb:BdR n R):SB n m R 0 0 1:=
 ⟨at2 R,id,by
  have:=Bar.start (m:=m) (A:=at2 R) fun i j=>⟨_,rfl⟩
  simpa using this,fun i x _=>⟨ent R i x,rfl,hb i x⟩⟩
theorem SB.skip {n m:Nat}{R:List (List Int)}{r col:Nat}{d:Int}(h:SB n m R r col d)(hz:∀i,r<=i->i < m->ent R i col=0):SB n m R r (col+1) d:=by
 obtain⟨A,c,B,q⟩:=h;exact⟨A,c,B.skip fun i h1 h2=>by unfold at2;rw[hz i h1 h2];simp,q⟩
theorem SB.swap {n m w:Nat}{A0:Mat}{R:List (List Int)}{r col:Nat}{d sg:Int}(h:SB n m R r col d)(s:SI m w A0 R r col d sg){p:Nat}(hp:r < p)(hm:p < m):SB n m (fD R p r) r col d:=by
 obtain⟨A,c,B,q⟩:=h;have hl:=s.len;refine⟨_,c,(B.swap (by lia) hm).congr fun i hi=>?_,fun i x hi=>q _ x (Ae hm (by lia) hi)⟩
 funext x
 rw[qU (by lia) (by lia)]
theorem SB.clear {n m w:Nat}{A0:Mat}{R:List (List Int)}{r col:Nat}{d sg:Int}(h:SB n m R r col d)(s:SI m w A0 R r col d sg)(hr:r < m)(hc:col < w)(he:ent R r col≠0):SB n m (cN R r col d) (r+1) (col+1) (ent R r col):=by
 obtain⟨A,c,B,q⟩:=h;have heq:at2 R r col≠0:=fun z=>he (Rat.intCast_inj.mp (by unfold at2 at z;simpa using z));refine⟨A,_,(B.clear hr heq).congr fun i hi=>?_,q⟩
 funext x
 rw[rT s hr hc he hi x];unfold clr
 by_cases e:i=r
 ·rw[if_pos e,if_pos e,e]
 ·rw[if_neg e,if_neg e]
end Mq
namespace Shp
open PySem L2
abbrev bq (n m:Nat):Nat:=(n+4)*(m+1)+7
end Shp
namespace L2
open PySem PySem.Spec PyProof.Rows
theorem aP.weak {P:Program}{w:World}{K:Frag}{mg:Str->Option Value}{base:Heap}{CX:CXT}{k:Nat}{f:Addr}{fd:FuncData}{ps:List Str}{sp sp':Sp}(F:aP P w K mg base CX k f fd ps sp)(h:∀vs H Q E,sp' vs H Q E->sp vs H Q E):aP P w K mg base CX k f fd ps sp':=
 ⟨fun vs H Q E q=>F.len vs H Q E (h _ _ _ _ q),fun A outer s H args us vs Q E hr he hb hv hs=>F.run A outer s H args us vs Q E hr he hb hv (h _ _ _ _ hs)⟩
abbrev dC (m i j:Int):Prop:=0<=i/\i < m/\0<=j/\j < m
inductive Zv (K:Frag) (H:Hp):V->Option Q2->Prop where
 |fr {u:Addr} {p:Q2} (h:Fq K H u p) (l:Low p):Zv K H (.ref u) (some p)
 |ty {v:V} {t:Value} (h:TyQ K H v t) (n:W.kitOne K t (.type "tuple")=some false):Zv K H v none
 |len {u:Addr} {x y z:V} (h:SqT K H u [x,y,z]):Zv K H (.ref u) none
 |n0 {u:Addr} {x y:V} {t:Value} (h:SqT K H u [x,y]) (ty:mV K H x t) (n:uU t):Zv K H (.ref u) none
 |n1 {u:Addr} {i:Int} {y:V} {t:Value} (h:SqT K H u [.int i,y]) (ty:mV K H y t) (n:uU t):Zv K H (.ref u) none
 |fb {u:Addr} {p:Q2} (h:Fq K H u p) (c:p.2 < 1\/(1<=p.2/\gc p.1 p.2≠1)):Zv K H (.ref u) none
abbrev Bz (o:Option Q2):Prop:=∀p,o=some p->Bd 1000 p
def Lo (K:Frag):Sp:=fun vs H Q _=>∃(v:V) (o:Option Q2),vs=[v]/\Zv K H v o/\Q (.bl o.isSome) H
inductive gQ (CK:Kd->Addr) (K:Frag) (H:Hp):List V->List RD->Prop where
 |nil:gQ CK K H [] []
 |cons {x z:Addr} {k:Kd} {i j:Int} {p:Q2} {xs:List V} {ds:List RD} (h:Rw CK H x k (.int i) (.int j) (.ref z)) (f:Fq K H z p) (q:gQ CK K H xs ds):gQ CK K H (.ref x :: xs) ((k,i,j,p) :: ds)
section
variable {CK:Kd->Addr} {K:Frag} {H H':Hp}
theorem gQ.same (e:bC H H'):∀{xs:List V} {ds:List RD},gQ CK K H xs ds->gQ CK K H' xs ds
 |_,_,.nil=>.nil
 |_,_,.cons h f q=>.cons (h.same e) (e.fq f) (gQ.same e q)
theorem gQ.length:∀{xs:List V} {ds:List RD},gQ CK K H xs ds->xs.length=ds.length
 |_,_,.nil=>rfl
 |_,_,.cons _ _ q=>by simp[gQ.length q]
theorem gQ.app:∀{xs ys:List V} {ds es:List RD},gQ CK K H xs ds->gQ CK K H ys es->gQ CK K H (xs++ys) (ds++es)
 |_,_,_,_,.nil,r=>r
 |_,_,_,_,.cons h f q,r=>.cons h f (gQ.app q r)
theorem gQ.at:∀{xs:List V} {ds:List RD} {q:Nat} {d:RD},gQ CK K H xs ds->ds[q]?=some d->∃x z,xs[q]?=some (.ref x)/\Rw CK H x d.1 (.int d.2.1) (.int d.2.2.1) (.ref z)/\Fq K H z d.2.2.2
 |_,_,_,_,.nil,h=>by simp at h
 |_,_,0,_,.cons h f _,e=>by simp at e;subst e;exact⟨_,_,rfl,h,f⟩
 |_,_,i+1,_,.cons _ _ q,e=>by simpa using gQ.at q (by simpa using e)
theorem gQ.upd {l:Addr}{ys:List V}{o:HO}(hl:H l=some (.lst ys)):∀{xs:List V} {ds:List RD},gQ CK K H xs ds->gQ CK K (L2.upd H l o) xs ds
 |_,_,.nil=>.nil
 |_,_,.cons (h:=h) f q=>by
  obtain⟨dx,e⟩:=h;exact .cons ⟨dx,by rw[aY (dD e hl (fun z=>by cases z))];exact e⟩ (f.upd hl) (gQ.upd hl q)
end
def lK (CN:Addr)(K:Frag)(CK:Kd->Addr):Sp:=fun vs H Q _=>∃(n l:Addr) (m:Int) (ds:List RD),vs=[.ref n]/\dH CN K H n l m ds/\ds.length<=100/\∀a xs H',bC H H'->H a=none->H' a=some (.lst xs)->gQ CK K H' xs ds->Q (.ref a) H'
abbrev RE:=RD × Q2
def flF (hp:List Q2)(d:RD):Q2:=Mq.minus (hp.getD d.2.1.toNat (0,1)) (hp.getD d.2.2.1.toNat (0,1))
def iU (k:Kd)(l:List RD):List RD:=l.filter fun d=>decide (d.1=k)
theorem Iy (k:Kd)(l:List RD)(e:RD):iU k (l++[e])=if e.1=k then iU k l++[e] else iU k l:=by
 unfold iU;rw[filter_append]
 by_cases h:e.1=k
 ·rw[if_pos h];simp[h]
 ·rw[if_neg h];simp[h]
def zY (K:Frag):Sp:=fun vs H Q _=>∃(a b:Addr) (p q:Q2) (n m:Nat),vs=[.ref a,.ref b]/\Fq K H a p/\Fq K H b q/\1<=p.2/\1<=q.2/\0 < q.1/\Bd n p/\Bd m q/\n+m+1<=9000/\nV H Q (kU p q)
section
variable {m n:Nat} {hp:List Q2} {d:RD} {e:RE}
theorem tK {ps:List Q2}{j:Nat}(h:j < ps.length):ps[j]?=some (ps.getD j (0,1)):=by rw[getD_eq_getElem?_getD,getElem?_eq_getElem h];rfl
end
def rzl (ps:List Q2)(j:Nat)(a:Q2):List Q2:=ps.set j (oW (ps.getD j (0,1)) a)
def jJ (M:List (List Q2))(i j:Nat):Q2:=(M.getD i []).getD j (0,1)
def rz (M:List (List Q2))(i j:Nat)(a:Q2):List (List Q2):=M.set i (rzl (M.getD i []) j a)
structure MxB (M:List (List Q2)) (h w n:Nat):Prop where
 h:M.length=h
 w:∀ps∈M,ps.length=w
 l:∀ps∈M,∀p∈ps,Low p/\Bd n p
theorem MxB.mono {M:List (List Q2)}{h w n n':Nat}(b:MxB M h w n)(le:n<=n'):MxB M h w n':=⟨b.h,b.w,fun ps hp p hp'=>⟨(b.l ps hp p hp').1,(b.l ps hp p hp').2.mono le⟩⟩
theorem MxB.row {M:List (List Q2)}{h w n i:Nat}(b:MxB M h w n)(hi:i < h):M[i]?=some (M.getD i [])/\M.getD i []∈M/\(M.getD i []).length=w:=by
 have hi':i < M.length:=by rw[b.h];exact hi
 have e:M.getD i []=M[i]:=by rw[getD_eq_getElem?_getD,getElem?_eq_getElem hi'];rfl
 rw[e];exact⟨getElem?_eq_getElem hi',getElem_mem hi',b.w _ (getElem_mem hi')⟩
theorem MxB.at {M:List (List Q2)}{h w n i j:Nat}(b:MxB M h w n)(hi:i < h)(hj:j < w):(M.getD i [])[j]?=some (jJ M i j)/\Low (jJ M i j)/\Bd n (jJ M i j):=by
 obtain⟨e,m,l⟩:=b.row hi;have hj':j < (M.getD i []).length:=by rw[l];exact hj
 have:=tK hj';exact⟨this,b.l _ m _ (mem_of_getElem? this)⟩
theorem MxB.rz {M:List (List Q2)}{h w n k i j:Nat}{a:Q2}(b:MxB M h w n)(hi:i < h)(hj:j < w)(la:Low a)(ba:Bd k a):MxB (L2.rz M i j a) h w (n+k+1):=by
 obtain⟨e,m,l⟩:=b.row hi;obtain⟨e2,l2,b2⟩:=b.at hi hj;refine⟨by unfold L2.rz;rw[length_set];exact b.h,fun ps hp=>?_,fun ps hp p hp'=>?_⟩
 ·rcases mem_or_eq_of_mem_set hp with z | z
  ·exact b.w ps z
  ·rw[z];unfold rzl;rw[length_set];exact l
 ·rcases mem_or_eq_of_mem_set hp with z | z
  ·have:=b.l ps z p hp';exact⟨this.1,this.2.mono (by lia)⟩
  ·rw[z] at hp';unfold rzl at hp';rcases mem_or_eq_of_mem_set hp' with y | y
   ·have:=b.l _ m p y;exact⟨this.1,this.2.mono (by lia)⟩
   ·rw[y];exact⟨tV l2.pos la.pos,Bc b2 ba l2.pos la.pos⟩
theorem zK {M:List (List Q2)}{h w n i j:Nat}{a:Q2}(b:MxB M h w n)(hi:i < h)(hj:j < w)(la:Low a)(x y:Nat):val (jJ (L2.rz M i j a) x y)=val (jJ M x y)+if i=x/\j=y then val a else 0:=by
 obtain⟨e,m,l⟩:=b.row hi;obtain⟨e2,l2,b2⟩:=b.at hi hj;have hl:i < M.length:=by rw[b.h];exact hi
 unfold jJ L2.rz
 by_cases c:i=x
 ·subst c;have e3:(M.set i (rzl (M.getD i []) j a)).getD i []=rzl (M.getD i []) j a:=by rw[getD_eq_getElem?_getD,getElem?_set,if_pos rfl,if_pos hl];rfl
  rw[e3];unfold rzl
  by_cases d:j=y
  ·subst d;have e4:((M.getD i []).set j (oW ((M.getD i []).getD j (0,1)) a)).getD j (0,1)=oW ((M.getD i []).getD j (0,1)) a:=by rw[getD_eq_getElem?_getD,getElem?_set,if_pos rfl,if_pos (by rw[l];exact hj)];rfl
   rw[e4,if_pos ⟨rfl,rfl⟩];exact vP l2.pos la.pos
  ·have e4:((M.getD i []).set j (oW ((M.getD i []).getD j (0,1)) a)).getD y (0,1)=(M.getD i []).getD y (0,1):=by rw[getD_eq_getElem?_getD,getElem?_set,if_neg d,<- getD_eq_getElem?_getD]
   rw[e4,if_neg (fun z=>d z.2),Rat.add_zero]
 ·have e3:(M.set i (rzl (M.getD i []) j a)).getD x []=M.getD x []:=by rw[getD_eq_getElem?_getD,getElem?_set,if_neg c,<- getD_eq_getElem?_getD]
  rw[e3,if_neg (fun z=>c z.1),Rat.add_zero]
structure LnB (R:List Q2) (w n:Nat):Prop where
 w:R.length=w
 l:∀p∈R,Low p/\Bd n p
theorem LnB.mono {R:List Q2}{w n n':Nat}(b:LnB R w n)(le:n<=n'):LnB R w n':=⟨b.w,fun p hp=>⟨(b.l p hp).1,(b.l p hp).2.mono le⟩⟩
theorem LnB.at {R:List Q2}{w n j:Nat}(b:LnB R w n)(hj:j < w):R[j]?=some (R.getD j (0,1))/\Low (R.getD j (0,1))/\Bd n (R.getD j (0,1)):=by
 have hj':j < R.length:=by rw[b.w];exact hj
 have:=tK hj';exact⟨this,b.l _ (mem_of_getElem? this)⟩
theorem LnB.set {R:List Q2}{w n j:Nat}{q:Q2}(b:LnB R w n)(lq:Low q)(bq:Bd n q):LnB (R.set j q) w n:=⟨by rw[length_set];exact b.w,fun p hp=>by
 rcases mem_or_eq_of_mem_set hp with z | z
 ·exact b.l p z
 ·rw[z];exact⟨lq,bq⟩⟩
theorem LnB.rz {R:List Q2}{w n k j:Nat}{a:Q2}(b:LnB R w n)(hj:j < w)(la:Low a)(ba:Bd k a):LnB (rzl R j a) w (n+k+1):=by
 obtain⟨_,l2,b2⟩:=b.at hj;exact(b.mono (by lia)).set (tV l2.pos la.pos) (Bc b2 ba l2.pos la.pos)
theorem zB {R:List Q2}{j y:Nat}{q:Q2}(hj:j < R.length):(R.set j q).getD y (0,1)=if j=y then q else R.getD y (0,1):=by
 rw[getD_eq_getElem?_getD,getElem?_set]
 by_cases e:j=y
 ·rw[if_pos e,if_pos e,if_pos (by lia)];rfl
 ·rw[if_neg e,if_neg e,<- getD_eq_getElem?_getD]
theorem Hs {R:List Q2}{w n j:Nat}{a:Q2}(b:LnB R w n)(hj:j < w)(la:Low a)(y:Nat):val ((rzl R j a).getD y (0,1))=val (R.getD y (0,1))+if j=y then val a else 0:=by
 obtain⟨_,l2,b2⟩:=b.at hj;unfold rzl;rw[zB (by rw[b.w];exact hj)]
 by_cases d:j=y
 ·subst d;rw[if_pos rfl,if_pos rfl];exact vP l2.pos la.pos
 ·rw[if_neg d,if_neg d,Rat.add_zero]
def SX (as:List Addr)(H H':Hp):Prop:=∀b o,H b=some o->b∉as->H' b=some o
theorem bC.sx {as:List Addr}{H H':Hp}(s:bC H H'):SX as H H':=fun b o e _=>s b o e
theorem SX.trans {as:List Addr}{H H1 H2:Hp}(a:SX as H H1)(b:SX as H1 H2):SX as H H2:=fun c o h n=>b c o (a c o h n) n
theorem SX.write {as:List Addr}{H H1:Hp}{l:Addr}{o:HO}(a:SX as H H1)(hl:l∈as):SX as H (upd H1 l o):=fun c u h n=>by rw[aY (fun z=>n (by rw[z];exact hl))];exact a c u h n
theorem SX.mono {as bs:List Addr}{H H':Hp}(a:SX as H H')(h:∀x∈as,x∈bs):SX bs H H':=fun c o e n=>a c o e fun z=>n (h c z)
theorem SX.same {as:List Addr}{H0 H H':Hp}(s:bC H0 H)(a:SX as H H')(h:∀x∈as,H0 x=none):bC H0 H':=fun c o e=>a c o (s c o e) fun z=>by rw[h c z] at e;cases e
def Tu (as:List Addr)(H:Hp):Prop:=∀a∈as,∃xs,H a=some (.lst xs)
theorem SX.seqT {K:Frag}{as:List Addr}{H H':Hp}(hl:Tu as H)(e:SX as H H'){a:Addr}{xs:List V}(h:SqT K H a xs):SqT K H' a xs:=by
 have nx:∀{o:HO},H a=some o->(∀ys,o≠.lst ys)->a∉as:=fun ho n z=>by
  obtain⟨ys,hy⟩:=hl a z;rw[hy] at ho;exact n ys (Option.some.inj ho).symm
 rcases h with (h | ⟨u,h⟩) | h
 ·exact .inl (.inl (e _ _ h (nx h fun ys z=>by cases z)))
 ·exact .inl (.inr ⟨u,e _ _ h (nx h fun ys z=>by cases z)⟩)
 ·exact .inr h
theorem SX.rw {CK:Kd->Addr}{as:List Addr}{H H':Hp}(hl:Tu as H)(e:SX as H H'){x:Addr}{k:Kd}{s g z:V}(h:Rw CK H x k s g z):Rw CK H' x k s g z:=by
 obtain⟨dx,q⟩:=h;refine⟨dx,e _ _ q fun y=>?_⟩;obtain⟨ys,hy⟩:=hl x y;rw[hy] at q;cases q
theorem SX.fqs {K:Frag}{as:List Addr}{H H':Hp}(hl:Tu as H)(e:SX as H H'):∀{xs:List V} {ps:List Q2},Fqs K H xs ps->Fqs K H' xs ps
 |_,_,.nil=>.nil
 |_,_,.cons f q=>.cons (e.seqT hl f) (SX.fqs hl e q)
structure Mx (K:Frag) (H:Hp) (D:Addr) (as:List Addr) (M:List (List Q2)):Prop where
 d:H D=some (.lst (as.map V.ref))
 n:as.Nodup
 nd:D∉as
 la:as.length=M.length
 r:∀(i:Nat) (a:Addr) (ps:List Q2),as[i]?=some a->M[i]?=some ps->∃xs,H a=some (.lst xs)/\Fqs K H xs ps
theorem Mx.lsts {K:Frag}{H:Hp}{D:Addr}{as:List Addr}{M:List (List Q2)}(m:Mx K H D as M):Tu as H:=fun a ha=>by
 obtain⟨i,hi⟩:=getElem?_of_mem ha;have il:=(List.getElem?_eq_some_iff.mp hi).1;have il':i < M.length:=by rw[<- m.la];exact il
 obtain⟨xs,h,_⟩:=m.r i a M[i] hi (getElem?_eq_getElem il');exact⟨xs,h⟩
theorem Mx.same {K:Frag}{H H':Hp}{D:Addr}{as:List Addr}{M:List (List Q2)}(s:bC H H')(m:Mx K H D as M):Mx K H' D as M:=⟨s _ _ m.d,m.n,m.nd,m.la,fun i a ps h1 h2=>by
 obtain⟨xs,h,f⟩:=m.r i a ps h1 h2;exact⟨xs,s _ _ h,f.same s⟩⟩
theorem Mx.other {K:Frag}{H:Hp}{D l:Addr}{as:List Addr}{M:List (List Q2)}{ys:List V}{o:HO}(m:Mx K H D as M)(hl:H l=some (.lst ys))(n1:l≠D)(n2:l∉as):Mx K (upd H l o) D as M:=⟨by rw[aY (Ne.symm n1)];exact m.d,m.n,m.nd,m.la,fun i a ps h1 h2=>by
 obtain⟨xs,h,f⟩:=m.r i a ps h1 h2;exact⟨xs,by rw[aY (fun z=>n2 (by rw[<- z];exact mem_of_getElem? h1))];exact h,f.upd hl⟩⟩
theorem Mx.set {K:Frag}{H H1:Hp}{D a v:Addr}{as:List Addr}{M:List (List Q2)}{i j:Nat}{ps:List Q2}{xs:List V}{q:Q2}(m:Mx K H D as M)(ha:as[i]?=some a)(hp:M[i]?=some ps)(hx:H a=some (.lst xs))(hF:Fqs K H xs ps)(s:bC H H1)(fv:Fq K H1 v q):Mx K (upd H1 a (.lst (xs.set j (.ref v)))) D as (M.set i (ps.set j q))/\SX as H (upd H1 a (.lst (xs.set j (.ref v)))):=by
 have ma:=mem_of_getElem? ha;have hx1:=s _ _ hx;have il:=(List.getElem?_eq_some_iff.mp ha).1;refine⟨⟨?_,m.n,m.nd,by rw[length_set];exact m.la,fun k b qs h1 h2=>?_⟩,s.sx.write ma⟩
 ·rw[aY (fun z=>m.nd (by rw[z];exact ma))];exact s _ _ m.d
 ·rw[getElem?_set] at h2
  by_cases c:i=k
  ·subst c;rw[ha] at h1;have h1:a=b:=Option.some.inj h1;subst h1;rw[if_pos rfl] at h2;split at h2
   ·have h2:ps.set j q=qs:=Option.some.inj h2;rw[<- h2];exact⟨_,aC,(Fqs.set fv j (hF.same s)).upd hx1⟩
   ·cases h2
  ·rw[if_neg c] at h2;obtain⟨ys,hy,fy⟩:=m.r k b qs h1 h2;have nb:b≠a:=fun z=>by
    subst z;have kl:=(List.getElem?_eq_some_iff.mp h1).1;have e1:as[i]'il=b:=(List.getElem?_eq_some_iff.mp ha).2;have e2:as[k]'kl=b:=(List.getElem?_eq_some_iff.mp h1).2;exact c ((getElem_inj m.n).mp (e1.trans e2.symm))
   exact⟨ys,by rw[aY nb];exact s _ _ hy,(fy.same s).upd hx1⟩
def cA (k:Kd):Nat:=if k=.ho then 1 else 0
def en (M:List (List Q2))(d:RD)(c:Nat)(a:Q2):List (List Q2):=rz (rz M d.2.1.toNat c a) d.2.2.1.toNat c (Mq.minus (0,1) a)
def dl (s g x:Nat):Rat:=(if s=x then 1 else 0) - (if g=x then 1 else 0)
def cM (d:RD)(h x y:Nat):Rat:=match d.1 with
 | .pc=>dl d.2.1.toNat d.2.2.1.toNat x*dl d.2.1.toNat d.2.2.1.toNat y*(1 / val d.2.2.2)
 | .pu=>0
 | .ho=>dl d.2.1.toNat d.2.2.1.toNat x*(if h=y then 1 else 0)+(if h=x then 1 else 0)*dl d.2.1.toNat d.2.2.1.toNat y
def cR (d:RD)(h x:Nat):Rat:=match d.1 with
 | .pc=>0
 | .pu=>- dl d.2.1.toNat d.2.2.1.toNat x*val d.2.2.2
 | .ho=>if h=x then val d.2.2.2 else 0
def eqM:Nat->List RD->Nat->Nat->Rat
 |_,[],_,_=>0
 |h,d :: ds,x,y=>cM d h x y+eqM (h+cA d.1) ds x y
def eqR:Nat->List RD->Nat->Rat
 |_,[],_=>0
 |h,d :: ds,x=>cR d h x+eqR (h+cA d.1) ds x
def bN (ds:List RD):Nat:=(iU .ho ds).length
theorem fK (ds:List RD)(d:RD):bN (ds++[d])=bN ds+cA d.1:=by
 unfold bN cA;rw[Iy];split
 ·rw[length_append];rfl
 ·rfl
theorem fB (d:RD)(ds:List RD):bN (d :: ds)=cA d.1+bN ds:=by
 unfold bN cA iU
 by_cases h:d.1=.ho
 ·rw[filter_cons_of_pos (by exact decide_eq_true h),if_pos h,length_cons];lia
 ·rw[filter_cons_of_neg (by simp[h]),if_neg h];lia
theorem Cc (d:RD)(x y:Nat):∀(ds:List RD) (h:Nat),eqM h (ds++[d]) x y=eqM h ds x y+cM d (h+bN ds) x y
 | [],h=>by show cM d h x y+0=0+cM d (h+0) x y;rw[Nat.add_zero];grind
 |e :: ds,h=>by
  show cM e h x y+eqM (h+cA e.1) (ds++[d]) x y=cM e h x y+eqM (h+cA e.1) ds x y+_;rw[Cc d x y ds,fB,Nat.add_assoc];grind
theorem Cq (d:RD)(x:Nat):∀(ds:List RD) (h:Nat),eqR h (ds++[d]) x=eqR h ds x+cR d (h+bN ds) x
 | [],h=>by show cR d h x+0=0+cR d (h+0) x;rw[Nat.add_zero];grind
 |e :: ds,h=>by
  show cR e h x+eqR (h+cA e.1) (ds++[d]) x=cR e h x+eqR (h+cA e.1) ds x+_;rw[Cq d x ds,fB,Nat.add_assoc];grind
theorem gM:Low (1,1):=⟨by decide,by decide⟩
theorem kR {a:Q2}{k:Nat}(la:Low a)(ba:Bd k a):Low (Mq.minus (0,1) a)/\Bd (k+2) (Mq.minus (0,1) a)/\val (Mq.minus (0,1) a)=- val a:=by
 have h01:1<=((0,1):Q2).2:=by decide
 have b01:Bd 1 (0,1):=⟨show (0:Nat) < 2 ^ 1 by decide,show (1:Nat) < 2 ^ 1 by decide⟩
 refine⟨iQ h01 la.pos,(oQ b01 ba h01 la.pos).mono (by lia),?_⟩;rw[mI h01 la.pos,vB];grind
theorem Ct {M:List (List Q2)}{h w n k c:Nat}{d:RD}{a:Q2}(b:MxB M h w n)(pt:dC (h:Int) d.2.1 d.2.2.1)(hc:c < w)(la:Low a)(ba:Bd k a):MxB (en M d c a) h w (n+2*k+4)/\∀x y,val (jJ (en M d c a) x y)=val (jJ M x y)+dl d.2.1.toNat d.2.2.1.toNat x*(if c=y then 1 else 0)*val a:=by
 obtain⟨i0,i1,j0,j1⟩:=pt;obtain⟨ln,bn,vn⟩:=kR la ba;have b1:=b.rz (i:=d.2.1.toNat) (by lia) hc la ba;have b2:=b1.rz (i:=d.2.2.1.toNat) (by lia) hc ln bn;refine⟨b2.mono (by lia),fun x y=>?_⟩;unfold en;rw[zK b1 (by lia) hc ln,zK b (by lia) hc la,vn];unfold dl
 by_cases c1:d.2.1.toNat=x<;>by_cases c2:d.2.2.1.toNat=x<;>by_cases c3:c=y<;>simp only[c1,c2,c3,true_and,and_true,false_and,and_false,and_self,if_true,if_false]<;>grind
def hM (M:List (List Q2))(d:RD)(c:Nat):List (List Q2):=rz (rz (en M d c (1,1)) c d.2.1.toNat (1,1)) c d.2.2.1.toNat (Mq.minus (0,1) (1,1))
def pM (M:List (List Q2))(d:RD):List (List Q2):=en (en M d d.2.1.toNat (kU (1,1) d.2.2.2)) d d.2.2.1.toNat (Mq.minus (0,1) (kU (1,1) d.2.2.2))
def pR (rs:List Q2)(d:RD):List Q2:=rzl (rzl rs d.2.1.toNat (Mq.minus (0,1) d.2.2.2)) d.2.2.1.toNat d.2.2.2
theorem hG:Bd 1 (1,1):=⟨show (1:Nat) < 2 ^ 1 by decide,show (1:Nat) < 2 ^ 1 by decide⟩
theorem h11:1<=((1,1):Q2).2:=by decide
theorem Dk {p:Q2}{k:Nat}(l:Low p)(h0:0 < p.1)(b:Bd k p):Low (kU (1,1) p)/\Bd (k+1) (kU (1,1) p)/\val (kU (1,1) p)=1 / val p:=by
 refine⟨tO h11 (by lia),(zT hG b h11 (by lia)).mono (by lia),?_⟩;rw[vI h11 l.pos (by lia),Mq.uY]
theorem qa4 {M:List (List Q2)}{w n k m h:Nat}{d:RD}(b:MxB M w w n)(pt:dC (m:Int) d.2.1 d.2.2.1)(hm:m<=w)(hk:d.1=.pc)(l:Low d.2.2.2)(h0:0 < d.2.2.2.1)(bk:Bd k d.2.2.2):MxB (pM M d) w w (n+4*k+20)/\∀x y,val (jJ (pM M d) x y)=val (jJ M x y)+cM d h x y:=by
 obtain⟨i0,i1,j0,j1⟩:=pt;obtain⟨ls,bs,vs⟩:=Dk l h0 bk;obtain⟨ln,bn,vn⟩:=kR ls bs;have pt':dC (w:Int) d.2.1 d.2.2.1:=⟨i0,by lia,j0,by lia⟩
 obtain⟨b1,v1⟩:=Ct b pt' (c:=d.2.1.toNat) (by lia) ls bs;obtain⟨b2,v2⟩:=Ct b1 pt' (c:=d.2.2.1.toNat) (by lia) ln bn;refine⟨b2.mono (by lia),fun x y=>?_⟩;unfold pM;rw[v2,v1,vn,vs];unfold cM;rw[hk];show _=_+dl d.2.1.toNat d.2.2.1.toNat x*dl d.2.1.toNat d.2.2.1.toNat y*(1 / val d.2.2.2)
 generalize 1 / val d.2.2.2=v;generalize dl d.2.1.toNat d.2.2.1.toNat x=u;unfold dl
 by_cases c1:d.2.1.toNat=y<;>by_cases c2:d.2.2.1.toNat=y<;>simp only[c1,c2,if_true,if_false]<;>grind
theorem Zu {M:List (List Q2)}{w n m c:Nat}{d:RD}(b:MxB M w w n)(pt:dC (m:Int) d.2.1 d.2.2.1)(hm:m<=w)(hc:c < w)(hk:d.1=.ho):MxB (hM M d c) w w (n+20)/\∀x y,val (jJ (hM M d c) x y)=val (jJ M x y)+cM d c x y:=by
 obtain⟨i0,i1,j0,j1⟩:=pt;have pt':dC (w:Int) d.2.1 d.2.2.1:=⟨i0,by lia,j0,by lia⟩
 obtain⟨ln,bn,vn⟩:=kR gM hG;obtain⟨b1,v1⟩:=Ct b pt' hc gM hG;have b2:=b1.rz (i:=c) (j:=d.2.1.toNat) hc (by lia) gM hG;have b3:=b2.rz (i:=c) (j:=d.2.2.1.toNat) hc (by lia) ln bn;refine⟨b3.mono (by lia),fun x y=>?_⟩;unfold hM;rw[zK b2 hc (by lia) ln,zK b1 hc (by lia) gM,v1,vn,Mq.uY];unfold cM;rw[hk];show _=_+(dl d.2.1.toNat d.2.2.1.toNat x*(if c=y then 1 else 0)+(if c=x then 1 else 0)*dl d.2.1.toNat d.2.2.1.toNat y)
 generalize dl d.2.1.toNat d.2.2.1.toNat x=u;unfold dl
 by_cases c1:d.2.1.toNat=y<;>by_cases c2:d.2.2.1.toNat=y<;>by_cases c3:c=x<;>by_cases c4:c=y<;>simp only[c1,c2,c3,c4,true_and,and_true,false_and,and_false,and_self,if_true,if_false]<;>grind
theorem Vd {rs:List Q2}{w n k m h:Nat}{d:RD}(b:LnB rs w n)(pt:dC (m:Int) d.2.1 d.2.2.1)(hm:m<=w)(hk:d.1=.pu)(l:Low d.2.2.2)(bk:Bd k d.2.2.2):LnB (pR rs d) w (n+4*k+20)/\∀x,val ((pR rs d).getD x (0,1))=val (rs.getD x (0,1))+cR d h x:=by
 obtain⟨i0,i1,j0,j1⟩:=pt;obtain⟨ln,bn,vn⟩:=kR l bk;have b1:=b.rz (j:=d.2.1.toNat) (by lia) ln bn;have b2:=b1.rz (j:=d.2.2.1.toNat) (by lia) l bk;refine⟨b2.mono (by lia),fun x=>?_⟩;unfold pR;rw[Hs b1 (by lia) l,Hs b (by lia) ln,vn];unfold cR;rw[hk];show _=_ + - dl d.2.1.toNat d.2.2.1.toNat x*val d.2.2.2;unfold dl
 by_cases c1:d.2.1.toNat=x<;>by_cases c2:d.2.2.1.toNat=x<;>simp only[c1,c2,if_true,if_false]<;>grind
theorem wK {m:Nat}:∀(ds:List RD) (h x:Nat),(∀d∈ds,dC (m:Int) d.2.1 d.2.2.1)->m<=h->h+bN ds<=x->eqR h ds x=0
 | [],_,_,_,_,_=>rfl
 |d :: ds,h,x,pt,hm,hx=>by
  rw[fB] at hx;have ih:=wK ds (h+cA d.1) x (fun e he=>pt e (mem_cons_of_mem _ he)) (by lia) (by lia);obtain⟨i0,i1,j0,j1⟩:=pt d (by simp);show cR d h x+eqR (h+cA d.1) ds x=0;rw[ih];have z:dl d.2.1.toNat d.2.2.1.toNat x=0:=by unfold dl;rw[if_neg (by lia),if_neg (by lia)];grind
  unfold cR
  cases hk:d.1 with
  |pc=>show (0:Rat)+0=0;grind
  |pu=>show - dl d.2.1.toNat d.2.2.1.toNat x*val d.2.2.2+0=0;rw[z];grind
  |ho=>
   have:cA d.1=1:=by unfold cA;rw[if_pos hk]
   show (if h=x then val d.2.2.2 else 0)+0=0;rw[if_neg (by lia)];grind
theorem qb4 {rs:List Q2}{w n k m c:Nat}{d:RD}(b:LnB rs w n)(hc:c < w)(hk:d.1=.ho)(l:Low d.2.2.2)(bk:Bd k d.2.2.2)(h0:val (rs.getD c (0,1))=0):LnB (rs.set c d.2.2.2) w (n+k)/\∀x,val ((rs.set c d.2.2.2).getD x (0,1))=val (rs.getD x (0,1))+cR d c x:=by
 refine⟨(b.mono (by lia)).set l (bk.mono (by lia)),fun x=>?_⟩;rw[zB (by rw[b.w];exact hc)];unfold cR;rw[hk];show _=_+if c=x then val d.2.2.2 else 0
 by_cases e:c=x
 ·subst e;rw[if_pos rfl,if_pos rfl,h0];grind
 ·rw[if_neg e,if_neg e];grind
def rZ (K:Frag):Sp:=fun vs H Q _=>∃(l z:Addr) (j:Nat) (xs:List V) (ps:List Q2) (a:Q2) (n m:Nat),vs=[.ref l,.int (j:Int),.ref z]/\H l=some (.lst xs)/\Fqs K H xs ps/\j < ps.length/\1<=(ps.getD j (0,1)).2/\Bd n (ps.getD j (0,1))/\Fq K H z a/\1<=a.2/\Bd m a/\n+m+1<=9000/\∀v H1,bC H H1->Fq K H1 v (oW (ps.getD j (0,1)) a)->Q .non (upd H1 l (.lst (xs.set j (.ref v))))
def Bj (K:Frag)(CK:Kd->Addr):Sp:=fun vs H Q _=>∃(D x z:Addr) (zz:V) (as:List Addr) (M:List (List Q2)) (d:RD) (w n k c:Nat) (a:Q2),vs=[.ref D,.ref x,.int (c:Int),.ref z]/\Mx K H D as M/\MxB M w w n/\Rw CK H x d.1 (.int d.2.1) (.int d.2.2.1) zz/\dC (w:Int) d.2.1 d.2.2.1/\c < w/\Fq K H z a/\Low a/\Bd k a/\n+2*k+4<=9000/\∀H',SX as H H'->Mx K H' D as (en M d c a)->Q .non H'
def Ca (K:Frag)(CK:Kd->Addr):Sp:=fun vs H Q _=>∃(D x zz:Addr) (as:List Addr) (M:List (List Q2)) (d:RD) (w n k:Nat),vs=[.ref D,.ref x]/\Mx K H D as M/\MxB M w w n/\Rw CK H x d.1 (.int d.2.1) (.int d.2.2.1) (.ref zz)/\Fq K H zz d.2.2.2/\dC (w:Int) d.2.1 d.2.2.1/\Low d.2.2.2/\0 < d.2.2.2.1/\Bd k d.2.2.2/\n+4*k+20<=9000/\∀H',SX as H H'->Mx K H' D as (pM M d)->Q .non H'
def uL (K:Frag)(CK:Kd->Addr):Sp:=fun vs H Q _=>∃(R x zz:Addr) (ys:List V) (rs:List Q2) (d:RD) (w n k:Nat),vs=[.ref R,.ref x]/\H R=some (.lst ys)/\Fqs K H ys rs/\LnB rs w n/\Rw CK H x d.1 (.int d.2.1) (.int d.2.2.1) (.ref zz)/\Fq K H zz d.2.2.2/\dC (w:Int) d.2.1 d.2.2.1/\Low d.2.2.2/\Bd k d.2.2.2/\n+4*k+20<=9000/\∀ys' H',SX [R] H H'->H' R=some (.lst ys')->Fqs K H' ys' (pR rs d)->Q .non H'
def Cj (K:Frag)(CK:Kd->Addr):Sp:=fun vs H Q _=>∃(D R x zz:Addr) (as:List Addr) (M:List (List Q2)) (ys:List V) (rs:List Q2) (d:RD) (w n c:Nat),vs=[.ref D,.ref R,.ref x,.int (c:Int)]/\Mx K H D as M/\MxB M w w n/\H R=some (.lst ys)/\Fqs K H ys rs/\rs.length=w/\R≠D/\R∉as/\Rw CK H x d.1 (.int d.2.1) (.int d.2.2.1) (.ref zz)/\Fq K H zz d.2.2.2/\dC (w:Int) d.2.1 d.2.2.1/\c < w/\n+20<=9000/\∀ys' H',SX (R :: as) H H'->Mx K H' D as (hM M d c)->H' R=some (.lst ys')->Fqs K H' ys' (rs.set c d.2.2.2)->Q .non H'
structure Fms (K:Frag) (H0 H:Hp) (us:List V) (X:List (List Q2)):Prop where
 l:us.length=X.length
 r:∀(i:Nat) (x:V) (ps:List Q2),us[i]?=some x->X[i]?=some ps->∃(a:Addr) (xs:List V),x=.ref a/\H0 a=none/\H a=some (.lst xs)/\Fqs K H xs ps
structure zI (m:Nat) (ds:List RD) (N:Nat) (X:List (List Q2)) (Y:List Q2):Prop where
 x:MxB X (m - 1+bN ds) (m - 1+bN ds) N
 y:LnB Y (m - 1+bN ds) N
 vx:∀i j,val (jJ X i j)=eqM m ds (i+1) (j+1)
 vy:∀i,val (Y.getD i (0,1))=eqR m ds (i+1)
def kD (kb:Nat->Nat):Nat->Nat
 |0=>0
 |i+1=>kD kb i+(4*kb i+20)
theorem wZ (kb:Nat->Nat){i:Nat}:∀{j:Nat},i<=j->kD kb i<=kD kb j
 |0,h=>by rw[Nat.le_zero.mp h];exact Nat.le_refl _
 |j+1,h=>by
  rcases Nat.eq_or_lt_of_le h with z | z
  ·rw[z];exact Nat.le_refl _
  ·have:=wZ kb (i:=i) (j:=j) (by lia);show _<=kD kb j+(4*kb j+20)
   lia
def Am (CN:Addr)(K:Frag):Sp:=fun vs H Q _=>∃(n l:Addr) (m:Nat) (kb:Nat->Nat) (ds:List RD),vs=[.ref n]/\dH CN K H n l (m:Int) ds/\(∀i d,ds[i]?=some d->zS (m:Int) d/\Bd (kb i) d.2.2.2)/\1<=m/\m<=20/\ds.length<=40/\kD kb ds.length+30<=8900/\
 ∀t p r us ys X Y H',bC H H'->H' t=some (.tup [.ref p,.ref r])->H p=none->H r=none->H' p=some (.lst us)->H' r=some (.lst ys)->Fms K H H' us X->Fqs K H' ys Y->(∀x∈us,x≠.ref p/\x≠.ref r)->zI m ds (kD kb ds.length+1) X Y->Q (.ref t) H'
def Sm (ta:TA):TE:=fun σ H Q=>ta σ H fun vs H1=>∃n:Nat,vs=[.int (n:Int)]/\n<=1000/\∀l,H1 l=none->Q (.ref l) (upd H1 l (.lst ((range n).map fun (i:Nat)=>V.int (i:Int))))
theorem tQ:∀{n:Nat} {acc:List Value},acc.length=n->(∀(j:Nat) (v:Value),acc[j]?=some v->∃t,v=Value.int (j:Int) t)->cB ((range n).map fun (i:Nat)=>V.int (i:Int)) acc
 |0,[],_,_=>.nil
 |n+1,acc,hl,h=>by
  have e:acc=acc.take n++[acc[n]'(by lia)]:=by
   have h1:acc.take (n+1)=acc:=take_of_length_le (by lia);have h2:acc.take (n+1)=acc.take n++[acc[n]'(by lia)]:=by rw[take_add_one,getElem?_eq_getElem (by lia)];rfl
   rw[h1] at h2;exact h2
  rw[range_succ,map_append,e];refine cB.append (tQ (by rw[length_take];lia) fun j v hj=>?_) (.cons ?_ .nil)
  ·have hjn:j < n:=by
    have:=(List.getElem?_eq_some_iff.mp hj).1;rw[length_take] at this;lia
   rw[getElem?_take,if_pos hjn] at hj;exact h j v hj
  ·obtain⟨t,ht⟩:=h n _ (getElem?_eq_getElem (by lia));rw[ht];exact⟨t,rfl⟩
section
variable {X:Cx} {a:Expr} {p p2 pos pos2:Pos} {ta:TA}
theorem Bb (hc:X.calm=true)(hgl:Gl X "list")(hml:X.mg "list"=none)(hg:Gl X "range")(hm:X.mg "range"=none)(ha:PA X [a] ta)(hs:starEach [a] X.env=[(false,eval a X.env)]:=by rfl)(he:starEach [.Call (.Name "range" p2) [a] [] pos2] X.env=(false,eval (.Call (.Name "range" p2) [a] [] pos2) X.env) :: starEach [] X.env:=by rfl)(hpl:(backTo pos (starEach [] X.env)).any (·.1)=false:=by rfl) :
  PE X (.Call (.Name "list" p) [.Call (.Name "range" p2) [a] [] pos2] [] pos) (Sm ta):=by
 intro pins s σ H Q I h;refine wpAny_Call_Name_kw (jY I hgl hml PyProof.Rows.boot_list ?_);refine PyProof.Rows.callWith_type1 ?_ he hpl;rw[he];show wpAny _ _ (spliced ((false,eval (.Call (.Name "range" p2) [a] [] pos2) X.env) :: backTo pos (starEach [] X.env))) _ _ s;refine Calls.spliced_cons ?_;refine wpAny_Call_Name_kw (jY I hg hm boot_range (PyProof.Rows.callWith_type1 (thn (ha pos2 pins s σ H _ I h) fun us s1 ⟨vs,H1,I1,r1,q1⟩=>?_) hs rfl));obtain⟨n,e,hn,q⟩:=q1;subst e
 cases r1 with
 |cons r rr=>
  cases rr
  obtain⟨t,rfl⟩:=r;refine call_range_1 ?_;refine Calls.spliced_nil ?_;have I2:∀(ob:Obj) (tk:Nat),Inv X pins σ H1 { s1 with heap:=s1.heap.push ob,toks:=tk }:=fun ob tk=>I1.kept (t':=tk) (fun b ob e=>Heap.get?_push_of_some _ e);have hn24:(n:Nat)<=2 ^ 24:=by lia
  refine call_list_range (n:=n) (I1.ok.hd hc) (IsRange.new ..) (small_one (by lia) (by lia) (by lia) (by lia)) (by rw[rangeSize_one];split<;>lia) hn24 (fun h' tk acc' c' kp e items=>?_);have rl:cB ((range n).map fun (i:Nat)=>V.int (i:Int)) acc'.toList:=tQ (by rw[Array.length_toList];exact items.1) (fun j v hj=>by
   obtain⟨t,ht⟩:=items.2 j v (by rw[<- Array.getElem?_toList];exact hj);exact⟨t,by rw[ht];congr 1;lia⟩)
  have hz:((range n).map fun (i:Nat)=>V.int (i:Int)).length<=sizeLine:=by rw[length_map,length_range,sizeLine_eq];lia
  exact⟨.ref _,_,(I2 _ _).laid (t':=tk) kp (Nat.le_refl _) (show eJ X.prog X.w _ h' _ (.lst ((range n).map fun (i:Nat)=>V.int (i:Int))) from ⟨hz,acc'.toList,c',rl,e⟩),rfl,q _ ((I2 _ _).hok.fresh (Nat.le_refl _))⟩
end
def jn (ms:List Int)(s g:Nat):List Int:=ms.map fun x=>if x=ms.getD g 0 then ms.getD s 0 else x
def Jr (m:Nat):List Int:=(range m).map fun (i:Nat)=>(i:Int)
def jB (ms:List Int)(d:RD):List Int:=if d.1=.pu then ms else jn ms d.2.1.toNat d.2.2.1.toNat
def mks (m:Nat)(ds:List RD):List Int:=ds.foldl jB (Jr m)
def mk (m:Nat)(ds:List RD)(p:Nat):Int:=(mks m ds).getD p 0
theorem oM (m:Nat)(ds:List RD)(d:RD):mks m (ds++[d])=jB (mks m ds) d:=by unfold mks;rw[foldl_append];rfl
theorem Lb (ms:List Int)(d:RD):(jB ms d).length=ms.length:=by
 unfold jB;split
 ·rfl
 ·unfold jn;rw[length_map]
theorem wQ:∀(ds:List RD) (ms:List Int),(ds.foldl jB ms).length=ms.length
 | [],_=>rfl
 |d :: ds,ms=>by show (ds.foldl jB (jB ms d)).length=_;rw[wQ ds,Lb]
theorem oX (m:Nat)(ds:List RD):(mks m ds).length=m:=by unfold mks Jr;rw[wQ,length_map,length_range]
theorem Pz {ms:List Int}{f:Int->Int}{p:Nat}(h:p < ms.length):(ms.map f).getD p 0=f (ms.getD p 0):=by
 rw[getD_eq_getElem?_getD,getElem?_map,getD_eq_getElem?_getD,getElem?_eq_getElem h];rfl
theorem Lq {m p:Nat}(h:p < m):mk m [] p=(p:Int):=by
 show (Jr m).getD p 0=_;unfold Jr;rw[getD_eq_getElem?_getD,getElem?_map,getElem?_range h];rfl
theorem rQ {m:Nat}{ds:List RD}{d:RD}(hk:d.1=.pu)(p:Nat):mk m (ds++[d]) p=mk m ds p:=by
 unfold mk;rw[oM];unfold jB;rw[if_pos hk]
theorem rV {m:Nat}{ds:List RD}{d:RD}(hk:d.1≠.pu){p:Nat}(hp:p < m):mk m (ds++[d]) p=if mk m ds p=mk m ds d.2.2.1.toNat then mk m ds d.2.1.toNat else mk m ds p:=by
 unfold mk;rw[oM];unfold jB;rw[if_neg hk];unfold jn;rw[Pz (by rw[oX];exact hp)]
inductive Cn (ds:List RD):Nat->Nat->Prop where
 |refl (p:Nat):Cn ds p p
 |row {d:RD} (h:d∈ds) (hk:d.1≠.pu):Cn ds d.2.1.toNat d.2.2.1.toNat
 |symm {p q:Nat} (h:Cn ds p q):Cn ds q p
 |trans {p q r:Nat} (h:Cn ds p q) (g:Cn ds q r):Cn ds p r
theorem Cn.mono {ds es:List RD}(h:∀d∈ds,d∈es){p q:Nat}(c:Cn ds p q):Cn es p q:=by
 induction c with
 |refl p=>exact .refl p
 |row hd hk=>exact .row (h _ hd) hk
 |symm _ ih=>exact .symm ih
 |trans _ _ a b=>exact .trans a b
theorem Dp {m:Nat}:∀(n:Nat) (ds:List RD),ds.length=n->(∀d∈ds,dC (m:Int) d.2.1 d.2.2.1)->∀p q,p < m->q < m->mk m ds p=mk m ds q->Cn ds p q
 |0,ds,hl,_,p,q,hp,hq,e=>by
  have:ds=[]:=length_eq_zero_iff.mp hl;subst this;rw[Lq hp,Lq hq] at e;have:p=q:=by lia
  subst this;exact .refl p
 |n+1,ds,hl,pt,p,q,hp,hq,e=>by
  obtain⟨es,d,rfl⟩:∃es d,ds=es++[d]:=⟨ds.dropLast,ds.getLast (by intro z;rw[z] at hl;cases hl),(dropLast_concat_getLast _).symm⟩
  have le:es.length=n:=by rw[length_append] at hl;simpa using hl
  have ih:=Dp n es le (fun x hx=>pt x (mem_append_left _ hx));have up:∀{a b:Nat},Cn es a b->Cn (es++[d]) a b:=fun c=>c.mono fun x hx=>mem_append_left _ hx
  by_cases hk:d.1=.pu
  ·rw[rQ hk,rQ hk] at e;exact up (ih p q hp hq e)
  ·obtain⟨i0,i1,j0,j1⟩:=pt d (by simp);have hs:d.2.1.toNat < m:=by lia
   have hg:d.2.2.1.toNat < m:=by lia
   have rw':Cn (es++[d]) d.2.1.toNat d.2.2.1.toNat:=.row (by simp) hk;rw[rV hk hp,rV hk hq] at e
   by_cases a:mk m es p=mk m es d.2.2.1.toNat
   ·have cp:=up (ih _ _ hp hg a);rw[if_pos a] at e
    by_cases b:mk m es q=mk m es d.2.2.1.toNat
    ·exact cp.trans (up (ih _ _ hq hg b)).symm
    ·rw[if_neg b] at e;exact cp.trans (rw'.symm.trans (up (ih _ _ hs hq e)))
   ·rw[if_neg a] at e
    by_cases b:mk m es q=mk m es d.2.2.1.toNat
    ·rw[if_pos b] at e;exact(up (ih _ _ hp hs e)).trans (rw'.trans (up (ih _ _ hq hg b)).symm)
    ·rw[if_neg b] at e;exact up (ih _ _ hp hq e)
theorem sY {m:Nat}:∀(n:Nat) (ds:List RD),ds.length=n->(∀d∈ds,dC (m:Int) d.2.1 d.2.2.1)->∀d∈ds,d.1≠.pu->mk m ds d.2.1.toNat=mk m ds d.2.2.1.toNat
 |0,ds,hl,_,d,hd,_=>by
  have:ds=[]:=length_eq_zero_iff.mp hl;rw[this] at hd;cases hd
 |n+1,ds,hl,pt,x,hx,hkx=>by
  obtain⟨es,d,rfl⟩:∃es d,ds=es++[d]:=⟨ds.dropLast,ds.getLast (by intro z;rw[z] at hl;cases hl),(dropLast_concat_getLast _).symm⟩
  have le:es.length=n:=by rw[length_append] at hl;simpa using hl
  obtain⟨i0,i1,j0,j1⟩:=pt x hx;have hs:x.2.1.toNat < m:=by lia
  have hg:x.2.2.1.toNat < m:=by lia
  by_cases hk:d.1=.pu
  ·rw[rQ hk,rQ hk];rcases mem_append.mp hx with z | z
   ·exact sY n es le (fun y hy=>pt y (mem_append_left _ hy)) x z hkx
   ·have:x=d:=by simpa using z
    rw[this] at hkx;exact absurd hk hkx
  ·rw[rV hk hs,rV hk hg];rcases mem_append.mp hx with z | z
   ·have ih:=sY n es le (fun y hy=>pt y (mem_append_left _ hy)) x z hkx;rw[ih]
   ·have:x=d:=by simpa using z
    subst this;rw[if_pos rfl]
    by_cases c:mk m es x.2.1.toNat=mk m es x.2.2.1.toNat
    ·rw[if_pos c]
    ·rw[if_neg c]
theorem Cn.ind {ds:List RD}{R:Nat->Nat->Prop}(r:∀p,R p p)(s:∀p q,R p q->R q p)(t:∀p q x,R p q->R q x->R p x)(h:∀d∈ds,d.1≠.pu->R d.2.1.toNat d.2.2.1.toNat){p q:Nat}(c:Cn ds p q):R p q:=by
 induction c with
 |refl p=>exact r p
 |row hd hk=>exact h _ hd hk
 |symm _ ih=>exact s _ _ ih
 |trans _ _ a b=>exact t _ _ _ a b
theorem Pe {m:Nat}{ds:List RD}(pt:∀d∈ds,dC (m:Int) d.2.1 d.2.2.1){p q:Nat}(hp:p < m)(hq:q < m):mk m ds p=mk m ds q↔Cn ds p q:=
 ⟨Dp _ ds rfl pt p q hp hq,fun c=>Cn.ind (R:=fun a b=>mk m ds a=mk m ds b) (fun _=>rfl) (fun _ _ e=>e.symm) (fun _ _ _ a b=>a.trans b) (fun d hd hk=>sY _ ds rfl pt d hd hk) c⟩
theorem Ip:∀{m:Nat} {S:List Nat},S.Nodup->(∀p∈S,p < m)->S.length<=m
 |0,[],_,_=>Nat.le_refl _
 |0,p :: S,_,h=>absurd (h p (mem_cons_self ..)) (Nat.not_lt_zero _)
 |m+1,S,nd,h=>by
  have e:=Ip (m:=m) (S:=S.erase m) (nd.erase m) (fun p hp=>by
   have h1:=h p (mem_of_mem_erase hp);have h2:p≠m:=fun z=>by rw[z] at hp;exact(Nodup.not_mem_erase nd) hp
   lia)
  have:=length_erase_le (a:=m) (l:=S);have h3:S.length<=(S.erase m).length+1:=by
   rw[length_erase];split<;>lia
  lia
theorem Jg {m:Nat}{ds:List RD}{f:Nat}{S:List Nat}(pt:∀d∈ds,dC (m:Int) d.2.1 d.2.2.1)(hf:f < m)(h1:f∈S)(h2:∀p∈S,p < m/\mk m ds p=mk m ds f)(h3:∀d∈ds,d.1≠.pu->(d.2.1.toNat∈S↔d.2.2.1.toNat∈S)){p:Nat}(hp:p < m):p∈S↔mk m ds p=mk m ds f:=by
 refine⟨fun h=>(h2 p h).2,fun h=>?_⟩;exact(Cn.ind (R:=fun a b=>a∈S↔b∈S) (fun _=>Iff.rfl) (fun _ _ e=>e.symm) (fun _ _ _ a b=>a.trans b) h3 ((Pe pt hf hp).mp h.symm)).mp h1
abbrev Stp:=Nat × Int
abbrev Br:=Nat × Nat × Nat
def stF (es:List Br)(p:Nat):List (Stp × Nat):=es.filterMap fun e=>if e.2.1=p then some ((e.1,1),e.2.2) else if e.2.2=p then some ((e.1,-1),e.2.1) else none
abbrev WS:=List (Nat × List Stp)
def cF (w:WS):List Nat:=w.map (·.1)
def pU:WS->Nat->Option (List Stp)
 | [],_=>none
 |e :: w,p=>if e.1=p then some e.2 else pU w p
theorem gX {p:Nat}{st:List Stp}:∀{w:WS},pU w p=some st->(p,st)∈w
 | [],h=>by cases h
 |e :: w,h=>by
  unfold pU at h
  by_cases c:e.1=p
  ·rw[if_pos c] at h
   cases h
   obtain⟨a,b⟩:=e;have c:a=p:=c;subst c;exact mem_cons_self ..
  ·rw[if_neg c] at h;exact mem_cons_of_mem _ (gX h)
theorem pG {p:Nat}:∀{w:WS},p∈cF w->∃st,pU w p=some st
 | [],h=>by cases h
 |e :: w,h=>by
  unfold pU
  by_cases c:e.1=p
  ·rw[if_pos c];exact⟨_,rfl⟩
  ·rw[if_neg c];rcases mem_cons.mp h with z | z
   ·exact absurd z.symm c
   ·exact pG z
theorem pQ {p:Nat}:∀{w:WS},p∉cF w->pU w p=none
 | [],_=>rfl
 |e :: w,h=>by
  unfold pU;rw[if_neg (fun z=>h (by rw[<- z];exact mem_cons_self ..))];exact pQ fun z=>h (mem_cons_of_mem _ z)
theorem Nh {w:WS}{p:Nat}:(pU w p).isSome=true↔p∈cF w:=by
 by_cases c:p∈cF w
 ·obtain⟨st,e⟩:=pG c;rw[e];exact⟨fun _=>c,fun _=>rfl⟩
 ·rw[pQ c];exact⟨fun z=>(by cases z),fun z=>absurd z c⟩
def inF (p:Nat)(s:WS × List Nat)(t:Stp × Nat):WS × List Nat:=if t.2∈cF s.1 then s else (s.1++[(t.2,(pU s.1 p).getD []++[t.1])],s.2++[t.2])
def kI (es:List Br)(s:WS × List Nat):WS × List Nat:=if s.2=[] then s else (stF es (s.2.getLastD 0)).foldl (inF (s.2.getLastD 0)) (s.1,s.2.dropLast)
def cG (es:List Br)(b:Nat):Nat->WS × List Nat
 |0=>([(b,[])],[b])
 |n+1=>kI es (cG es b n)
def tY (es:List Br)(b e:Nat):Option (List Stp):=pU (cG es b 60).1 e
def oJ (es:List Br)(s:Stp)(p q:Nat):Prop:=∃u v,(s.1,u,v)∈es/\((s.2=1/\p=u/\q=v)\/(s.2=-1/\p=v/\q=u))
inductive Pt (es:List Br) (b:Nat):List Stp->Nat->List Nat->Prop where
 |nil:Pt es b [] b [b]
 |snoc {st:List Stp} {p q:Nat} {pts:List Nat} {s:Stp} (h:Pt es b st p pts) (g:oJ es s p q) (n:q∉pts):Pt es b (st++[s]) q (pts++[q])
theorem kS {es:List Br}{p:Nat}{t:Stp × Nat}(h:t∈stF es p):oJ es t.1 p t.2:=by
 unfold stF at h;obtain⟨e,he,ht⟩:=mem_filterMap.mp h
 by_cases c1:e.2.1=p
 ·rw[if_pos c1] at ht
  cases ht
  exact⟨e.2.1,e.2.2,he,.inl ⟨rfl,c1.symm,rfl⟩⟩
 ·rw[if_neg c1] at ht
  by_cases c2:e.2.2=p
  ·rw[if_pos c2] at ht
   cases ht
   exact⟨e.2.1,e.2.2,he,.inr ⟨rfl,c2.symm,rfl⟩⟩
  ·rw[if_neg c2] at ht;cases ht
theorem Pw {es:List Br}{p q:Nat}{s:Stp}(h:oJ es s p q):q=p\/∃t∈stF es p,t.2=q:=by
 obtain⟨u,v,he,h⟩:=h
 by_cases c:q=p
 ·exact .inl c
 refine .inr ?_;rcases h with ⟨_,rfl,rfl⟩ | ⟨_,rfl,rfl⟩
 ·refine⟨((s.1,1),q),mem_filterMap.mpr ⟨_,he,?_⟩,rfl⟩;rw[if_pos rfl]
 ·refine⟨((s.1,-1),q),mem_filterMap.mpr ⟨_,he,?_⟩,rfl⟩;rw[if_neg c,if_pos rfl]
structure WI (es:List Br) (b:Nat) (s:WS × List Nat):Prop where
 nd:(cF s.1).Nodup
 kb:b∈cF s.1
 pt:∀x st,(x,st)∈s.1->∃pts,Pt es b st x pts/\∀y∈pts,y∈cF s.1
 q:∀x∈s.2,x∈cF s.1
 cl:∀x∈cF s.1,x∉s.2->∀t y,oJ es t x y->y∈cF s.1
theorem Mw (es:List Br)(b:Nat):WI es b ([(b,[])],[b]):=by
 refine⟨by simp[cF],by simp[cF],fun x st h=>?_,fun x h=>?_,fun x h n=>?_⟩
 ·have:(x,st)=(b,[]):=by simpa using h
  cases this
  exact⟨[b],.nil,fun y hy=>by simpa[cF] using hy⟩
 ·simpa[cF] using h
 ·have:x=b:=by simpa[cF] using h
  exact absurd (by simp[this]) n
theorem Bk (w:WS)(x:Nat)(st:List Stp):cF (w++[(x,st)])=cF w++[x]:=by unfold cF;rw[map_append];rfl
structure WJ (es:List Br) (b p:Nat) (T:List (Stp × Nat)) (s:WS × List Nat):Prop where
 nd:(cF s.1).Nodup
 kb:b∈cF s.1
 kp:p∈cF s.1
 pt:∀x st,(x,st)∈s.1->∃pts,Pt es b st x pts/\∀y∈pts,y∈cF s.1
 q:∀x∈s.2,x∈cF s.1
 cl:∀x∈cF s.1,x∉s.2->x≠p->∀t y,oJ es t x y->y∈cF s.1
 t:∀t∈T,t.2∈cF s.1
theorem Iq {es:List Br}{b p:Nat}{T:List (Stp × Nat)}{s:WS × List Nat}{t:Stp × Nat}(h:WJ es b p T s)(g:oJ es t.1 p t.2):WJ es b p (T++[t]) (inF p s t):=by
 unfold inF
 by_cases c:t.2∈cF s.1
 ·rw[if_pos c];refine { h with t:=fun u hu=>?_ };rcases mem_append.mp hu with z | z
  ·exact h.t u z
  ·have:u=t:=by simpa using z
   rw[this];exact c
 ·rw[if_neg c];obtain⟨sp,ep⟩:=pG h.kp;rw[ep];have up:∀{x:Nat},x∈cF s.1->x∈cF (s.1++[(t.2,sp++[t.1])]):=fun hx=>by rw[Bk];exact mem_append_left _ hx
  have me:t.2∈cF (s.1++[(t.2,sp++[t.1])]):=by rw[Bk];simp
  refine⟨?_,up h.kb,up h.kp,fun x st hx=>?_,fun x hx=>?_,fun x hx nx np=>?_,fun u hu=>?_⟩
  ·show (cF (s.1++[(t.2,sp++[t.1])])).Nodup;rw[Bk,nodup_append];refine⟨h.nd,by simp,fun x hx y hy z=>?_⟩;have:y=t.2:=by simpa using hy
   exact c (by rw[<- this,<- z];exact hx)
  ·rcases mem_append.mp hx with z | z
   ·obtain⟨pts,h1,h2⟩:=h.pt x st z;exact⟨pts,h1,fun y hy=>up (h2 y hy)⟩
   ·have:(x,st)=(t.2,sp++[t.1]):=by simpa using z
    cases this
    obtain⟨pts,h1,h2⟩:=h.pt p sp (gX ep);refine⟨pts++[t.2],.snoc h1 g (fun z=>c (h2 _ z)),fun y hy=>?_⟩;rcases mem_append.mp hy with z | z
    ·exact up (h2 y z)
    ·have:y=t.2:=by simpa using z
     rw[this];exact me
  ·rcases mem_append.mp hx with z | z
   ·exact up (h.q x z)
   ·have:x=t.2:=by simpa using z
    rw[this];exact me
  ·have hx':x∈cF s.1:=by
    have hx2:x∈cF (s.1++[(t.2,sp++[t.1])]):=hx;rw[Bk] at hx2;rcases mem_append.mp hx2 with z | z
    ·exact z
    ·exact absurd (mem_append_right _ z) nx
   intro t' y hg;exact up (h.cl x hx' (fun z=>nx (mem_append_left _ z)) np t' y hg)
  ·rcases mem_append.mp hu with z | z
   ·exact up (h.t u z)
   ·have:u=t:=by simpa using z
    rw[this];exact me
theorem zM {es:List Br}{b p:Nat}:∀(U T:List (Stp × Nat)) {s:WS × List Nat},WJ es b p T s->(∀t∈U,oJ es t.1 p t.2)->WJ es b p (T++U) (U.foldl (inF p) s)
 | [],T,s,h,_=>by rw[append_nil];exact h
 |u :: U,T,s,h,g=>by
  have:=zM U (T++[u]) (Iq h (g u (by simp))) fun t ht=>g t (mem_cons_of_mem _ ht);rw[append_assoc] at this;exact this
theorem Gy {q:List Nat}(h:q≠[]):q.getLastD 0∈q/\q=q.dropLast++[q.getLastD 0]:=by
 have e:q.getLastD 0=q.getLast h:=by rw[getLastD_eq_getLast?,getLast?_eq_some_getLast h];rfl
 rw[e];exact⟨getLast_mem h,(dropLast_concat_getLast h).symm⟩
theorem uK {es:List Br}{b:Nat}{s:WS × List Nat}(h:WI es b s)(hq:s.2≠[]):WJ es b (s.2.getLastD 0) [] (s.1,s.2.dropLast):=by
 obtain⟨m,e⟩:=Gy hq;refine⟨h.nd,h.kb,h.q _ m,h.pt,fun x hx=>h.q x (dropLast_subset _ hx),fun x hx nx np=>h.cl x hx fun z=>?_,fun t ht=>by cases ht⟩;rw[e] at z;rcases mem_append.mp z with z | z
 ·exact nx z
 ·exact np (by simpa using z)
theorem Yh {es:List Br}{b p:Nat}{s:WS × List Nat}(h:WJ es b p (stF es p) s):WI es b s:=by
 refine⟨h.nd,h.kb,h.pt,h.q,fun x hx nx t y hg=>?_⟩
 by_cases c:x=p
 ·subst c;rcases Pw hg with z | ⟨u,hu,e⟩
  ·rw[z];exact hx
  ·rw[<- e];exact h.t u hu
 ·exact h.cl x hx nx c t y hg
theorem Tt {es:List Br}{b:Nat}{s:WS × List Nat}(h:WI es b s):WI es b (kI es s):=by
 unfold kI
 by_cases c:s.2=[]
 ·rw[if_pos c];exact h
 ·rw[if_neg c];have:=zM (stF es (s.2.getLastD 0)) [] (uK h c) fun t ht=>kS ht;rw[nil_append] at this;exact Yh this
theorem jZ (es:List Br)(b:Nat):∀n,WI es b (cG es b n)
 |0=>Mw es b
 |n+1=>Tt (jZ es b n)
def muF (s:WS × List Nat):Nat:=2*(20 - s.1.length)+s.2.length
structure Ptm (m:Nat) (es:List Br):Prop where
 p:∀e∈es,e.2.1 < m/\e.2.2 < m
theorem qc8 {m:Nat}{es:List Br}{b:Nat}(h:Ptm m es)(hb:b < m){st:List Stp}{x:Nat}{pts:List Nat}(p:Pt es b st x pts):x < m:=by
 cases p with
 |nil=>exact hb
 |snoc _ g _=>
  obtain⟨u,v,he,g⟩:=g;have:=h.p _ he;rcases g with ⟨_,_,rfl⟩ | ⟨_,_,rfl⟩
  ·exact this.2
  ·exact this.1
theorem zP {m:Nat}{es:List Br}{b:Nat}(h:Ptm m es)(hb:b < m){w:WS}(pt:∀x st,(x,st)∈w->∃pts,Pt es b st x pts/\∀y∈pts,y∈cF w):∀x∈cF w,x < m:=fun x hx=>by
 obtain⟨st,e⟩:=pG hx;obtain⟨pts,p,_⟩:=pt x st (gX e);exact qc8 h hb p
theorem Nz {m:Nat}{es:List Br}{b:Nat}(h:Ptm m es)(hb:b < m){w:WS}(nd:(cF w).Nodup)(pt:∀x st,(x,st)∈w->∃pts,Pt es b st x pts/\∀y∈pts,y∈cF w):w.length<=m:=by
 have:=Ip nd (zP h hb pt);unfold cF at this
 rwa [length_map] at this
theorem qc0 {es:List Br}{b p m:Nat}{T:List (Stp × Nat)}{s:WS × List Nat}{t:Stp × Nat}(hm:Ptm m es)(hb:b < m)(h20:m<=20)(h:WJ es b p T s)(g:oJ es t.1 p t.2):muF (inF p s t)<=muF s:=by
 have h':=Iq h g;have le:=Nz hm hb h'.nd h'.pt;unfold inF at le ⊢
 by_cases c:t.2∈cF s.1
 ·rw[if_pos c];exact Nat.le_refl _
 ·rw[if_neg c] at le ⊢;unfold muF;simp only[length_append,length_cons,length_nil] at le ⊢;lia
theorem Ah {es:List Br}{b p m:Nat}(hm:Ptm m es)(hb:b < m)(h20:m<=20):∀(U T:List (Stp × Nat)) {s:WS × List Nat},WJ es b p T s->(∀t∈U,oJ es t.1 p t.2)->muF (U.foldl (inF p) s)<=muF s
 | [],_,_,_,_=>Nat.le_refl _
 |u :: U,T,s,h,g=>Nat.le_trans (Ah hm hb h20 U (T++[u]) (Iq h (g u (by simp))) fun t ht=>g t (mem_cons_of_mem _ ht)) (qc0 hm hb h20 h (g u (by simp)))
theorem Dm {s:WS × List Nat}(h:s.2≠[]):muF (s.1,s.2.dropLast)+1=muF s:=by
 have:0 < s.2.length:=length_pos_iff.mpr h;show 2*(20 - s.1.length)+s.2.dropLast.length+1=2*(20 - s.1.length)+s.2.length;rw[length_dropLast];lia
theorem Go {es:List Br}{b m:Nat}{s:WS × List Nat}(hm:Ptm m es)(hb:b < m)(h20:m<=20)(h:WI es b s)(hq:s.2≠[]):muF (kI es s)+1<=muF s:=by
 unfold kI;rw[if_neg hq];have:=Ah hm hb h20 (stF es (s.2.getLastD 0)) [] (uK h hq) fun t ht=>kS ht;have e:=Dm hq;lia
theorem wP {es:List Br}{b:Nat}{i:Nat}(h:(cG es b i).2=[]):∀n,cG es b (i+n)=cG es b i
 |0=>rfl
 |n+1=>by
  show kI es (cG es b (i+n))=_;rw[wP h n];unfold kI;rw[if_pos h]
theorem Rk {es:List Br}{b i:Nat}(h:(cG es b i).2=[])(hi:i<=60):(cG es b 60).1=(cG es b i).1:=by
 have:=wP h (60 - i);rw[show i+(60 - i)=60 by lia] at this;rw[this]
theorem pX {es:List Br}{b m:Nat}(hm:Ptm m es)(hb:b < m)(h20:m<=20):∀n,(cG es b n).2=[]\/n+muF (cG es b n)<=39
 |0=>.inr (by show 0+(2*(20 - 1)+1)<=39;lia)
 |n+1=>by
  by_cases c:(cG es b n).2=[]
  ·refine .inl ?_;show (kI es (cG es b n)).2=[]
   unfold kI;rw[if_pos c];exact c
  ·rcases pX hm hb h20 n with z | z
   ·exact absurd z c
   ·have:=Go hm hb h20 (jZ es b n) c;refine .inr ?_;show n+1+muF (kI es (cG es b n))<=39;lia
theorem Qh {es:List Br}{b m:Nat}(hm:Ptm m es)(hb:b < m)(h20:m<=20):(cG es b 60).2=[]:=by
 rcases pX hm hb h20 60 with z | z
 ·exact z
 ·lia
def rE (es:List Br):List RD:=es.map fun e=>(.pc,(e.2.1:Int),(e.2.2:Int),(0,1))
theorem vL {m:Nat}{es:List Br}(h:Ptm m es):∀d∈rE es,dC (m:Int) d.2.1 d.2.2.1:=fun d hd=>by
 obtain⟨e,he,rfl⟩:=mem_map.mp hd;have:=h.p e he;exact⟨by show (0:Int)<=(e.2.1:Int);lia,by show ((e.2.1:Nat):Int) < m;lia,by show (0:Int)<=(e.2.2:Int);lia,by show ((e.2.2:Nat):Int) < m;lia⟩
theorem Sq {m:Nat}{es:List Br}(h:Ptm m es){s:Stp}{p q:Nat}(g:oJ es s p q):mk m (rE es) q=mk m (rE es) p:=by
 obtain⟨u,v,he,g⟩:=g;have e:=sY _ (rE es) rfl (vL h) (.pc,(u:Int),(v:Int),(0,1)) (mem_map.mpr ⟨_,he,rfl⟩) (by intro z;cases z);rw[Int.toNat_natCast,Int.toNat_natCast] at e;rcases g with ⟨_,rfl,rfl⟩ | ⟨_,rfl,rfl⟩
 ·exact e.symm
 ·exact e
theorem qc1 {m:Nat}{es:List Br}{b:Nat}(h:Ptm m es){st:List Stp}{x:Nat}{pts:List Nat}(p:Pt es b st x pts):mk m (rE es) x=mk m (rE es) b:=by
 induction p with
 |nil=>rfl
 |snoc _ g _ ih=>rw[Sq h g,ih]
theorem Rv {m:Nat}{es:List Br}{b e:Nat}(h:Ptm m es)(h20:m<=20)(hb:b < m)(he:e < m):(tY es b e).isSome=true↔mk m (rE es) e=mk m (rE es) b:=by
 have wi:=jZ es b 60;have q0:=Qh h hb h20;unfold tY;rw[Nh];refine Jg (vL h) hb wi.kb (fun p hp=>⟨zP h hb wi.pt p hp,?_⟩) (fun d hd _=>?_) he
 ·obtain⟨st,e'⟩:=pG hp;obtain⟨pts,pp,_⟩:=wi.pt p st (gX e');exact qc1 h pp
 ·obtain⟨a,ha,rfl⟩:=mem_map.mp hd;show ((a.2.1:Int).toNat∈_↔(a.2.2:Int).toNat∈_);rw[Int.toNat_natCast,Int.toNat_natCast];exact⟨fun z=>wi.cl _ z (by rw[q0];simp) (a.1,1) _ ⟨a.2.1,a.2.2,ha,.inl ⟨rfl,rfl,rfl⟩⟩,fun z=>wi.cl _ z (by rw[q0];simp) (a.1,-1) _ ⟨a.2.1,a.2.2,ha,.inr ⟨rfl,rfl,rfl⟩⟩⟩
structure vV (es:List Br) (b e:Nat) (st:List Stp) (pts:List Nat):Prop where
 l:pts.length=st.length+1
 hb:pts[0]?=some b
 he:pts[st.length]?=some e
 g:∀i s,st[i]?=some s->∃p q,pts[i]?=some p/\pts[i+1]?=some q/\oJ es s p q
 n:(st.map (·.1)).Nodup
theorem Tj {es:List Br}{b x:Nat}{st:List Stp}{pts:List Nat}(p:Pt es b st x pts):∀s∈st,∃y z,y∈pts/\z∈pts/\oJ es s y z:=by
 induction p with
 |nil=>intro s h;cases h
 | @snoc st p q pts s h g n ih=>
  intro t ht;rcases mem_append.mp ht with z | z
  ·obtain⟨y,z',h1,h2,h3⟩:=ih t z;exact⟨y,z',mem_append_left _ h1,mem_append_left _ h2,h3⟩
  ·have:t=s:=by simpa using z
   subst this;refine⟨p,q,mem_append_left _ ?_,by simp,g⟩
   cases h with
   |nil=>simp
   |snoc _ _ _=>simp
theorem Jj {es:List Br}{b x:Nat}{st:List Stp}{pts:List Nat}(ne:(es.map (·.1)).Nodup)(p:Pt es b st x pts):vV es b x st pts:=by
 induction p with
 |nil=>exact⟨rfl,rfl,rfl,fun i s h=>by simp at h,by simp⟩
 | @snoc st p q pts s h g n ih=>
  have l:=ih.l;refine⟨by rw[length_append,length_append,l];rfl,?_,?_,fun i t ht=>?_,?_⟩
  ·rw[getElem?_append_left (by lia)];exact ih.hb
  ·rw[length_append,getElem?_append_right (by simp;lia)];simp only[length_cons,length_nil];rw[show st.length+(0+1) - pts.length=0 by lia];rfl
  ·by_cases c:i < st.length
   ·rw[getElem?_append_left c] at ht;obtain⟨y,z,h1,h2,h3⟩:=ih.g i t ht;exact⟨y,z,by rw[getElem?_append_left (by lia)];exact h1,by rw[getElem?_append_left (by lia)];exact h2,h3⟩
   ·have hi:i=st.length:=by
     have:=(List.getElem?_eq_some_iff.mp ht).1;simp only[length_append,length_cons,length_nil] at this;lia
    subst hi;rw[getElem?_append_right (Nat.le_refl _),Nat.sub_self] at ht;have:s=t:=by simpa using ht
    subst this;refine⟨p,q,by rw[getElem?_append_left (by lia)];exact ih.he,?_,g⟩;rw[getElem?_append_right (by lia),show st.length+1 - pts.length=0 by lia];rfl
  ·rw[map_append,nodup_append];refine⟨ih.n,by simp,fun a ha c hc z=>?_⟩;have hc:c=s.1:=by simpa using hc
   obtain⟨t,ht,et⟩:=mem_map.mp ha;obtain⟨y,w,h1,h2,u',v',he',g'⟩:=Tj h t ht;obtain⟨u,v,he,g⟩:=g;have same:(t.1,u',v')=(s.1,u,v):=by
    have key:∀{l:List Br},(l.map (·.1)).Nodup->∀{a c:Br},a∈l->c∈l->a.1=c.1->a=c:=fun {l}=>by
     induction l with
     |nil=>intro _ a c h;cases h
     |cons x l ih=>
      intro nd a c ha hc e;rw[map_cons,nodup_cons] at nd;rcases mem_cons.mp ha with rfl | z1<;>rcases mem_cons.mp hc with rfl | z2
      ·rfl
      ·exact absurd (mem_map.mpr ⟨c,z2,e.symm⟩) nd.1
      ·exact absurd (mem_map.mpr ⟨a,z1,e⟩) nd.1
      ·exact ih nd.2 z1 z2 e
    exact key ne he' he (by show t.1=s.1;rw[et,z,hc])
   have e1:u'=u:=by injection same with _ e;injection e
   have e2:v'=v:=by injection same with _ e;injection e
   subst e1;subst e2;rcases g with ⟨_,rfl,rfl⟩ | ⟨_,rfl,rfl⟩<;>rcases g' with ⟨_,rfl,rfl⟩ | ⟨_,rfl,rfl⟩
   ·exact n h2
   ·exact n h1
   ·exact n h1
   ·exact n h2
theorem Jx {es:List Br}{b e:Nat}{st:List Stp}(ne:(es.map (·.1)).Nodup)(h:tY es b e=some st):∃pts,vV es b e st pts:=by
 obtain⟨pts,p,_⟩:=(jZ es b 60).pt e st (gX h);exact⟨pts,Jj ne p⟩
theorem yE {m:Nat}{es:List Br}{b e:Nat}{st:List Stp}(hm:Ptm m es)(hb:b < m)(h:tY es b e=some st):st.length < m:=by
 obtain⟨pts,p,k⟩:=(jZ es b 60).pt e st (gX h);have l:pts.length=st.length+1:=by
  clear h
  induction p with
  |nil=>rfl
  |snoc h g n ih=>rw[length_append,length_append,ih fun y hy=>k y (mem_append_left _ hy)];rfl
 have nd:pts.Nodup:=by
  clear h k l
  induction p with
  |nil=>simp
  |snoc h g n ih=>
   rw[nodup_append];refine⟨ih,by simp,fun x hx y hy z=>n ?_⟩;rw[mem_singleton] at hy;rw[<- hy,<- z];exact hx
 have:=Ip nd fun y hy=>zP hm hb (jZ es b 60).pt y (k y hy);lia
abbrev Sk:=Kd × Nat × Nat
def skl (ds:List RD):List Sk:=ds.map fun d=>(d.1,d.2.1.toNat,d.2.2.1.toNat)
abbrev RS:=List Br × List (Nat × List Stp)
def jA (W:Kd->Bool)(s:RS)(k:Nat)(d:Sk):RS:=if W d.1 then (match tY s.1 d.2.2 d.2.1 with
 |none=>(s.1++[(k,d.2.1,d.2.2)],s.2)
 |some st=>(s.1,s.2++[(k,(k,1) :: st)])) else s
def fA (W:Kd->Bool)(sk:List Sk):Nat->RS
 |0=>([],[])
 |n+1=>match sk[n]? with
  |none=>fA W sk n
  |some d=>jA W (fA W sk n) n d
theorem iV {W:Kd->Bool}{sk:List Sk}{n:Nat}{d:Sk}(h:sk[n]?=some d):fA W sk (n+1)=jA W (fA W sk n) n d:=by
 show (match sk[n]? with | none=>fA W sk n | some d=>jA W (fA W sk n) n d)=_;rw[h]
structure RI (W:Kd->Bool) (sk:List Sk) (m n:Nat) (s:RS):Prop where
 pt:Ptm m s.1
 nd:(s.1.map (·.1)).Nodup
 lt:∀e∈s.1,e.1 < n
 at_:∀e∈s.1,∃k,sk[e.1]?=some (k,e.2.1,e.2.2)
 rl:s.2.length<=n
 r:∀c∈s.2,c.1 < n/\∃k u v st pts,sk[c.1]?=some (k,u,v)/\c.2=(c.1,1) :: st/\(∀t∈st,t.1 < c.1/\t.1∈s.1.map (·.1))/\vV s.1 v u st pts/\st.length < m
theorem vV.mono {es es':List Br}{b e:Nat}{st:List Stp}{pts:List Nat}(h:vV es b e st pts)(hs:∀x∈es,x∈es'):vV es' b e st pts:=
 { h with g:=fun i s hi=>let ⟨p,q,h1,h2,u,v,h3,h4⟩:=h.g i s hi;⟨p,q,h1,h2,u,v,hs _ h3,h4⟩ }
theorem Ln {es:List Br}{b e:Nat}{st:List Stp}{pts:List Nat}(h:vV es b e st pts):∀t∈st,t.1∈es.map (·.1):=fun t ht=>by
 obtain⟨i,hi⟩:=getElem?_of_mem ht;obtain⟨p,q,_,_,u,v,h3,_⟩:=h.g i t hi;exact mem_map.mpr ⟨_,h3,rfl⟩
theorem uR {W:Kd->Bool}{sk:List Sk}{m:Nat}(hm:∀d∈sk,d.2.1 < m/\d.2.2 < m):∀n,n<=sk.length->RI W sk m n (fA W sk n)
 |0,_=>⟨⟨fun e h=>(by cases h)⟩,(by show ([]:List Nat).Nodup;simp),fun e h=>(by cases h),fun e h=>(by cases h),Nat.le_refl _,fun c h=>(by cases h)⟩
 |n+1,hn=>by
  have ih:=uR (W:=W) hm n (by lia);have hd:sk[n]?=some sk[n]:=getElem?_eq_getElem (by lia);rw[iV hd];have pm:=hm _ (mem_of_getElem? hd);generalize sk[n]=d at hd pm;generalize fA W sk n=s at ih;unfold jA
  by_cases hw:W d.1=true
  ·rw[if_pos hw]
   cases hy:tY s.1 d.2.2 d.2.1 with
   |none=>
    show RI W sk m (n+1) (s.1++[(n,d.2.1,d.2.2)],s.2);refine⟨⟨fun e he=>?_⟩,?_,fun e he=>?_,fun e he=>?_,by have:=ih.rl;show s.2.length<=n+1;lia,fun c hc=>?_⟩
    ·rcases mem_append.mp he with z | z
     ·exact ih.pt.p e z
     ·have:e=(n,d.2.1,d.2.2):=by simpa using z
      rw[this];exact pm
    ·show ((s.1++[(n,d.2.1,d.2.2)]).map (·.1)).Nodup;rw[map_append,nodup_append];refine⟨ih.nd,by simp,fun x hx y hy z=>?_⟩;have:y=n:=by simpa using hy
     obtain⟨e,he,ee⟩:=mem_map.mp hx;have:=ih.lt e he;lia
    ·rcases mem_append.mp he with z | z
     ·have:=ih.lt e z;lia
     ·have:e=(n,d.2.1,d.2.2):=by simpa using z
      rw[this];exact Nat.lt_succ_self n
    ·rcases mem_append.mp he with z | z
     ·exact ih.at_ e z
     ·have:e=(n,d.2.1,d.2.2):=by simpa using z
      rw[this];exact⟨d.1,hd⟩
    ·obtain⟨h1,k,u,v,st,pts,h2,h3,h4,h5,h6⟩:=ih.r c hc;refine⟨by lia,k,u,v,st,pts,h2,h3,fun t ht=>⟨(h4 t ht).1,?_⟩,h5.mono fun x hx=>mem_append_left _ hx,h6⟩;show t.1∈(s.1++[(n,d.2.1,d.2.2)]).map (·.1);rw[map_append];exact mem_append_left _ (h4 t ht).2
   |some st=>
    show RI W sk m (n+1) (s.1,s.2++[(n,(n,1) :: st)]);refine⟨ih.pt,ih.nd,fun e he=>Nat.lt_succ_of_lt (ih.lt e he),ih.at_,by have:=ih.rl;show (s.2++[(n,(n,1) :: st)]).length<=n+1;rw[length_append];simp only[length_cons,length_nil];lia,fun c hc=>?_⟩;rcases mem_append.mp hc with z | z
    ·obtain⟨h1,r⟩:=ih.r c z;exact⟨by lia,r⟩
    ·have:c=(n,(n,1) :: st):=by simpa using z
     subst this;obtain⟨pts,ch⟩:=Jx ih.nd hy;refine⟨Nat.lt_succ_self n,d.1,d.2.1,d.2.2,st,pts,hd,rfl,fun t ht=>?_,ch,yE ih.pt pm.2 hy⟩;have ti:=Ln ch t ht;obtain⟨e,he,ee⟩:=mem_map.mp ti;have:=ih.lt e he;exact⟨by show t.1 < n;lia,ti⟩
  ·rw[if_neg hw];exact⟨ih.pt,ih.nd,fun e he=>Nat.lt_succ_of_lt (ih.lt e he),ih.at_,by have:=ih.rl;lia,fun c hc=>let ⟨h1,r⟩:=ih.r c hc;⟨by lia,r⟩⟩
theorem SqT.updD {K:Frag}{H:Hp}{a l:Addr}{xs:List V}{kvs:List (Key × V)}{o:HO}(h:SqT K H a xs)(hl:H l=some (.dK kvs)):SqT K (L2.upd H l o) a xs:=by
 rcases h with (h | ⟨u,h⟩) | h
 ·exact .inl (.inl (by rw[aY (dD h hl (fun z=>by cases z))];exact h))
 ·exact .inl (.inr ⟨u,by rw[aY (dD h hl (fun z=>by cases z))];exact h⟩)
 ·exact .inr h
inductive Sts (K:Frag) (H:Hp):List V->List Stp->Prop where
 |nil:Sts K H [] []
 |cons {t:Addr} {n:Nat} {w:Int} {xs:List V} {st:List Stp} (h:SqT K H t [.int (n:Int),.int w]) (q:Sts K H xs st):Sts K H (.ref t :: xs) ((n,w) :: st)
section
variable {K:Frag} {H H':Hp}
theorem Sts.same (e:bC H H'):∀{xs:List V} {st:List Stp},Sts K H xs st->Sts K H' xs st
 |_,_,.nil=>.nil
 |_,_,.cons h q=>.cons (e.seqT h) (Sts.same e q)
theorem Sts.length:∀{xs:List V} {st:List Stp},Sts K H xs st->xs.length=st.length
 |_,_,.nil=>rfl
 |_,_,.cons _ q=>by simp[Sts.length q]
theorem Sts.app:∀{xs ys:List V} {st su:List Stp},Sts K H xs st->Sts K H ys su->Sts K H (xs++ys) (st++su)
 |_,_,_,_,.nil,r=>r
 |_,_,_,_,.cons h q,r=>.cons h (Sts.app q r)
theorem Sts.upd {l:Addr}{ys:List V}{o:HO}(hl:H l=some (.lst ys)):∀{xs:List V} {st:List Stp},Sts K H xs st->Sts K (L2.upd H l o) xs st
 |_,_,.nil=>.nil
 |_,_,.cons h q=>.cons (SqT.upd h hl) (Sts.upd hl q)
theorem Sts.updD {l:Addr}{kvs:List (Key × V)}{o:HO}(hl:H l=some (.dK kvs)):∀{xs:List V} {st:List Stp},Sts K H xs st->Sts K (L2.upd H l o) xs st
 |_,_,.nil=>.nil
 |_,_,.cons h q=>.cons (SqT.updD h hl) (Sts.updD hl q)
end
inductive Sds (K:Frag) (H:Hp):List V->List (Stp × Nat)->Prop where
 |nil:Sds K H [] []
 |cons {t s:Addr} {n x:Nat} {w:Int} {xs:List V} {st:List (Stp × Nat)} (h:SqT K H t [.ref s,.int (x:Int)]) (g:SqT K H s [.int (n:Int),.int w]) (q:Sds K H xs st):Sds K H (.ref t :: xs) (((n,w),x) :: st)
section
variable {K:Frag} {H H':Hp}
theorem Sds.same (e:bC H H'):∀{xs:List V} {st:List (Stp × Nat)},Sds K H xs st->Sds K H' xs st
 |_,_,.nil=>.nil
 |_,_,.cons h g q=>.cons (e.seqT h) (e.seqT g) (Sds.same e q)
theorem Sds.length:∀{xs:List V} {st:List (Stp × Nat)},Sds K H xs st->xs.length=st.length
 |_,_,.nil=>rfl
 |_,_,.cons _ _ q=>by simp[Sds.length q]
theorem Sds.app:∀{xs ys:List V} {st su:List (Stp × Nat)},Sds K H xs st->Sds K H ys su->Sds K H (xs++ys) (st++su)
 |_,_,_,_,.nil,r=>r
 |_,_,_,_,.cons h g q,r=>.cons h g (Sds.app q r)
theorem Sds.get:∀{xs:List V} {st:List (Stp × Nat)} {i:Nat} {x:V},Sds K H xs st->xs[i]?=some x->∃t u s,x=.ref t/\st[i]?=some s/\SqT K H t [.ref u,.int (s.2:Int)]/\SqT K H u [.int (s.1.1:Int),.int s.1.2]
 |_,_,_,_,.nil,h=>by simp at h
 |_,_,0,_,.cons h g _,e=>by simp at e;subst e;exact⟨_,_,_,rfl,rfl,h,g⟩
 |_,_,i+1,_,.cons _ _ q,e=>by simpa using Sds.get q (by simpa using e)
theorem Sds.upd {l:Addr}{ys:List V}{o:HO}(hl:H l=some (.lst ys)):∀{xs:List V} {st:List (Stp × Nat)},Sds K H xs st->Sds K (L2.upd H l o) xs st
 |_,_,.nil=>.nil
 |_,_,.cons h g q=>.cons (SqT.upd h hl) (SqT.upd g hl) (Sds.upd hl q)
theorem Sds.updD {l:Addr}{kvs:List (Key × V)}{o:HO}(hl:H l=some (.dK kvs)):∀{xs:List V} {st:List (Stp × Nat)},Sds K H xs st->Sds K (L2.upd H l o) xs st
 |_,_,.nil=>.nil
 |_,_,.cons h g q=>.cons (SqT.updD h hl) (SqT.updD g hl) (Sds.updD hl q)
end
inductive Wys (K:Frag) (H0:Hp) (W:Addr) (H:Hp):List (Key × V)->WS->Prop where
 |nil:Wys K H0 W H [] []
 |cons {a:Addr} {x:Nat} {xs:List V} {st:List Stp} {kvs:List (Key × V)} {w:WS} (n:H0 a=none) (nw:a≠W) (h:H a=some (.lst xs)) (f:Sts K H xs st) (q:Wys K H0 W H kvs w):Wys K H0 W H ((Sum.inl (x:Int),.ref a) :: kvs) ((x,st) :: w)
section
variable {K:Frag} {H0 H H':Hp} {W:Addr}
theorem Wys.same (e:bC H H'):∀{kvs:List (Key × V)} {w:WS},Wys K H0 W H kvs w->Wys K H0 W H' kvs w
 |_,_,.nil=>.nil
 |_,_,.cons n nw h f q=>.cons n nw (e _ _ h) (f.same e) (Wys.same e q)
theorem Wys.updW {ys:List V}{o:HO}(hl:H W=some (.lst ys)):∀{kvs:List (Key × V)} {w:WS},Wys K H0 W H kvs w->Wys K H0 W (L2.upd H W o) kvs w
 |_,_,.nil=>.nil
 |_,_,.cons n nw h f q=>.cons n nw (by rw[aY nw];exact h) (f.upd hl) (Wys.updW hl q)
theorem Wys.updD {D:Addr}{kv:List (Key × V)}{o:HO}(hl:H D=some (.dK kv)):∀{kvs:List (Key × V)} {w:WS},Wys K H0 W H kvs w->Wys K H0 W (L2.upd H D o) kvs w
 |_,_,.nil=>.nil
 |_,_,.cons n nw h f q=>.cons n nw (by rw[aY (dD h hl (fun z=>by cases z))];exact h) (f.updD hl) (Wys.updD hl q)
theorem Wys.length:∀{kvs:List (Key × V)} {w:WS},Wys K H0 W H kvs w->kvs.length=w.length
 |_,_,.nil=>rfl
 |_,_,.cons _ _ _ _ q=>by simp[Wys.length q]
theorem Wys.snoc {a:Addr}{x:Nat}{xs:List V}{st:List Stp}(n:H0 a=none)(nw:a≠W)(h:H a=some (.lst xs))(f:Sts K H xs st):∀{kvs:List (Key × V)} {w:WS},Wys K H0 W H kvs w->Wys K H0 W H (kvs++[(Sum.inl (x:Int),.ref a)]) (w++[(x,st)])
 |_,_,.nil=>.cons n nw h f .nil
 |_,_,.cons n' nw' h' f' q=>.cons n' nw' h' f' (Wys.snoc n nw h f q)
theorem Wys.none_ {p:Nat}:∀{kvs:List (Key × V)} {w:WS},Wys K H0 W H kvs w->p∉cF w->pK kvs (Sum.inl (p:Int))=none/\(kvs.any fun kv=>decide (kv.1=Sum.inl (p:Int)))=false
 |_,_,.nil,_=>⟨rfl,rfl⟩
 |_,_,.cons (x:=x) (kvs:=kvs) (w:=w) n nw h f q,hp=>by
  have hx:x≠p:=fun z=>hp (by rw[<- z];exact mem_cons_self ..);obtain⟨h1,h2⟩:=Wys.none_ q fun z=>hp (mem_cons_of_mem _ z);refine⟨by rw[lP (fun z=>hx (Int.ofNat.inj (Sum.inl.inj z)))];exact h1,?_⟩;rw[any_cons,h2];have e:decide ((Sum.inl (x:Int):Key)=Sum.inl (p:Int))=false:=decide_eq_false fun z=>hx (Int.ofNat.inj (Sum.inl.inj z));show (decide ((Sum.inl (x:Int):Key)=Sum.inl (p:Int)) || false)=false;rw[e];rfl
theorem Wys.some_ {p:Nat}:∀{kvs:List (Key × V)} {w:WS},Wys K H0 W H kvs w->p∈cF w->∃a xs st,pK kvs (Sum.inl (p:Int))=some (.ref a)/\pU w p=some st/\H0 a=none/\a≠W/\H a=some (.lst xs)/\Sts K H xs st
 |_,_,.nil,h=>by cases h
 |_,_,.cons (a:=a) (x:=x) (xs:=xs) (st:=st) (kvs:=kvs) (w:=w) n nw h f q,hp=>by
  by_cases c:x=p
  ·subst c;exact⟨a,xs,st,by rw[pF rfl],by unfold pU;rw[if_pos rfl],n,nw,h,f⟩
  ·have hp':p∈cF w:=by
    rcases mem_cons.mp hp with z | z
    ·exact absurd z.symm c
    ·exact z
   obtain⟨a',xs',st',h1,h2,r⟩:=Wys.some_ q hp';exact⟨a',xs',st',by rw[lP (fun z=>c (Int.ofNat.inj (Sum.inl.inj z)))];exact h1,by unfold pU;rw[if_neg c];exact h2,r⟩
theorem Wys.isSome {p:Nat}{kvs:List (Key × V)}{w:WS}(h:Wys K H0 W H kvs w):(pK kvs (Sum.inl (p:Int))).isSome=decide (p∈cF w):=by
 by_cases c:p∈cF w
 ·obtain⟨a,xs,st,e,_⟩:=h.some_ c;rw[e,decide_eq_true c];rfl
 ·rw[(h.none_ c).1,decide_eq_false c];rfl
end
structure Rgs (K:Frag) (H0 H:Hp) (us:List V) (X:List (List Stp)):Prop where
 l:us.length=X.length
 r:∀(i:Nat) (x:V) (st:List Stp),us[i]?=some x->X[i]?=some st->∃(a:Addr) (xs:List V),x=.ref a/\H0 a=none/\H a=some (.lst xs)/\Sts K H xs st
theorem Rgs.nil {K:Frag}{H0 H:Hp}:Rgs K H0 H [] []:=⟨rfl,fun i x st h=>by simp at h⟩
theorem Rgs.same {K:Frag}{H0 H H':Hp}{us:List V}{X:List (List Stp)}(e:bC H H')(f:Rgs K H0 H us X):Rgs K H0 H' us X:=⟨f.l,fun i x st h1 h2=>let ⟨a,xs,e1,n,h,s⟩:=f.r i x st h1 h2;⟨a,xs,e1,n,e _ _ h,s.same e⟩⟩
theorem Rgs.snoc {K:Frag}{H0 H:Hp}{us:List V}{X:List (List Stp)}{a:Addr}{xs:List V}{st:List Stp}(f:Rgs K H0 H us X)(n:H0 a=none)(h:H a=some (.lst xs))(s:Sts K H xs st):Rgs K H0 H (us++[.ref a]) (X++[st]):=by
 refine⟨by rw[length_append,length_append,f.l];rfl,fun i x qs h1 h2=>?_⟩;have l:=f.l
 by_cases c:i < us.length
 ·rw[getElem?_append_left c] at h1;rw[getElem?_append_left (by lia)] at h2;exact f.r i x qs h1 h2
 ·have hi:i=us.length:=by
   have:=(List.getElem?_eq_some_iff.mp h1).1;rw[length_append] at this;simp only[length_cons,length_nil] at this;lia
  subst hi;rw[getElem?_append_right (Nat.le_refl _),Nat.sub_self] at h1;rw[getElem?_append_right (by lia),show us.length - X.length=0 by lia] at h2
  cases h1
  cases h2
  exact⟨a,xs,rfl,n,h,s⟩
theorem Rgs.updO {K:Frag}{H0 H:Hp}{us:List V}{X:List (List Stp)}{l:Addr}{ys:List V}{o:HO}(f:Rgs K H0 H us X)(hl:H l=some (.lst ys))(n:∀x∈us,x≠.ref l):Rgs K H0 (upd H l o) us X:=⟨f.l,fun i x st h1 h2=>let ⟨a,xs,e1,n1,h,s⟩:=f.r i x st h1 h2;⟨a,xs,e1,n1,by rw[aY (fun z=>n x (mem_of_getElem? h1) (by rw[e1,z]))];exact h,s.upd hl⟩⟩
def Yl (ds:List RD)(es:List Br):Prop:=∀e∈es,∃d,ds[e.1]?=some d/\d.2.1=(e.2.1:Int)/\d.2.2.1=(e.2.2:Int)
def Hj (K:Frag)(CK:Kd->Addr):Sp:=fun vs H Q _=>∃(a b:Addr) (xs:List V) (ds:List RD) (es:List Br) (p:Nat),vs=[.ref a,.ref b,.int (p:Int)]/\SqL K H a xs/\gQ CK K H xs ds/\SqL K H b (es.map fun e=>V.int (e.1:Int))/\Yl ds es/\es.length<=100/\∀l ys H',bC H H'->H l=none->H' l=some (.lst ys)->Sds K H' ys (stF es p)->Q (.ref l) H'
def Uw (K:Frag)(CK:Kd->Addr):Sp:=fun vs H Q _=>∃(a b:Addr) (xs:List V) (ds:List RD) (es:List Br) (m f t:Nat),vs=[.ref a,.ref b,.int (f:Int),.int (t:Int)]/\SqL K H a xs/\gQ CK K H xs ds/\SqL K H b (es.map fun e=>V.int (e.1:Int))/\Yl ds es/\es.length<=100/\Ptm m es/\m<=20/\f < m/\
 (tY es f t=none->∀H',bC H H'->Q .non H')/\∀st,tY es f t=some st->∀l ys H',bC H H'->H l=none->H' l=some (.lst ys)->Sts K H' ys st->Q (.ref l) H'
inductive Wds (K:Frag) (H:Hp):V->(Kd->Bool)->Prop where
 |non:Wds K H .non (fun k=>decide (k≠.pu))
 |seq {a:Addr} {ws:List V} (h:SqL K H a ws) (f:ws.all nH=true):Wds K H (.ref a) (fun k=>inV (.str k.wd) ws)
def He (CN:Addr)(K:Frag):Sp:=fun vs H Q _=>∃(n l:Addr) (v:V) (m:Nat) (ds:List RD) (W:Kd->Bool),vs=[.ref n,v]/\dH CN K H n l (m:Int) ds/\(∀d∈ds,dC (m:Int) d.2.1 d.2.2.1)/\m<=20/\ds.length<=40/\Wds K H v W/\∀r us H',bC H H'->H r=none->H' r=some (.lst us)->Rgs K H H' us ((fA W (skl ds) ds.length).2.map (·.2))->(∀x∈us,x≠.ref r)->Q (.ref r) H'
end L2
namespace Mq
def KJ (m:Nat)(A1:Mat)(R:List (List Int)):Prop:=∀Φ,Lin Φ->(∀i,i < m->Φ (A1 i)=0)->∀k,k < m->Φ (at2 R k)=0
theorem KJ.swap {m:Nat}{A1:Mat}{R:List (List Int)}(h:KJ m A1 R)(hl:R.length=m){p r:Nat}(hp:p < m)(hr:r < m):KJ m A1 (fD R p r):=fun Φ lin hz k hk=>by
 have e:at2 (fD R p r) k=at2 R (sw p r k):=by
  funext x
  rw[qU (by lia) (by lia)]
 rw[e];exact h Φ lin hz _ (Ae hp hr hk)
theorem KJ.clear {m w:Nat}{A0 A1:Mat}{R:List (List Int)}{r col:Nat}{d sg:Int}(h:KJ m A1 R)(s:SI m w A0 R r col d sg)(hr:r < m)(hc:col < w)(he:ent R r col≠0):KJ m A1 (cN R r col d):=fun Φ lin hz k hk=>by
 have cl:=fun (x:Nat)=>rT s hr hc he hk x;have z:=h Φ lin hz
 by_cases e:k=r
 ·have e2:at2 (cN R r col d) k=at2 R k:=by funext x;rw[cl x,if_pos e]
  rw[e2];exact z k hk
 ·have e2:at2 (cN R r col d) k=fun x=>(fun x=>(at2 R r col / (d:Rat))*at2 R k x) x+(-(at2 R k col / (d:Rat)))*at2 R r x:=by
   funext x
   show _=(at2 R r col / (d:Rat))*at2 R k x+_;rw[cl x,if_neg e];grind
  rw[e2,lin,lin.mul,z k hk,z r hr];grind
theorem KJ.whole {m w:Nat}{A0 A1:Mat}{R:List (List Int)}{d sg:Int}(h:KJ m A1 R)(s:SI m w A0 R m m d sg){v:Nat->Rat}(hv:∀i,i < m->(rs m fun k=>A1 i k*v k)=A1 i m){k:Nat}(hk:k < m):at2 R k m / (d:Rat)=v k:=by
 obtain⟨A,c,B,e⟩:=s.bar;have dn:=B.dne;have:=h (fun f=>(rs m fun k=>f k*v k) - f m) (fun x y l=>by
  have:(rs m fun k=>(x k+l*y k)*v k)=(rs m fun k=>x k*v k+l*(y k*v k)):=aS fun k _=>by grind
  show (rs m fun k=>(x k+l*y k)*v k) - (x m+l*y m)=((rs m fun k=>x k*v k) - x m)+l*((rs m fun k=>y k*v k) - y m)
  rw[this,dG,eX];grind) (fun i hi=>by
  show (rs m fun k=>A1 i k*v k) - A1 i m=0;rw[hv i hi];grind) k hk
 have e1:(rs m fun j=>at2 R k j*v j)=rs m fun j=>if j=k then (d:Rat)*v k else 0:=aS fun j hj=>by
  have i2:=B.i2 k j hk hj;rw[B.full rfl j hj] at i2;rw[i2]
  by_cases z:j=k
  ·rw[if_pos z,if_pos z,z]
  ·rw[if_neg z,if_neg z];grind
 have e2:(rs m fun j=>at2 R k j*v j) - at2 R k m=0:=this;rw[e1,lH m k _ hk] at e2;grind
end Mq
namespace Shp
open PySem L2
theorem Pu {m w:Nat}{A0 A1:Mat}:Stp m w A0 (fun R=>Mq.KI m A1 R/\Mq.KJ m A1 R):=
 ⟨fun R r col d sg p s h1 h2 h=>⟨h.1.swap s.len h2 (by lia),h.2.swap s.len h2 (by lia)⟩,fun R r col d sg s h1 h2 h3 h=>⟨h.1.clear s h1 h2 h3,h.2.clear s h1 h2 h3⟩⟩
theorem Wd {X:List (List Q2)}{qs:List Q2}(hX:fE X)(hq:Mq.Pos qs)(hl:qs.length=X.length)(hw:∀row∈X,row.length=X.length){R:List (List Int)}{w:Nat}{d sg:Int}(h:Mq.KJ X.length (Mq.at2 (iH X qs)) R)(s:SI X.length w (Mq.at2 (iH X qs)) R X.length X.length d sg){v:Nat->Rat}(hv:∀i,i < X.length->(Mq.rs X.length fun j=>pT X i j*v j)=val (qs.getD i Mq.z0)){k:Nat}(hk:k < X.length):Mq.at2 R k X.length / (d:Rat)=v k:=by
 refine h.whole s (fun i hi=>?_) hk;rw[vX hX hq hl hw hi (by lia),if_neg (by lia),<- hv i hi,<- eX];refine aS fun k hk=>?_;rw[vX hX hq hl hw hi (by lia),if_pos hk];grind
abbrev MxR (X:List (List Q2)):Prop:=fE X/\(∀row∈X,(∀p∈row,Bd 8 p)/\row.length=X.length)/\X.length<=8
abbrev RtR (X:List (List Q2))(qs:List Q2):Prop:=qs.length=X.length/\gD qs/\∀p∈qs,Bd 240 p
structure Wg (X:List (List Q2)) (qs ps:List Q2):Prop extends Slv X qs ps where
 uni:∀v:Nat->Rat,(∀i,i < X.length->(Mq.rs X.length fun j=>pT X i j*v j)=val (qs.getD i Mq.z0))->∀j,j < X.length->val (ps.getD j Mq.z0)=v j
end Shp
namespace Mq
theorem Wb.rs5 {n K:Nat}{f:Nat->Rat}(hK:K<=32)(h:∀k,k < K->Wb n (f k)):Wb (n+5) (Mq.rs K f):=by
 obtain⟨z,e,b⟩:=Ux K h;refine⟨z,e,?_⟩;have p:2 ^ (n+5)=32*2 ^ n:=by rw[Nat.pow_add];lia
 have q:K*2 ^ n<=32*2 ^ n:=Nat.mul_le_mul_right _ hK;have r:0 < 2 ^ n:=Nat.two_pow_pos n;show z.natAbs < 2 ^ (n+5)
 by_cases k0:K=0
 ·subst k0;lia
 ·lia
theorem Af {n:Nat}:∀(r:Nat) (M:Mat),r<=32->(∀i j,i < r->Wb n (M i j))->Wb ((n+5)*r+1) (det r M)
 |0,_,_,_=>Wb.one
 |r+1,M,hr,h=>by
  rw[fP];have:=Wb.rs5 (n:=n+((n+5)*r+1)) (K:=r+1) (f:=fun j=>sgn (r+j)*M r j*det r fun i k=>M i (skip j k)) hr fun j _=>((h r j (by lia)).sgn _).mul (Af r _ (by lia) fun i k hi=>h i _ (by lia));exact this.mono (by rw[Nat.mul_succ];lia)
section
variable {m:Nat} {A E:Mat} {r col:Nat} {d:Rat} {c:Nat->Nat} {n:Nat}
theorem Bar.wd5 (h:Bar m A E r col d c)(hA:∀i x,i < m->Wb n (A i x))(hm:m<=31):Wb ((n+5)*r+1) d:=by
 have rm:=h.rm;rw[<- h.i5];exact Af r _ (by lia) fun i j hi=>hA i _ (by lia)
theorem Bar.wtop5 (h:Bar m A E r col d c)(hA:∀i x,i < m->Wb n (A i x))(hm:m<=31){k:Nat}(hk:k < r)(x:Nat):Wb ((n+5)*r+7) (E k x):=by
 have rm:=h.rm;have hd:=h.dne
 by_cases hx:∃j,j < r/\x=c j
 ·obtain⟨j,hj,rfl⟩:=hx;rw[h.i2 k j hk hj];split
  ·exact(h.wd5 hA hm).mono (by lia)
  ·exact Wb.zero _
 ·let c2:Nat->Nat:=fun j=>if j=r then x else c j
  let u:Nat->Rat:=fun j=>if j=c k then 1 else 0
  have hΦ:=Gg r A c2;have z:=h.i6 _ hΦ (fun s hs=>Ie r A c2 hs) k hk;have eu:u=fun y=>(fun y=>u y+(-(1 / d))*E k y) y+(1 / d)*E k y:=by
   funext y
   show u y=u y+(-(1 / d))*E k y+(1 / d)*E k y;grind
  have fb:=Ba r A c2 (fun y=>u y+(-(1 / d))*E k y) fun j hj=>by
   have ec:c2 j=c j:=by show (if j=r then x else c j)=_;rw[if_neg (by lia)]
   rw[ec];show u (c j)+(-(1 / d))*E k (c j)=0;rw[h.i2 k j hk hj];show (if c j=c k then (1:Rat) else 0)+_=0
   by_cases e:j=k
   ·rw[if_pos e,if_pos (by rw[e])];grind
   ·rw[if_neg e,if_neg (fun q=>e (h.cinj j k hj hk q))];grind
  have dd:(det r fun i j=>A i (c2 j))=d:=by
   rw[<- h.i5];exact cS fun i j _ hj=>by show A i (if j=r then x else c j)=_;rw[if_neg (by lia)]
  have ux:u x=0:=by show (if x=c k then (1:Rat) else 0)=0;rw[if_neg (fun q=>hx ⟨k,hk,q⟩)]
  have cx:c2 r=x:=by show (if r=r then x else _)=x;rw[if_pos rfl]
  rw[dd,cx] at fb;have val:F r A c2 u=- E k x:=by
   rw[eu,hΦ,z,fb];show (u x+(-(1 / d))*E k x)*d+_=_;rw[ux];grind
  have wh:Wb ((n+5)*r+7) (F r A c2 u):=by
   rw[Jf];have:=Wb.rs5 (n:=1+((n+5)*r+1)) (K:=r+1) (f:=fun j=>Mq.sgn (r+j)*u (c2 j)*det r fun i k=>A i (c2 (Mq.skip j k))) (by lia) fun j _=>by
    refine Wb.mul (Wb.sgn ?_ _) (Af r _ (by lia) fun i k hi=>hA i _ (by lia));show Wb 1 (if c2 j=c k then (1:Rat) else 0);split
    ·exact Wb.one
    ·exact Wb.zero _
   exact this.mono (by lia)
  rw[val] at wh;have:=wh.neg
  rwa [show - - E k x=E k x by grind] at this
theorem Bar.wall5 (h:Bar m A E r col d c)(hA:∀i x,i < m->Wb n (A i x))(hm:m<=31){i:Nat}(hi:i < m)(x:Nat):Wb ((n+5)*(m+1)+8) (E i x):=by
 have rm:=h.rm;have mono:=Nat.mul_le_mul_left (n+5) rm;have e1:(n+5)*(m+1)=(n+5)*m+(n+5):=Nat.mul_succ ..
 by_cases h1:i < r
 ·exact(h.wtop5 hA hm h1 x).mono (by lia)
 ·have q:=h.i4 i x hi;rw[if_neg h1] at q;have e:E i x=d*A i x - rs r fun k=>A i (c k)*E k x:=by grind
  rw[e];have b1:Wb (n+((n+5)*r+7)+5) (d*A i x):=((h.wd5 hA hm).mul (hA i x hi)).mono (by lia);have b2:Wb (n+((n+5)*r+7)+5) (rs r fun k=>A i (c k)*E k x):=Wb.rs5 (by lia) fun k hk=>(hA i _ hi).mul (h.wtop5 hA hm hk x);exact(b1.sub b2).mono (by lia)
end
theorem SB.bd5 {n m w:Nat}{A0:Mat}{R:List (List Int)}{r col:Nat}{d sg:Int}(h:SB n m R r col d)(s:SI m w A0 R r col d sg)(hm:m<=31):BdR ((n+5)*(m+1)+8) R/\B ((n+5)*(m+1)+8) d:=by
 obtain⟨A,c,B,q⟩:=h;refine⟨fun i x=>?_,?_⟩
 ·by_cases hi:i < m
  ·obtain⟨z,e,b⟩:=B.wall5 q hm hi x;have:ent R i x=z:=Rat.intCast_inj.mp e;rw[this];exact b
  ·unfold ent;rw[getD_eq_getElem?_getD (l:=R),getElem?_eq_none (by rw[s.len];lia)];exact Nat.two_pow_pos _
 ·obtain⟨z,e,b⟩:=B.wd5 q hm;have:d=z:=Rat.intCast_inj.mp e;have mono:=Nat.mul_le_mul_left (n+5) B.rm;rw[this];exact b.mono (by rw[Nat.mul_succ];lia)
theorem Mi {a b L:Int}(ha:1<=a)(hb:1<=b)(h1:a ∣ L)(h2:b ∣ L):oF a b ∣ L:=by
 have g1:gc a b ∣ a:=Int.gcd_dvd_left ..;have g0:gc a b≠0:=by have:=vU (a:=a) (b:=b) (by lia);lia
 obtain⟨x,hx⟩:=g1;have e:oF a b=x*b:=by
  unfold oF;rw[fG g0 hx]
 have k:(Int.lcm a b:Int) ∣ L:=Int.coe_lcm_dvd h1 h2;have m:(Int.gcd a b:Int)*(Int.lcm a b:Int)=a*b:=by
  have:=Int.gcd_mul_lcm a b;have h:((Int.gcd a b*Int.lcm a b:Nat):Int)=((a*b).natAbs:Nat):=by rw[this,Int.natAbs_mul]
  rw[Int.natCast_mul] at h;rw[h,Int.natAbs_of_nonneg (Int.mul_nonneg (by lia) (by lia))]
 have e2:(Int.lcm a b:Int)=x*b:=by
  have hg:(Int.gcd a b:Int)=gc a b:=rfl;rw[hg] at m;have:gc a b*(Int.lcm a b:Int)=gc a b*(x*b):=by
   rw[m,<- Int.mul_assoc,<- hx]
  exact Int.eq_of_mul_eq_mul_left g0 this
 rw[e,<- e2];exact k
theorem xO {L:Int}:∀{ps:List Q2},Pos ps->(∀p∈ps,p.2 ∣ L)->∀i,i<=ps.length->eI (ps.take i) ∣ L/\1<=eI (ps.take i)
 |ps,hp,h,0,_=>⟨Int.one_dvd _,by rw[take_zero];decide⟩
 |ps,hp,h,i+1,hi=>by
  obtain⟨a,b⟩:=xO hp h i (by lia);have hm:ps[i]?=some ps[i]:=getElem?_eq_getElem (by lia);have mem:=mem_of_getElem? hm;rw[mE hm];refine⟨Mi b (hp _ mem) a (h _ mem),?_⟩;have:=tH (ps:=ps.take (i+1)) (fun p hp'=>hp p (mem_of_mem_take hp'))
  rwa [mE hm] at this
end Mq
namespace Shp
open PySem L2
abbrev bw (n m:Nat):Nat:=(n+5)*(m+1)+8
def Io (K:Frag):Sp:=fun vs H Q _=>∃(l D:Addr) (zs:List V) (R:List (List Int)) (m w n:Nat) (Pr:List (List Int)->Prop),vs=[.ref l,.int (m:Int)]/\SqL K H l zs/\Imx D H zs R/\R.length=m/\(∀i,i < m->(R.getD i []).length=w)/\m<=w/\w<=100/\BdR n R/\1<=n/\bw n m<=9000/\m<=31/\Pr R/\Stp m w (Mq.at2 R) Pr/\
 ∀d l' zs' R' rank pivot sign H',bC H H'->H d=none->H l'=none->H' d=some (Qn l' rank pivot sign)->H' l'=some (.lst zs')->Imx l' H' zs' R'->SI m w (Mq.at2 R) R' rank m pivot sign->BdR (bw n m) R'->Mq.B (bw n m) pivot->Pr R'->Q (.ref d) H'
end Shp
namespace L2
open PySem PySem.Spec PyProof.Rows
section
variable (u:Nat->Rat)
def fw (d:RD)(h:Nat):Rat:=match d.1 with
 | .pc=>(u d.2.1.toNat - u d.2.2.1.toNat)*(1 / val d.2.2.2)
 | .pu=>0
 | .ho=>u h
def nt:Nat->List RD->Nat->Rat
 |_,[],_=>0
 |h,d :: ds,p=>fw u d h*dl d.2.1.toNat d.2.2.1.toNat p+nt (h+cA d.1) ds p
def hw:Nat->List RD->Nat->Rat
 |_,[],_=>0
 |h,d :: ds,y=>(if d.1=.ho/\h=y then u d.2.1.toNat - u d.2.2.1.toNat else 0)+hw (h+cA d.1) ds y
def eg:Nat->List RD->Rat
 |_,[]=>0
 |h,d :: ds=>fw u d h*(u d.2.1.toNat - u d.2.2.1.toNat)+eg (h+cA d.1) ds
end
section
variable {u:Nat->Rat} {m N:Nat}
theorem yJ (F:Nat->Rat){n s g:Nat}(hs:s < n)(hg:g < n):Mq.rs n (fun p=>F p*dl s g p)=F s - F g:=by
 have e:∀p,F p*dl s g p=(if s=p then F p else 0) + - (if g=p then F p else 0):=fun p=>by
  unfold dl
  by_cases a:s=p<;>by_cases b:g=p<;>simp only[a,b,if_true,if_false]<;>grind
 rw[aS fun p _=>e p,dG,jH,Aa,Aa,if_pos hs,if_pos hg];grind
theorem Xl {n s g:Nat}(u0:u 0=0)(hs:s<=n)(hg:g<=n):Mq.rs n (fun i=>u (i+1)*dl s g (i+1))=u s - u g:=by
 have:=yJ u (n:=n+1) (s:=s) (g:=g) (by lia) (by lia);rw[oO,u0] at this;grind
theorem Zi (u0:u 0=0){d:RD}{h y:Nat}(pt:dC (m:Int) d.2.1 d.2.2.1)(hm:m<=N+1)(h1:1<=h)(hh:d.1=.ho->h<=N):Mq.rs N (fun i=>u (i+1)*cM d h (i+1) y)=fw u d h*dl d.2.1.toNat d.2.2.1.toNat y+(if d.1=.ho/\h=y then u d.2.1.toNat - u d.2.2.1.toNat else 0):=by
 obtain⟨a,b,c,e⟩:=pt;have base:=Xl (u:=u) (n:=N) (s:=d.2.1.toNat) (g:=d.2.2.1.toNat) u0 (by lia) (by lia);unfold cM fw
 cases hk:d.1 with
 |pc=>
  dsimp only;rw[if_neg (fun z=>by cases z.1)];have:∀i,u (i+1)*(dl d.2.1.toNat d.2.2.1.toNat (i+1)*dl d.2.1.toNat d.2.2.1.toNat y*(1 / val d.2.2.2))=(dl d.2.1.toNat d.2.2.1.toNat y*(1 / val d.2.2.2))*(u (i+1)*dl d.2.1.toNat d.2.2.1.toNat (i+1)):=fun i=>by grind
  rw[aS fun i _=>this i,eX,base];grind
 |pu=>
  dsimp only;rw[if_neg (fun z=>by cases z.1)];have:∀i,u (i+1)*(0:Rat)=0:=fun i=>by grind
  rw[aS fun i _=>this i,dW];grind
 |ho=>
  dsimp only;have hN:=hh hk;have one:Mq.rs N (fun i=>u (i+1)*(if h=i+1 then 1 else 0))=u h:=by
   have:∀i,u (i+1)*(if h=i+1 then (1:Rat) else 0)=if h - 1=i then u (i+1) else 0:=fun i=>by
    by_cases z:h=i+1
    ·rw[if_pos z,if_pos (by lia)];grind
    ·rw[if_neg z,if_neg (by lia)];grind
   rw[aS fun i _=>this i,Aa,if_pos (by lia),show h - 1+1=h by lia]
  have:∀i,u (i+1)*(dl d.2.1.toNat d.2.2.1.toNat (i+1)*(if h=y then 1 else 0)+(if h=i+1 then 1 else 0)*dl d.2.1.toNat d.2.2.1.toNat y)=(if h=y then 1 else 0)*(u (i+1)*dl d.2.1.toNat d.2.2.1.toNat (i+1))+dl d.2.1.toNat d.2.2.1.toNat y*(u (i+1)*(if h=i+1 then 1 else 0)):=fun i=>by grind
  rw[aS fun i _=>this i,dG,eX,eX,base,one]
  by_cases z:h=y
  ·rw[if_pos z,if_pos ⟨rfl,z⟩];grind
  ·rw[if_neg z,if_neg (fun q=>z q.2)];grind
theorem Fb (u0:u 0=0)(hm:m<=N+1)(y:Nat):∀(ds:List RD) (h:Nat),(∀d∈ds,dC (m:Int) d.2.1 d.2.2.1)->1<=h->h+bN ds<=N+1->Mq.rs N (fun i=>u (i+1)*eqM h ds (i+1) y)=nt u h ds y+hw u h ds y
 | [],h,_,_,_=>by
  have:∀i,u (i+1)*eqM h [] (i+1) y=0:=fun i=>by show u (i+1)*(0:Rat)=0;grind
  rw[aS fun i _=>this i,dW];show (0:Rat)=0+0;grind
 |d :: ds,h,pt,h1,hN=>by
  rw[fB] at hN;have ih:=Fb u0 hm y ds (h+cA d.1) (fun e he=>pt e (mem_cons_of_mem _ he)) (by lia) (by lia);have c:=Zi (u:=u) (N:=N) (h:=h) (y:=y) u0 (pt d (by simp)) hm h1 (fun z=>by rw[z] at hN;have:cA .ho=1:=rfl;lia);have:∀i,u (i+1)*eqM h (d :: ds) (i+1) y=u (i+1)*cM d h (i+1) y+u (i+1)*eqM (h+cA d.1) ds (i+1) y:=fun i=>by
   show u (i+1)*(cM d h (i+1) y+eqM (h+cA d.1) ds (i+1) y)=_;grind
  rw[aS fun i _=>this i,dG,ih,c];show _=(fw u d h*dl d.2.1.toNat d.2.2.1.toNat y+nt u (h+cA d.1) ds y)+((if d.1=.ho/\h=y then u d.2.1.toNat - u d.2.2.1.toNat else 0)+hw u (h+cA d.1) ds y)
  grind
theorem Hr {y:Nat}:∀(ds:List RD) (h:Nat),y < h->hw u h ds y=0
 | [],_,_=>rfl
 |d :: ds,h,hy=>by
  show (if d.1=.ho/\h=y then u d.2.1.toNat - u d.2.2.1.toNat else 0)+hw u (h+cA d.1) ds y=0;rw[if_neg (fun z=>by lia),Hr ds (h+cA d.1) (by lia)];grind
theorem Fz {y:Nat}:∀(ds:List RD) (h:Nat),(∀d∈ds,dC (m:Int) d.2.1 d.2.2.1)->m<=y->nt u h ds y=0
 | [],_,_,_=>rfl
 |d :: ds,h,pt,hy=>by
  obtain⟨a,b,c,e⟩:=pt d (by simp);show fw u d h*dl d.2.1.toNat d.2.2.1.toNat y+nt u (h+cA d.1) ds y=0;rw[Fz ds (h+cA d.1) (fun e he=>pt e (mem_cons_of_mem _ he)) hy];unfold dl;rw[if_neg (by lia),if_neg (by lia)];grind
theorem An:∀(ds:List RD) (h:Nat),(∀y,h<=y->y < h+bN ds->hw u h ds y=0)->∀d∈ds,d.1=.ho->u d.2.1.toNat=u d.2.2.1.toNat
 | [],_,_,_,hd,_=>by cases hd
 |e :: ds,h,all,d,hd,hk=>by
  by_cases he:e.1=.ho
  ·have c1:cA e.1=1:=by rw[he];rfl
   have first:=all h (Nat.le_refl _) (by rw[fB];lia)
   have f1:(if e.1=.ho/\h=h then u e.2.1.toNat - u e.2.2.1.toNat else 0)+hw u (h+cA e.1) ds h=0:=first
   rw[if_pos ⟨he,rfl⟩,Hr ds (h+cA e.1) (by lia)] at f1;rcases mem_cons.mp hd with rfl | hd
   ·grind
   ·refine An ds (h+cA e.1) (fun y hy hl=>?_) d hd hk;have:=all y (by lia) (by rw[fB];lia);have f2:(if e.1=.ho/\h=y then u e.2.1.toNat - u e.2.2.1.toNat else 0)+hw u (h+cA e.1) ds y=0:=this;rw[if_neg (fun z=>by lia)] at f2;grind
  ·have c0:cA e.1=0:=if_neg he;rcases mem_cons.mp hd with rfl | hd
   ·exact absurd hk he
   ·refine An ds (h+cA e.1) (fun y hy hl=>?_) d hd hk;have:=all y (by lia) (by rw[fB];lia);have f2:(if e.1=.ho/\h=y then u e.2.1.toNat - u e.2.2.1.toNat else 0)+hw u (h+cA e.1) ds y=0:=this;rw[if_neg (fun z=>he z.1)] at f2;grind
theorem Hq (F:Nat->Rat):∀(ds:List RD) (h:Nat),(∀d∈ds,dC (m:Int) d.2.1 d.2.2.1)->(∀d∈ds,d.1≠.pu->F d.2.1.toNat=F d.2.2.1.toNat)->Mq.rs m (fun p=>F p*nt u h ds p)=0
 | [],h,_,_=>by
  have:∀p,F p*nt u h [] p=0:=fun p=>by show F p*(0:Rat)=0;grind
  rw[aS fun p _=>this p,dW]
 |d :: ds,h,pt,hF=>by
  have ih:=Hq F ds (h+cA d.1) (fun e he=>pt e (mem_cons_of_mem _ he)) (fun e he=>hF e (mem_cons_of_mem _ he));obtain⟨a,b,c,e⟩:=pt d (by simp);have base:=yJ F (n:=m) (s:=d.2.1.toNat) (g:=d.2.2.1.toNat) (by lia) (by lia);have:∀p,F p*nt u h (d :: ds) p=fw u d h*(F p*dl d.2.1.toNat d.2.2.1.toNat p)+F p*nt u (h+cA d.1) ds p:=fun p=>by
   show F p*(fw u d h*dl d.2.1.toNat d.2.2.1.toNat p+nt u (h+cA d.1) ds p)=_;grind
  rw[aS fun p _=>this p,dG,eX,base,ih]
  by_cases hk:d.1=.pu
  ·have:fw u d h=0:=by unfold fw;rw[hk]
   rw[this];grind
  ·rw[hF d (by simp) hk];grind
theorem Of:∀(ds:List RD) (h:Nat),(∀d∈ds,dC (m:Int) d.2.1 d.2.2.1)->Mq.rs m (fun p=>u p*nt u h ds p)=eg u h ds
 | [],h,_=>by
  have:∀p,u p*nt u h [] p=0:=fun p=>by show u p*(0:Rat)=0;grind
  rw[aS fun p _=>this p,dW];rfl
 |d :: ds,h,pt=>by
  have ih:=Of ds (h+cA d.1) (fun e he=>pt e (mem_cons_of_mem _ he));obtain⟨a,b,c,e⟩:=pt d (by simp);have base:=yJ u (n:=m) (s:=d.2.1.toNat) (g:=d.2.2.1.toNat) (by lia) (by lia);have:∀p,u p*nt u h (d :: ds) p=fw u d h*(u p*dl d.2.1.toNat d.2.2.1.toNat p)+u p*nt u (h+cA d.1) ds p:=fun p=>by
   show u p*(fw u d h*dl d.2.1.toNat d.2.2.1.toNat p+nt u (h+cA d.1) ds p)=_;grind
  rw[aS fun p _=>this p,dG,eX,base,ih];rfl
theorem Zn (x:Rat):0<=x*x:=by
 rcases Rat.le_total (a:=0) (b:=x) with h | h
 ·exact Rat.mul_nonneg h h
 ·have:0<=(-x)*(-x):=Rat.mul_nonneg (by grind) (by grind);grind
theorem Cz {a:Rat}(h:0 < a):0 < 1 / a:=by
 rw[Rat.div_def,Rat.one_mul];exact Rat.inv_pos.mpr h
theorem Dl:∀(ds:List RD) (h:Nat),(∀d∈ds,d.1=.pc->0 < val d.2.2.2)->(∀d∈ds,d.1=.ho->u d.2.1.toNat=u d.2.2.1.toNat)->0<=eg u h ds/\(eg u h ds=0->∀d∈ds,d.1=.pc->u d.2.1.toNat=u d.2.2.1.toNat)
 | [],_,_,_=>⟨Rat.le_refl,fun _ d hd=>by cases hd⟩
 |e :: ds,h,pos,ho=>by
  obtain⟨i1,i2⟩:=Dl ds (h+cA e.1) (fun d hd=>pos d (mem_cons_of_mem _ hd)) (fun d hd=>ho d (mem_cons_of_mem _ hd));have eq:eg u h (e :: ds)=fw u e h*(u e.2.1.toNat - u e.2.2.1.toNat)+eg u (h+cA e.1) ds:=rfl;rw[eq];generalize eg u (h+cA e.1) ds=r at i1 i2;have t:0<=fw u e h*(u e.2.1.toNat - u e.2.2.1.toNat)/\(e.1=.pc->fw u e h*(u e.2.1.toNat - u e.2.2.1.toNat)=0->u e.2.1.toNat=u e.2.2.1.toNat):=by
   unfold fw
   cases hk:e.1 with
   |pu=>exact⟨by grind,fun z=>by cases z⟩
   |ho=>exact⟨by rw[ho e (by simp) hk];grind,fun z=>by cases z⟩
   |pc=>
    dsimp only;have p:=Cz (pos e (by simp) hk);generalize 1 / val e.2.2.2=q at p;generalize u e.2.1.toNat=a;generalize u e.2.2.1.toNat=b;have e2:(a - b)*q*(a - b)=q*((a - b)*(a - b)):=by grind
    rw[e2];refine⟨Rat.mul_nonneg (Rat.le_of_lt p) (Zn _),fun _ z=>?_⟩;have q0:q≠0:=fun z=>by rw[z] at p;exact absurd p (by decide)
    have:(a - b)*(a - b)=0:=by grind
    have:a - b=0:=by grind
    grind
  obtain⟨t1,t2⟩:=t;generalize fw u e h*(u e.2.1.toNat - u e.2.2.1.toNat)=x at t1 t2;refine⟨by grind,fun z d hd hk=>?_⟩;have x0:x=0:=by grind
  have r0:r=0:=by grind
  rcases mem_cons.mp hd with rfl | hd
  ·exact t2 hk x0
  ·exact i2 r0 d hd hk
theorem Al (d:RD)(p:Nat):∀(ds:List RD) (h:Nat),nt u h (ds++[d]) p=nt u h ds p+fw u d (h+bN ds)*dl d.2.1.toNat d.2.2.1.toNat p
 | [],h=>by show fw u d h*_+0=0+fw u d (h+0)*_;rw[Nat.add_zero];grind
 |e :: ds,h=>by
  show fw u e h*_+nt u (h+cA e.1) (ds++[d]) p=fw u e h*_+nt u (h+cA e.1) ds p+_;rw[Al d p ds,fB,Nat.add_assoc];grind
theorem Fl (F:Nat->Rat):∀(ds:List RD) (h:Nat),(∀d∈ds,dC (m:Int) d.2.1 d.2.2.1)->(∀d∈ds,d.1=.pc->u d.2.1.toNat=u d.2.2.1.toNat)->(∀d∈ds,d.1=.ho->F d.2.1.toNat=F d.2.2.1.toNat)->Mq.rs m (fun p=>F p*nt u h ds p)=0
 | [],h,_,_,_=>by
  have:∀p,F p*nt u h [] p=0:=fun p=>by show F p*(0:Rat)=0;grind
  rw[aS fun p _=>this p,dW]
 |d :: ds,h,pt,hu,hF=>by
  have ih:=Fl F ds (h+cA d.1) (fun e he=>pt e (mem_cons_of_mem _ he)) (fun e he=>hu e (mem_cons_of_mem _ he)) (fun e he=>hF e (mem_cons_of_mem _ he));obtain⟨a,b,c,e⟩:=pt d (by simp);have base:=yJ F (n:=m) (s:=d.2.1.toNat) (g:=d.2.2.1.toNat) (by lia) (by lia);have:∀p,F p*nt u h (d :: ds) p=fw u d h*(F p*dl d.2.1.toNat d.2.2.1.toNat p)+F p*nt u (h+cA d.1) ds p:=fun p=>by
   show F p*(fw u d h*dl d.2.1.toNat d.2.2.1.toNat p+nt u (h+cA d.1) ds p)=_;grind
  rw[aS fun p _=>this p,dG,eX,base,ih]
  cases hk:d.1 with
  |pu=>
   have:fw u d h=0:=by unfold fw;rw[hk]
   rw[this];grind
  |pc=>
   have:fw u d h=0:=by unfold fw;rw[hk];dsimp only;rw[hu d (by simp) hk];grind
   rw[this];grind
  |ho=>rw[hF d (by simp) hk];grind
def Frs (ds:List RD):Prop:=∀(A B:List RD) (d:RD),ds=A++d :: B->d.1=.ho->¬Cn (iU .ho A) d.2.1.toNat d.2.2.1.toNat
theorem Hi:∀(n:Nat) (ds:List RD) (h:Nat),ds.length=n->(∀d∈ds,dC (m:Int) d.2.1 d.2.2.1)->Frs ds->(∀d∈ds,d.1=.pc->u d.2.1.toNat=u d.2.2.1.toNat)->(∀p,p < m->nt u h ds p=0)->∀y,h<=y->y < h+bN ds->u y=0
 |0,ds,h,hl,_,_,_,_,y,h1,h2=>by
  have:ds=[]:=length_eq_zero_iff.mp hl;subst this;have:bN ([]:List RD)=0:=rfl;lia
 |n+1,ds,h,hl,pt,fr,hu,ze,y,h1,h2=>by
  obtain⟨es,d,rfl⟩:∃es d,ds=es++[d]:=⟨ds.dropLast,ds.getLast (by intro z;rw[z] at hl;cases hl),(dropLast_concat_getLast _).symm⟩
  have le:es.length=n:=by rw[length_append] at hl;simpa using hl
  have pe:∀x∈es,dC (m:Int) x.2.1 x.2.2.1:=fun x hx=>pt x (mem_append_left _ hx);have ue:∀x∈es,x.1=.pc->u x.2.1.toNat=u x.2.2.1.toNat:=fun x hx=>hu x (mem_append_left _ hx);have fe:Frs es:=fun A B x e hx=>fr A (B++[d]) x (by rw[e];simp) hx;obtain⟨i0,i1,j0,j1⟩:=pt d (by simp);have f0:fw u d (h+bN es)=0:=by
   cases hk:d.1 with
   |pu=>unfold fw;rw[hk]
   |pc=>unfold fw;rw[hk];dsimp only;rw[hu d (by simp) hk];grind
   |ho=>
    open Classical in
    have nc:=fr es [] d rfl hk
    let F:Nat->Rat:=fun p=>if Cn (iU .ho es) d.2.1.toNat p then 1 else 0
    have s1:=Fl (u:=u) (m:=m) F es h pe ue (fun x hx hk'=>by
     show (if Cn (iU .ho es) d.2.1.toNat x.2.1.toNat then (1:Rat) else 0)=if Cn (iU .ho es) d.2.1.toNat x.2.2.1.toNat then 1 else 0
     have r:Cn (iU .ho es) x.2.1.toNat x.2.2.1.toNat:=.row (mem_filter.mpr ⟨hx,decide_eq_true hk'⟩) (by rw[hk'];exact fun z=>by cases z)
     by_cases c:Cn (iU .ho es) d.2.1.toNat x.2.1.toNat
     ·rw[if_pos c,if_pos (c.trans r)]
     ·rw[if_neg c,if_neg (fun z=>c (z.trans r.symm))])
    have s2:Mq.rs m (fun p=>F p*nt u h (es++[d]) p)=0:=by
     have:∀p,p < m->F p*nt u h (es++[d]) p=0:=fun p hp=>by rw[ze p hp];grind
     rw[aS this,dW]
    have e3:∀p,F p*nt u h (es++[d]) p=F p*nt u h es p+fw u d (h+bN es)*(F p*dl d.2.1.toNat d.2.2.1.toNat p):=fun p=>by rw[Al];grind
    rw[aS fun p _=>e3 p,dG,s1,eX,yJ F (by lia) (by lia)] at s2;have Fs:F d.2.1.toNat=1:=if_pos (.refl _);have Fg:F d.2.2.1.toNat=0:=if_neg nc;rw[Fs,Fg] at s2;grind
  have ze':∀p,p < m->nt u h es p=0:=fun p hp=>by
   have:=ze p hp;rw[Al,f0] at this;grind
  rw[fK] at h2
  by_cases c:y < h+bN es
  ·exact Hi n es h le pe fe ue ze' y h1 c
  ·have hk:d.1=.ho:=Classical.byContradiction fun z=>by
    have:cA d.1=0:=if_neg z;lia
   have c1:cA d.1=1:=by rw[hk];rfl
   have:y=h+bN es:=by lia
   rw[this];unfold fw at f0;rw[hk] at f0;exact f0
theorem Iu {ds:List RD}(hm1:1<=m)(pt:∀d∈ds,dC (m:Int) d.2.1 d.2.2.1)(pos:∀d∈ds,d.1=.pc->0 < val d.2.2.2)(cn:∀p,p < m->Cn ds 0 p)(fr:Frs ds)(u0:u 0=0)(ze:∀y,1<=y->y<=m - 1+bN ds->Mq.rs (m - 1+bN ds) (fun i=>u (i+1)*eqM m ds (i+1) y)=0):∀y,y<=m - 1+bN ds->u y=0:=by
 have ze2:∀y,1<=y->y<=m - 1+bN ds->nt u m ds y+hw u m ds y=0:=fun y a b=>by
  have:=ze y a b;rw[Fb (m:=m) u0 (by lia) y ds m pt hm1 (by lia)] at this;exact this
 have hf:=An (u:=u) ds m (fun y a b=>by
  have:=ze2 y (by lia) (by lia);rw[Fz ds m pt a] at this;grind)
 have np:∀p,1<=p->p < m->nt u m ds p=0:=fun p a b=>by
  have:=ze2 p a (by lia);rw[Hr ds m b] at this;grind
 have e0:eg u m ds=0:=by
  rw[<- Of (u:=u) (m:=m) ds m pt];have:∀p,p < m->u p*nt u m ds p=0:=fun p hp=>by
   by_cases c:p=0
   ·rw[c,u0];grind
   ·rw[np p (by lia) hp];grind
  rw[aS this,dW]
 have pf:=(Dl (u:=u) ds m pos hf).2 e0;have cz:∀p,p < m->u p=0:=fun p hp=>by
  have:=Cn.ind (R:=fun a b=>u a=u b) (fun _=>rfl) (fun _ _ e=>e.symm) (fun _ _ _ a b=>a.trans b) (fun d hd hk=>by
   cases h:d.1 with
   |pc=>exact pf d hd h
   |pu=>exact absurd h hk
   |ho=>exact hf d hd h) (cn p hp)
  rw[<- this,u0]
 have all:∀p,p < m->nt u m ds p=0:=fun p hp=>by
  by_cases c:p=0
  ·have s:=Fl (u:=u) (m:=m) (fun _=>1) ds m pt pf (fun _ _ _=>rfl);obtain⟨k,rfl⟩:∃k,m=k+1:=⟨m - 1,by lia⟩
   rw[oO] at s;have:∀i,i < k->(1:Rat)*nt u (k+1) ds (i+1)=0:=fun i hi=>by rw[np (i+1) (by lia) (by lia)];grind
   rw[aS this,dW] at s;rw[c];grind
  ·exact np p (by lia) hp
 have hz:=Hi (u:=u) (m:=m) _ ds m rfl pt fr pf all;intro y hy
 by_cases c:y < m
 ·exact cz y c
 ·exact hz y (by lia) (by lia)
end
open Shp
section
variable {m N:Nat} {ds:List RD}
theorem Ue (d:RD)(h x y:Nat):cM d h x y=cM d h y x:=by
 unfold cM
 cases d.1<;>dsimp only<;>grind
theorem vK:∀(ds:List RD) (h x y:Nat),eqM h ds x y=eqM h ds y x
 | [],_,_,_=>rfl
 |d :: ds,h,x,y=>by
  show cM d h x y+eqM (h+cA d.1) ds x y=cM d h y x+eqM (h+cA d.1) ds y x;rw[Ue,vK ds]
structure Nof (m:Nat) (ds:List RD):Prop where
 m1:1<=m
 pt:∀d∈ds,dC (m:Int) d.2.1 d.2.2.1
 pos:∀d∈ds,d.1=.pc->0 < val d.2.2.2
 cn:∀p,p < m->Cn ds 0 p
 fr:Frs ds
theorem Nof.uni (o:Nof m ds){v w:Nat->Rat}{r:Nat->Rat}(hv:∀i,i < m - 1+bN ds->(Mq.rs (m - 1+bN ds) fun j=>eqM m ds (i+1) (j+1)*v j)=r i)(hw:∀i,i < m - 1+bN ds->(Mq.rs (m - 1+bN ds) fun j=>eqM m ds (i+1) (j+1)*w j)=r i):∀j,j < m - 1+bN ds->v j=w j:=by
 have:=Iu (u:=fun x=>if x=0 then 0 else v (x - 1) - w (x - 1)) o.m1 o.pt o.pos o.cn o.fr (if_pos rfl) (fun y y1 yn=>by
  have e:∀i,i < m - 1+bN ds->(if i+1=0 then (0:Rat) else v (i+1 - 1) - w (i+1 - 1))*eqM m ds (i+1) y=eqM m ds (y - 1+1) (i+1)*v i + - (eqM m ds (y - 1+1) (i+1)*w i):=fun i _=>by
   rw[if_neg (by lia),Nat.add_sub_cancel,vK ds m (i+1) y,show y - 1+1=y by lia];grind
  rw[aS e,dG,jH,hv (y - 1) (by lia),hw (y - 1) (by lia)];grind)
 intro j hj;have:=this (j+1) (by lia);rw[if_neg (by lia),Nat.add_sub_cancel] at this;grind
theorem Xe {X:List (List Q2)}{Y:List Q2}(e:zI m ds N X Y):X.length=m - 1+bN ds:=e.x.h
theorem Ny {X:List (List Q2)}{Y:List Q2}(e:zI m ds N X Y)(i j:Nat):pT X i j=eqM m ds (i+1) (j+1):=e.vx i j
end
end L2
namespace Shp
open PySem L2
theorem Ic {m w:Nat}{R0:List (List Int)}(hl:R0.length=m)(hw:∀i,i < m->(R0.getD i []).length=w)(hmw:m<=w){Pr:List (List Int)->Prop}(h0:Pr R0)(st:Stp m w (Mq.at2 R0) Pr):∀col,col<=m->∃R r d sg,SI m w (Mq.at2 R0) R r col d sg/\Pr R
 |0,_=>⟨R0,0,1,1,.start hl hw,h0⟩
 |col+1,hc=>by
  obtain⟨R,r,d,sg,S,p⟩:=Ic hl hw hmw h0 st col (by lia)
  by_cases hz:∀i,r<=i->i < m->ent R i col=0
  ·exact⟨R,r,d,sg,S.skip hz,p⟩
  ·obtain⟨i,hi⟩:=Classical.not_forall.mp hz;obtain⟨h1,hi⟩:=Classical.not_imp.mp hi;obtain⟨h2,ne⟩:=Classical.not_imp.mp hi
   by_cases e:i=r
   ·subst e;exact⟨_,_,_,_,S.clear h2 (by lia) ne,st.cl R i col d sg S h2 (by lia) ne p⟩
   ·have hlt:r < i:=by lia
    have S2:=S.swap hlt h2;have p2:=st.sw R r col d sg i S hlt h2 p;have ne2:ent (fD R i r) r col≠0:=by
     have:=Bq (R:=R) (p:=i) (r:=r) (by rw[S.len];lia) (by rw[S.len];lia) r;unfold ent at ne ⊢;rw[this,show Mq.sw i r r=i by unfold Mq.sw;simp];exact ne
    exact⟨_,_,_,_,S2.clear (by lia) (by lia) ne2,st.cl _ r col d (-sg) S2 (by lia) (by lia) ne2 p2⟩
theorem Uj {X:List (List Q2)}(xP:fE X)(hw:∀row∈X,row.length=X.length)(m1:1<=X.length)(hz:wgt X=0):∃v:Nat->Rat,(∃j,j < X.length/\v j≠0)/\∀x,x < X.length->(Mq.rs X.length fun j=>v j*pT X j x)=0:=by
 obtain⟨R,r,d,sg,S,L⟩:=Ic (m:=X.length) (w:=X.length+X.length) (R0:=jO X) (Mn X) (fun i hi=>by rw[vE hi,Bv,hw _ (mem_of_getElem? (wG hi))]) (by lia) (Sl xP hw) Xp X.length (Nat.le_refl _);have wr:=Ql xP (Rt fun i j hi hj=>xK xP hw hi hj) S;have hr:r < X.length:=by
  rcases wr with z | z
  ·exact z.1
  ·exact absurd hz z.2
 obtain⟨⟨k0,hk0,nk0⟩,hsum⟩:=L.lame S hr;refine⟨fun k=>Mq.at2 R (X.length - 1) (X.length+k),⟨k0,hk0,fun z=>?_⟩,hsum⟩;exact nk0 (Rat.intCast_inj.mp (by unfold Mq.at2 at z;simpa using z))
end Shp
namespace L2
open Shp
theorem Nof.wgt_ne {m N:Nat}{ds:List RD}(o:Nof m ds){X:List (List Q2)}{Y:List Q2}(e:zI m ds N X Y)(xP:fE X)(hw:∀row∈X,row.length=X.length)(m1:1<=X.length):wgt X≠0:=fun hz=>by
 obtain⟨v,⟨j,hj,vj⟩,hs⟩:=Uj xP hw m1 hz;have n:=Xe e;have z:=Iu (u:=fun x=>if x=0 then 0 else v (x - 1)) o.m1 o.pt o.pos o.cn o.fr (if_pos rfl) (fun y y1 yn=>by
  have s:=hs (y - 1) (by lia);rw[n] at s;rw[<- s];refine aS fun i _=>?_;rw[if_neg (by lia),Nat.add_sub_cancel,Ny e,show y - 1+1=y by lia])
 have:=z (j+1) (by lia);rw[if_neg (by lia),Nat.add_sub_cancel] at this;exact vj this
end L2
namespace Mq
theorem Eb {p:Q2}(l:Low p){a L:Int}(hL:1<=L)(h:val p=(a:Rat) / (L:Rat)):p.2 ∣ L/\p.1.natAbs<=a.natAbs:=by
 have h2:((p.2:Int):Rat)≠0:=by have:=l.pos;exact_mod_cast (show p.2≠0 by lia)
 have hl:((L:Int):Rat)≠0:=by exact_mod_cast (show L≠0 by lia)
 have e:p.1*L=a*p.2:=by
  unfold val at h;have:((p.1:Int):Rat)*(L:Rat)=(a:Rat)*((p.2:Int):Rat):=by grind
  exact_mod_cast this
 have d:p.2 ∣ L:=by
  have c:Int.gcd p.2 p.1=1:=by
   have:=l.one;unfold gc at this;rw[Int.gcd_comm];exact_mod_cast this
  have c':Nat.Coprime p.2.natAbs p.1.natAbs:=c;have dv:p.2.natAbs ∣ p.1.natAbs*L.natAbs:=by
   rw[<- Int.natAbs_mul,e,Int.natAbs_mul];exact Nat.dvd_mul_left ..
  exact Int.natAbs_dvd_natAbs.mp (c'.dvd_of_dvd_mul_left dv)
 obtain⟨t,ht⟩:=d;have t1:t≠0:=fun z=>by rw[z,Int.mul_zero] at ht;lia
 have e2:p.1*t=a:=by
  have:p.2*(p.1*t)=p.2*a:=by
   rw[Int.mul_comm p.2 a,<- e,ht,<- Int.mul_assoc,<- Int.mul_assoc,Int.mul_comm p.2 p.1]
  exact Int.eq_of_mul_eq_mul_left (by have:=l.pos;lia) this
 refine⟨⟨t,ht⟩,?_⟩;rw[<- e2,Int.natAbs_mul];exact Nat.le_mul_of_pos_right _ (by lia)
def Fr (L:Int)(M:Nat)(x:Rat):Prop:=∃a:Int,x=(a:Rat) / (L:Rat)/\a.natAbs<=M*L.natAbs
section
variable {L K:Int} {M N:Nat} {x y:Rat}
theorem tX (h:1<=L):((L:Int):Rat)≠0:=by exact_mod_cast (show L≠0 by lia)
theorem Fr.mono (h:Fr L M x)(l:M<=N):Fr L N x:=by
 obtain⟨a,e,b⟩:=h;exact⟨a,e,Nat.le_trans b (Nat.mul_le_mul_right _ l)⟩
theorem Fr.zero:Fr L 0 0:=⟨0,by rw[show ((0:Int):Rat)=0 by rfl,Rat.div_def];grind,by simp⟩
theorem Fr.one (h:1<=L):Fr L 1 1:=⟨L,by have:=tX h;grind,by lia⟩
theorem Fr.add (h:Fr L M x)(g:Fr L N y):Fr L (M+N) (x+y):=by
 obtain⟨a,ea,ba⟩:=h;obtain⟨b,eb,bb⟩:=g;refine⟨a+b,?_,?_⟩
 ·rw[ea,eb,Rat.intCast_add,Rat.div_def,Rat.div_def,Rat.div_def];grind
 ·rw[Nat.add_mul];have:=Int.natAbs_add_le a b;lia
theorem Fr.neg (h:Fr L M x):Fr L M (-x):=by
 obtain⟨a,ea,ba⟩:=h;refine⟨-a,?_,by rw[Int.natAbs_neg];exact ba⟩;rw[ea,Rat.intCast_neg,Rat.div_def,Rat.div_def];grind
theorem Fr.of (hL:1<=L){t b:Int}(hb:1<=b)(d:b ∣ L)(ht:t.natAbs<=M):Fr L M ((t:Rat) / (b:Rat)):=by
 obtain⟨k,rfl⟩:=d;have k1:1<=k:=by
  rcases Int.lt_or_le k 1 with z | z
  ·have:=Int.mul_nonpos_of_nonneg_of_nonpos (show 0<=b by lia) (show k<=0 by lia);lia
  ·exact z
 refine⟨t*k,?_,?_⟩
 ·have:=tX hb;have:=tX k1;rw[Rat.intCast_mul,Rat.intCast_mul];grind
 ·rw[Int.natAbs_mul,Int.natAbs_mul];refine Nat.mul_le_mul ht (Nat.le_mul_of_pos_left _ (by lia))
theorem Fr.get (h:Fr L M x){m n b:Nat}(hM:M < 2 ^ m)(hL:B n L)(hb:m+n<=b):∃a:Int,B b a/\x=(a:Rat) / (L:Rat):=by
 obtain⟨a,ea,ba⟩:=h;refine⟨a,?_,ea⟩;refine B.mono (n:=m+n) ?_ hb;show a.natAbs < 2 ^ (m+n);rw[Nat.pow_add];have hL:L.natAbs < 2 ^ n:=hL;exact Nat.lt_of_le_of_lt ba (Nat.mul_lt_mul'' hM hL)
end
theorem uG {L:Int}{p:Q2}{u:Nat}(hL:1<=L)(l:Low p)(d:p.2 ∣ L)(b:Bd u p):Fr L (2 ^ u) (val p):=Fr.of hL l.pos d (Nat.le_of_lt b.a)
def prB:List Int->Int
 | []=>1
 |a :: r=>a*prB r
theorem Bf:∀{l:List Int},(∀a∈l,1<=a)->1<=prB l
 | [],_=>Int.le_refl _
 |a :: r,h=>by
  have h1:=h a (by simp);have h2:=Bf (l:=r) fun b hb=>h b (mem_cons_of_mem _ hb);have:=Int.mul_pos (show 0 < a by lia) (show 0 < prB r by lia);show 1<=a*prB r;lia
theorem zO:∀{l:List Int} {a:Int},a∈l->a ∣ prB l
 |b :: r,a,h=>by
  rcases mem_cons.mp h with z | z
  ·rw[z];exact Int.dvd_mul_right ..
  ·exact Int.dvd_trans (zO z) (Int.dvd_mul_left ..)
theorem Pc {u:Nat}:∀{l:List Int},(∀a∈l,B u a)->B (u*l.length+1) (prB l)
 | [],_=>show (1:Nat) < 2 ^ (u*0+1) by rw[Nat.mul_zero];decide
 |a :: r,h=>by
  have h1:=h a (by simp);have h2:=Pc (l:=r) fun b hb=>h b (mem_cons_of_mem _ hb);exact(h1.mul h2).mono (by rw[length_cons,Nat.mul_succ];lia)
end Mq
open Mq (Bf Eb Pc prB tX uG zO)
namespace L2
theorem Oe (s g x:Nat):dl s g x=1\/dl s g x=0\/dl s g x=-1:=by
 unfold dl
 by_cases a:s=x<;>by_cases b:g=x<;>simp only[a,b,if_true,if_false]
 ·exact .inr (.inl (by grind))
 ·exact .inl (by grind)
 ·exact .inr (.inr (by grind))
 ·exact .inr (.inl (by grind))
theorem Dt {L:Int}{M:Nat}{y:Rat}(h:Mq.Fr L M y)(s g x:Nat):Mq.Fr L M (dl s g x*y):=by
 rcases Oe s g x with e | e | e
 ·rw[e,Rat.one_mul];exact h
 ·rw[e,Rat.zero_mul];exact Mq.Fr.zero.mono (Nat.zero_le _)
 ·rw[e,show (-1:Rat)*y=-y by grind];exact h.neg
open PySem PySem.Spec PyProof.Rows Shp
abbrev Ent:=Option Nat × RD × Q2
abbrev qh0 (E:List Ent):List Nat:=E.filterMap (·.1)
section
variable {m u j:Nat} {hs:List Q2} {par:Nat->Nat} {E:List Ent}
theorem Hf {α:Type}{E:List α}{i:Nat}{e x:α}(h:x∈E.take i++e :: E.drop i):x=e\/x∈E:=by
 rcases mem_append.mp h with z | z
 ·exact .inr (mem_of_mem_take z)
 ·rcases mem_cons.mp z with z | z
  ·exact .inl z
  ·exact .inr (mem_of_mem_drop z)
abbrev qh1 (E:List Ent)(C:List RD):List RD:=E.map (·.2.1)++C
end
theorem Hv {W:Kd->Bool}{sk:List Sk}:∀n,∀e∈(fA W sk n).1,∃k,W k=true/\sk[e.1]?=some (k,e.2.1,e.2.2)/\e.1 < n
 |0,e,h=>by cases h
 |n+1,e,h=>by
  have ih:=Hv (W:=W) (sk:=sk) n
  cases hd:sk[n]? with
  |none=>
   have:fA W sk (n+1)=fA W sk n:=by
    show (match sk[n]? with | none=>fA W sk n | some d=>jA W (fA W sk n) n d)=_;rw[hd]
   rw[this] at h;obtain⟨k,a,b,c⟩:=ih e h;exact⟨k,a,b,by lia⟩
  |some d=>
   rw[iV hd] at h;unfold jA at h;split at h
   ·rename_i w
    split at h
    ·rcases mem_append.mp h with z | z
     ·obtain⟨k,a,b,c⟩:=ih e z;exact⟨k,a,b,by lia⟩
     ·have:e=(n,d.2.1,d.2.2):=by simpa using z
      subst this;exact⟨d.1,w,hd,by show n < n+1;lia⟩
    ·obtain⟨k,a,b,c⟩:=ih e h;exact⟨k,a,b,by lia⟩
   ·obtain⟨k,a,b,c⟩:=ih e h;exact⟨k,a,b,by lia⟩
theorem lV {m:Nat}{ds:List RD}{W:Kd->Bool}(hW:∀k,W k=true↔k=.ho)(pt:∀d∈ds,dC (m:Int) d.2.1 d.2.2.1)(h20:m<=20)(fr:Frs ds):∀n,n<=ds.length->(fA W (skl ds) n).2=[]
 |0,_=>rfl
 |n+1,hn=>by
  have ih:=lV hW pt h20 fr n (by lia);have hd:ds[n]?=some ds[n]:=getElem?_eq_getElem (by lia);generalize ds[n]=d at hd;have sl:(skl ds).length=ds.length:=by unfold skl;rw[length_map]
  have hs:(skl ds)[n]?=some (d.1,d.2.1.toNat,d.2.2.1.toNat):=by unfold skl;rw[getElem?_map,hd];rfl
  rw[iV hs];unfold jA;split
  ·rename_i w
   have hk:d.1=.ho:=(hW _).mp w;obtain⟨a,b,c,f⟩:=pt d (mem_of_getElem? hd);have ri:=uR (W:=W) (sk:=skl ds) (m:=m) (fun x hx=>by
    obtain⟨y,hy,rfl⟩:=mem_map.mp hx;obtain⟨a,b,c,f⟩:=pt y hy;exact⟨by show y.2.1.toNat < m;lia,by show y.2.2.1.toNat < m;lia⟩) n (by lia)
   have wi:=Rv (b:=d.2.2.1.toNat) (e:=d.2.1.toNat) ri.pt h20 (by lia) (by lia)
   cases e:tY (fA W (skl ds) n).1 d.2.2.1.toNat d.2.1.toNat with
   |none=>dsimp only;first | (rw[e];exact ih) | exact ih
   |some st=>
    exfalso
    rw[e] at wi;have eq:=wi.mp rfl;have cn:=(Pe (vL ri.pt) (by lia) (by lia)).mp eq;have ed:ds=ds.take n++d :: ds.drop (n+1):=by
     have hn':n < ds.length:=by lia
     have:ds[n]=d:=by rw[getElem?_eq_getElem hn'] at hd;exact Option.some.inj hd
     rw[<- this,getElem_cons_drop,take_append_drop]
    refine fr _ _ d ed hk ?_;refine Cn.ind (R:=fun p q=>Cn (iU .ho (ds.take n)) p q) (fun p=>.refl p) (fun _ _=>.symm) (fun _ _ _=>.trans) (fun x hx _=>?_) cn;obtain⟨y,hy,rfl⟩:=mem_map.mp hx;obtain⟨k,wk,sk,yn⟩:=Hv n y hy;unfold skl at sk;rw[getElem?_map] at sk;obtain⟨z,hz,ez⟩:=Option.map_eq_some_iff.mp sk;have e1:z.1=k:=congrArg (·.1) ez;have e2:z.2.1.toNat=y.2.1:=congrArg (·.2.1) ez;have e3:z.2.2.1.toNat=y.2.2:=congrArg (·.2.2) ez;have hz':z∈iU .ho (ds.take n):=mem_filter.mpr ⟨mem_of_getElem? (show (ds.take n)[y.1]?=some z by rw[getElem?_take_of_lt yn];exact hz),decide_eq_true (by rw[e1];exact(hW _).mp wk)⟩;have:Cn (iU .ho (ds.take n)) z.2.1.toNat z.2.2.1.toNat:=.row hz' (by rw[e1,(hW _).mp wk];exact fun z=>by cases z);rw[e2,e3] at this;show Cn _ ((y.2.1:Nat):Int).toNat ((y.2.2:Nat):Int).toNat;rw[Int.toNat_natCast,Int.toNat_natCast];exact this
  ·exact ih
end L2
namespace Mq
theorem Ti {p:Q2}{a L l k:Int}(h:1<=p.2)(e:l=k*p.2)(l1:1<=l)(d:l ∣ L)(hL:1<=L)(v:val p=(a:Rat) / (L:Rat)):(Cy l p).natAbs<=a.natAbs:=by
 obtain⟨s,rfl⟩:=d;have s1:s≠0:=fun z=>by rw[z,Int.mul_zero] at hL;lia
 have hv:=Mo (L:=l) (k:=k) h e;have h2:=tX l1;have h3:((s:Int):Rat)≠0:=by exact_mod_cast s1
 have e2:Cy l p*s=a:=by
  have:((Cy l p:Int):Rat)*(s:Rat)=(a:Rat):=by
   rw[hv,v,Rat.intCast_mul];grind
  exact_mod_cast this
 rw[<- e2,Int.natAbs_mul];exact Nat.le_mul_of_pos_right _ (by lia)
end Mq
namespace Shp
open PySem L2
theorem Ir {X:List (List Q2)}{qs:List Q2}{L:Int}{b:Nat}(hX:fE X)(hq:Mq.Pos qs)(hl:qs.length=X.length)(hb:∀row∈X,∀p∈row,p.2 ∣ L/\∃a:Int,Mq.B b a/\val p=(a:Rat) / (L:Rat))(hqb:∀p∈qs,p.2 ∣ L/\∃a:Int,Mq.B b a/\val p=(a:Rat) / (L:Rat))(hL:1<=L):BdR b (iH X qs):=fun i x=>by
 unfold ent
 by_cases hi:i < X.length
 ·rw[uT hl hi];have pos:=sU hX hq hl hi;have al:∀p∈X.getD i []++[qs.getD i Mq.z0],p.2 ∣ L/\∃a:Int,Mq.B b a/\val p=(a:Rat) / (L:Rat):=fun p hp=>by
   rcases mem_append.mp hp with z | z
   ·exact hb _ (mem_of_getElem? (wG hi)) p z
   ·have e:p=qs.getD i Mq.z0:=by simpa using z
    rw[e];exact hqb _ (mem_of_getElem? (Mq.Ly (show i < qs.length by lia)))
  generalize X.getD i []++[qs.getD i Mq.z0]=row at pos al;obtain⟨dv,l1⟩:=Mq.xO pos (fun p hp=>(al p hp).1) row.length (Nat.le_refl _);rw[take_length] at dv l1;unfold iw;rw[getD_eq_getElem?_getD,getElem?_map]
  cases e:row[x]? with
  |none=>exact Nat.two_pow_pos _
  |some p=>
   have mem:=mem_of_getElem? e;obtain⟨_,a,ab,ea⟩:=al p mem;obtain⟨k,ek⟩:=Ch pos p mem;exact ab.le (Mq.Ti (pos p mem) ek l1 dv hL ea)
 ·rw[getD_eq_getElem?_getD (l:=iH X qs),getElem?_eq_none (by rw[By hl];lia)];exact Nat.two_pow_pos _
structure Ovr (n:Nat) (ps:List Q2):Prop where
 e:∃D:Int,1<=D/\Mq.B n D/\∀p∈ps,∃t:Int,Mq.B n t/\val p=(t:Rat) / (D:Rat)
theorem Sn {n:Nat}{d:Int}(d0:d≠0)(bd:Mq.B n d){ps:List Q2}(h:∀p∈ps,∃t:Int,Mq.B n t/\p=red t d):Ovr n ps:=by
 refine⟨(d.natAbs:Int),by lia,by show ((d.natAbs:Int)).natAbs < _;rw[Int.natAbs_natCast];exact bd,fun p hp=>?_⟩;obtain⟨t,bt,rfl⟩:=h p hp;rw[jW d0];rcases Int.lt_or_le d 0 with z | z
 ·refine⟨-t,bt.neg,?_⟩;rw[show ((d.natAbs:Nat):Int)=-d by lia,Rat.intCast_neg,Rat.intCast_neg];have:((d:Int):Rat)≠0:=by exact_mod_cast d0
  grind
 ·exact⟨t,bt,by rw[show ((d.natAbs:Nat):Int)=d by lia]⟩
def qQ (K:Frag):Sp:=fun vs H Q _=>∃(g b D:Addr) (H0:Hp) (us bs:List V) (X:List (List Q2)) (qs:List Q2) (k n:Nat),vs=[.ref g,.ref b]/\SqL K H g us/\Fmd K H0 D H us X/\SqL K H b bs/\Fqs K H bs qs/\qs.length=X.length/\gD qs/\(∀p∈qs,Bd k p)/\fE X/\(∀row∈X,(∀p∈row,Bd k p)/\row.length=X.length)/\X.length<=26/\10+k+k*(X.length+1)<=8000/\BdR n (iH X qs)/\1<=n/\bw n X.length<=8900/\wgt X≠0/\
 ∀l zs ps H',bC H H'->H l=none->H' l=some (.lst zs)->Fqs K H' zs ps->Wg X qs ps->Ovr (bw n X.length) ps->Q (.ref l) H'
end Shp
namespace L2
open PySem PySem.Spec PyProof.Rows Shp
abbrev wd (m:Nat)(ds:List RD):Nat:=m - 1+bN ds
structure Sv (m:Nat) (ds:List RD) (r:Nat->Rat) (v:Nat->Rat):Prop where
 z:v 0=0
 e:∀i,i < wd m ds->(Mq.rs (wd m ds) fun j=>eqM m ds (i+1) (j+1)*v (j+1))=r (i+1)
def un (k x:Nat):Rat:=if x=k then 1 else 0
abbrev wH (m:Nat)(ds:List RD)(a b:Nat)(v:Nat->Rat):Prop:=Sv m ds (fun x=>un a x - un b x) v
section
variable {m:Nat} {ds:List RD} {r v:Nat->Rat}
theorem Sv.uni (o:Nof m ds){u:Nat->Rat}(h:Sv m ds r v)(g:Sv m ds r u):∀j,j<=wd m ds->v j=u j:=fun j hj=>by
 by_cases c:j=0
 ·rw[c,h.z,g.z]
 ·have:=o.uni (v:=fun j=>v (j+1)) (w:=fun j=>u (j+1)) (r:=fun i=>r (i+1)) h.e g.e (j - 1) (by unfold wd at hj;lia)
  rwa [show j - 1+1=j by lia] at this
theorem Sv.row (o:Nof m ds)(h:Sv m ds r v){x:Nat}(x1:1<=x)(xw:x<=wd m ds):nt v m ds x+hw v m ds x=r x:=by
 have e:=h.e (x - 1) (by lia);have m1:=o.m1;rw[show x - 1+1=x by lia] at e;have c:∀j,j < wd m ds->eqM m ds x (j+1)*v (j+1)=v (j+1)*eqM m ds (j+1) x:=fun j _=>by rw[vK,Rat.mul_comm]
 rw[aS c,Fb (m:=m) (u:=v) h.z (by unfold wd;lia) x ds m o.pt m1 (by unfold wd;lia)] at e;exact e
theorem Sv.pt (o:Nof m ds)(h:Sv m ds r v){x:Nat}(x1:1<=x)(xm:x < m):nt v m ds x=r x:=by
 have:=h.row o x1 (by unfold wd;lia);rw[Hr ds m xm] at this;grind
theorem Sv.hold (o:Nof m ds)(h:Sv m ds r v){x:Nat}(xm:m<=x)(xw:x<=wd m ds):hw v m ds x=r x:=by
 have:=h.row o (by have:=o.m1;lia) xw;rw[Fz ds m o.pt xm] at this;grind
theorem Xs (o:Nof m ds):Mq.rs m (fun p=>nt v m ds p)=0:=by
 have:=Hq (u:=v) (m:=m) (fun _=>1) ds m o.pt (fun _ _ _=>rfl);rw[<- this];exact aS fun p _=>by grind
theorem Db {n k:Nat}(hk:k < n)(F:Nat->Rat):Mq.rs n (fun p=>F p*un k p)=F k:=by
 have:∀p,p < n->F p*un k p=if k=p then F p else 0:=fun p _=>by
  unfold un
  by_cases c:p=k
  ·rw[if_pos c,if_pos c.symm];grind
  ·rw[if_neg c,if_neg (fun z=>c z.symm)];grind
 rw[aS this,Aa,if_pos hk]
theorem Lp {n k:Nat}(hk:k < n):Mq.rs n (fun p=>un k p)=1:=by
 have:=Db hk (fun _=>1);rw[<- this];exact aS fun p _=>by grind
theorem wH.all {a b:Nat}(o:Nof m ds)(h:wH m ds a b v)(ha:a < m)(hb:b < m):∀p,p < m->nt v m ds p=un a p - un b p:=fun p hp=>by
 by_cases c:p=0
 ·have s:=Xs (v:=v) o;have t:Mq.rs m (fun p=>un a p - un b p)=0:=by
   have e:∀p,p < m->un a p - un b p=un a p + - un b p:=fun p _=>by grind
   rw[aS e,dG,jH,Lp ha,Lp hb];grind
  obtain⟨k,rfl⟩:∃k,m=k+1:=⟨m - 1,by lia⟩
  rw[oO] at s t;have e:Mq.rs k (fun i=>nt v (k+1) ds (i+1))=Mq.rs k (fun i=>un a (i+1) - un b (i+1)):=aS fun i hi=>h.pt o (by lia) (by lia);rw[e] at s;rw[c];grind
 ·exact h.pt o (by lia) hp
theorem wH.holds {a b:Nat}(o:Nof m ds)(h:wH m ds a b v)(ha:a < m)(hb:b < m):∀d∈ds,d.1=.ho->v d.2.1.toNat=v d.2.2.1.toNat:=
 An (u:=v) ds m fun y hy hl=>by
  rw[h.hold o hy (by have:=o.m1;unfold wd;lia)];unfold un;rw[if_neg (by lia),if_neg (by lia)];grind
theorem wH.eg {a b:Nat}(o:Nof m ds)(h:wH m ds a b v)(ha:a < m)(hb:b < m):L2.eg v m ds=v a - v b:=by
 rw[<- Of (u:=v) (m:=m) ds m o.pt];have e:∀p,p < m->v p*nt v m ds p=v p*un a p + - (v p*un b p):=fun p hp=>by rw[h.all o ha hb p hp];grind
 rw[aS e,dG,jH,Db ha,Db hb];grind
theorem wH.nn {a b:Nat}(o:Nof m ds)(h:wH m ds a b v)(ha:a < m)(hb:b < m):0<=v a - v b:=by
 rw[<- h.eg o ha hb];exact(Dl (u:=v) ds m o.pos (h.holds o ha hb)).1
end
theorem Ow (u:Nat->Rat):∀(A B:List RD) (h:Nat),eg u h (A++B)=eg u h A+eg u (h+bN A) B
 | [],B,h=>by show eg u h B=0+eg u (h+0) B;rw[Nat.add_zero];grind
 |d :: A,B,h=>by
  show fw u d h*_+eg u (h+cA d.1) (A++B)=fw u d h*_+eg u (h+cA d.1) A+_;rw[Ow u A B,fB,Nat.add_assoc];grind
theorem Pa (u:Nat->Rat)(p:Nat):∀(A B:List RD) (h:Nat),nt u h (A++B) p=nt u h A p+nt u (h+bN A) B p
 | [],B,h=>by show nt u h B p=0+nt u (h+0) B p;rw[Nat.add_zero];grind
 |d :: A,B,h=>by
  show fw u d h*_+nt u (h+cA d.1) (A++B) p=fw u d h*_+nt u (h+cA d.1) A p+_;rw[Pa u p A B,fB,Nat.add_assoc];grind
section
variable {m:Nat} {A B:List RD} {d:RD} {v:Nat->Rat}
theorem Od (o:Nof m (A++d :: B))(hk:d.1=.pc)(h:wH m (A++d :: B) d.2.1.toNat d.2.2.1.toNat v) :
  0<=v d.2.1.toNat - v d.2.2.1.toNat/\(v d.2.1.toNat - v d.2.2.1.toNat)*(1 / val d.2.2.2)<=1/\((v d.2.1.toNat - v d.2.2.1.toNat)*(1 / val d.2.2.2)=1↔¬Cn (A++B) d.2.1.toNat d.2.2.1.toNat):=by
 obtain⟨i0,i1,j0,j1⟩:=o.pt d (by simp);have ha:d.2.1.toNat < m:=by lia
 have hb:d.2.2.1.toNat < m:=by lia
 have nn:=h.nn o ha hb;have en:=h.eg o ha hb;have hol:=h.holds o ha hb;have zp:=o.pos d (by simp) hk;have qp:=Cz zp;rw[Ow] at en;have e1:eg v (m+bN A) (d :: B)=(v d.2.1.toNat - v d.2.2.1.toNat)*(1 / val d.2.2.2)*(v d.2.1.toNat - v d.2.2.1.toNat)+eg v (m+bN A+cA d.1) B:=by
  show fw v d _*_+_=_;unfold fw;rw[hk]
 rw[e1] at en;have nA:=Dl (u:=v) A m (fun x hx=>o.pos x (mem_append_left _ hx)) (fun x hx=>hol x (mem_append_left _ hx));have nB:=Dl (u:=v) B (m+bN A+cA d.1) (fun x hx=>o.pos x (mem_append_right _ (mem_cons_of_mem _ hx))) (fun x hx=>hol x (mem_append_right _ (mem_cons_of_mem _ hx)));refine⟨nn,?_,?_,?_⟩
 ·have nA:=nA.1;have nB:=nB.1;generalize eg v m A=x at *
  generalize eg v (m+bN A+cA d.1) B=y at *
  generalize v d.2.1.toNat - v d.2.2.1.toNat=R at *
  generalize 1 / val d.2.2.2=q at *
  rcases Rat.le_total (a:=R*q) (b:=1) with c | c
  ·exact c
  ·have h1:0<=(R*q - 1)*R:=Rat.mul_nonneg (by grind) nn;have h2:(R*q - 1)*R=-(x+y):=by grind
   have h3:(R*q - 1)*R=0:=by grind
   rcases Rat.mul_eq_zero.mp h3 with z | z
   ·grind
   ·rw[z];grind
 ·intro s1 cn;have x0:eg v m A=0/\eg v (m+bN A+cA d.1) B=0:=by
   have nA:=nA.1;have nB:=nB.1;rw[s1] at en;constructor<;>grind
  have pA:=nA.2 x0.1;have pB:=nB.2 x0.2;have:=Cn.ind (R:=fun a b=>v a=v b) (fun _=>rfl) (fun _ _ e=>e.symm) (fun _ _ _ a b=>a.trans b) (fun x hx hxk=>by
   rcases mem_append.mp hx with z | z
   ·cases c:x.1 with
    |pc=>exact pA x z c
    |pu=>exact absurd c hxk
    |ho=>exact hol x (mem_append_left _ z) c
   ·cases c:x.1 with
    |pc=>exact pB x z c
    |pu=>exact absurd c hxk
    |ho=>exact hol x (mem_append_right _ (mem_cons_of_mem _ z)) c) cn
  rw[this] at s1;grind
 ·intro nc
  open Classical in
  let F:Nat->Rat:=fun p=>if Cn (A++B) d.2.1.toNat p then 1 else 0
  have Fr:∀x∈A++B,x.1≠.pu->F x.2.1.toNat=F x.2.2.1.toNat:=fun x hx hxk=>by
   show (if Cn (A++B) d.2.1.toNat x.2.1.toNat then (1:Rat) else 0)=if Cn (A++B) d.2.1.toNat x.2.2.1.toNat then 1 else 0
   have r:Cn (A++B) x.2.1.toNat x.2.2.1.toNat:=.row hx hxk
   by_cases c:Cn (A++B) d.2.1.toNat x.2.1.toNat
   ·rw[if_pos c,if_pos (c.trans r)]
   ·rw[if_neg c,if_neg (fun z=>c (z.trans r.symm))]
  have Fs:F d.2.1.toNat=1:=if_pos (.refl _);have Fg:F d.2.2.1.toNat=0:=if_neg nc;have s1:Mq.rs m (fun p=>F p*nt v m (A++d :: B) p)=F d.2.1.toNat - F d.2.2.1.toNat:=by
   have e:∀p,p < m->F p*nt v m (A++d :: B) p=F p*un d.2.1.toNat p + - (F p*un d.2.2.1.toNat p):=fun p hp=>by rw[h.all o ha hb p hp];grind
   rw[aS e,dG,jH,Db ha,Db hb];grind
  have s2:Mq.rs m (fun p=>F p*nt v m (A++d :: B) p)=fw v d (m+bN A)*(F d.2.1.toNat - F d.2.2.1.toNat):=by
   have e:∀p,p < m->F p*nt v m (A++d :: B) p=F p*nt v m A p+(fw v d (m+bN A)*(F p*dl d.2.1.toNat d.2.2.1.toNat p)+F p*nt v (m+bN A+cA d.1) B p):=fun p hp=>by
    rw[Pa];show F p*(_+(fw v d (m+bN A)*dl d.2.1.toNat d.2.2.1.toNat p+nt v (m+bN A+cA d.1) B p))=_;grind
   rw[aS e,dG,dG,eX,yJ F ha hb,Hq F A m (fun x hx=>o.pt x (mem_append_left _ hx)) (fun x hx=>Fr x (mem_append_left _ hx)),Hq F B _ (fun x hx=>o.pt x (mem_append_right _ (mem_cons_of_mem _ hx))) (fun x hx=>Fr x (mem_append_right _ hx))];grind
  rw[s1,Fs,Fg] at s2;have f1:fw v d (m+bN A)=(v d.2.1.toNat - v d.2.2.1.toNat)*(1 / val d.2.2.2):=by unfold fw;rw[hk]
  rw[f1] at s2;grind
end
theorem bQ.seqI {K:Frag}{t a C dx:Addr}{fs:List (Str × V)}{H H':Hp}{xs:List V}(ht:H t=some (.ins C dx fs))(e:bQ t H H')(h:SqL K H a xs):SqL K H' a xs:=by
 rcases h with (h | ⟨u,h⟩) | h
 ·exact .inl (.inl (e _ _ h (dD h ht (fun z=>by cases z))))
 ·exact .inl (.inr ⟨u,e _ _ h (dD h ht (fun z=>by cases z))⟩)
 ·exact .inr h
theorem bQ.seqTI {K:Frag}{t a C dx:Addr}{fs:List (Str × V)}{H H':Hp}{xs:List V}(ht:H t=some (.ins C dx fs))(e:bQ t H H')(h:SqT K H a xs):SqT K H' a xs:=by
 rcases h with (h | ⟨u,h⟩) | h
 ·exact .inl (.inl (e _ _ h (dD h ht (fun z=>by cases z))))
 ·exact .inl (.inr ⟨u,e _ _ h (dD h ht (fun z=>by cases z))⟩)
 ·exact .inr h
theorem bQ.fqsI {K:Frag}{t C dx:Addr}{fs:List (Str × V)}{H H':Hp}(ht:H t=some (.ins C dx fs))(e:bQ t H H'):∀{xs:List V} {ps:List Q2},Fqs K H xs ps->Fqs K H' xs ps
 |_,_,.nil=>.nil
 |_,_,.cons f q=>.cons (bQ.seqTI ht e f) (bQ.fqsI ht e q)
theorem glo:¬(("levels":Str) = "flows"):=by decide +kernel
def jD (p l a:Addr):List (Str × V):=cP "flows" (.ref a) (cP "levels" (.ref l) (cP "lines" (.ref p) []))
theorem Re (p l a:Addr):(jD p l a).lookup ("levels":Str)=some (.ref l):=by
 unfold jD;rw[bK,if_neg glo,bK,if_pos rfl]
theorem Ub (p l a:Addr):(jD p l a).lookup ("flows":Str)=some (.ref a):=by
 unfold jD;rw[bK,if_pos rfl]
theorem tT (p l a:Addr){x:Str}(h1:¬x = "lines")(h2:¬x = "levels")(h3:¬x = "flows"):(jD p l a).lookup x=none:=by
 unfold jD;rw[bK,if_neg h3,bK,if_neg h2,bK,if_neg h1];rfl
structure AB (K:Frag) (mg:Str->Option Value) (CA:Addr):Prop where
 cl:Cls K CA
 nI:gG K CA "lines"
 nE:gG K CA "levels"
 nO:gG K CA "flows"
 mA:mg "Answer"=some (.ref CA)
structure wU (CA:Addr) (K:Frag) (H:Hp) (a:Addr) (lv fl:List Q2):Prop where
 e:∃(dx li le fo:Addr) (xs ys:List V),H a=some (.ins CA dx (jD li le fo))/\SqL K H le xs/\Fqs K H xs lv/\SqL K H fo ys/\Fqs K H ys fl
theorem wU.same {CA:Addr}{K:Frag}{H H':Hp}{a:Addr}{lv fl:List Q2}(s:bC H H')(h:wU CA K H a lv fl):wU CA K H' a lv fl:=by
 obtain⟨dx,li,le,fo,xs,ys,h1,h2,h3,h4,h5⟩:=h.e;exact⟨dx,li,le,fo,xs,ys,s _ _ h1,s.seq h2,h3.same s,s.seq h4,h5.same s⟩
def qH (CA:Addr)(K:Frag):Sp:=fun vs H Q _=>∃(a:Addr) (lv fl:List Q2),vs=[.ref a]/\wU CA K H a lv fl/\∀l xs H',bC H H'->H l=none->H' l=some (.lst xs)->Fqs K H' xs lv->Q (.ref l) H'
def wT (CA:Addr)(K:Frag):Sp:=fun vs H Q _=>∃(a:Addr) (lv fl:List Q2),vs=[.ref a]/\wU CA K H a lv fl/\∀l xs H',bC H H'->H l=none->H' l=some (.lst xs)->Fqs K H' xs fl->Q (.ref l) H'
def Tk (lv hs:List Q2)(t:Nat)(d:RD):Q2:=Ks d.1 (flF lv d) (if d.1=.ho then hs.getD t Mq.z0 else (0,1)) d.2.2.2
def vA (lv hs:List Q2):Nat->List RD->List Q2
 |_,[]=>[]
 |t,d :: r=>Tk lv hs t d :: vA lv hs (t+cA d.1) r
theorem xN (lv hs:List Q2)(d:RD):∀(ds:List RD) (t:Nat),vA lv hs t (ds++[d])=vA lv hs t ds++[Tk lv hs (t+bN ds) d]
 | [],t=>rfl
 |e :: r,t=>by
  show _ :: vA lv hs (t+cA e.1) (r++[d])=_ :: (vA lv hs (t+cA e.1) r++_);rw[xN lv hs d r,fB,Nat.add_assoc]
theorem Dc (lv hs:List Q2):∀(ds:List RD) (t:Nat),(vA lv hs t ds).length=ds.length
 | [],_=>rfl
 |d :: r,t=>by show (vA lv hs _ r).length+1=r.length+1;rw[Dc lv hs r]
def lvS (m:Nat)(sol:List Q2):List Q2:=(0,1) :: sol.take (m - 1)
section
variable {l CA a:Addr} {K:Frag} {H H':Hp} {lv fl:List Q2}
theorem bQ.fqsL {as:List V}(hl:H l=some (.lst as))(e:bQ l H H'):∀{xs:List V} {ps:List Q2},Fqs K H xs ps->Fqs K H' xs ps
 |_,_,.nil=>.nil
 |_,_,.cons f q=>.cons (e.seqT hl f) (bQ.fqsL hl e q)
end
theorem vF {p:Q2}(l:Low p){a L:Int}{b:Nat}(hL:1<=L)(LB:Mq.B b L)(ab:Mq.B b a)(h:val p=(a:Rat) / (L:Rat)):Bd b p/\p.2 ∣ L:=by
 obtain⟨d,t⟩:=Eb l hL h;refine⟨⟨ab.le t,LB.le ?_⟩,d⟩;have:=Int.le_of_dvd (by lia) d;have:=l.pos;lia
structure EqB (m b:Nat) (L:Int) (ds:List RD):Prop where
 o:Nof m ds
 w26:wd m ds<=26
 b1:1<=b
 hb:10+b+b*(wd m ds+1)<=8000
 hbw:bw b (wd m ds)<=4000
 L1:1<=L
 LB:Mq.B b L
 eM:∀i j,∃a:Int,Mq.B b a/\eqM m ds (i+1) (j+1)=(a:Rat) / (L:Rat)
def Q01 (p:Q2):Prop:=Low p/\p.2=1/\p.1.natAbs<=1
theorem Q01.bd {p:Q2}{b:Nat}(h:Q01 p)(b1:1<=b):Bd b p:=by
 obtain⟨_,e,l⟩:=h;have:(2:Nat) ^ 1<=2 ^ b:=Nat.pow_le_pow_right (by decide) b1;exact⟨by show p.1.natAbs < 2 ^ b;lia,by show p.2.natAbs < 2 ^ b;rw[e];show 1 < 2 ^ b;lia⟩
theorem Q01.ov {p:Q2}{b:Nat}{L:Int}(h:Q01 p)(L1:1<=L)(LB:Mq.B b L):p.2 ∣ L/\∃a:Int,Mq.B b a/\val p=(a:Rat) / (L:Rat):=by
 obtain⟨_,e,l⟩:=h;refine⟨by rw[e];exact Int.one_dvd _,p.1*L,LB.le ?_,?_⟩
 ·rw[Int.natAbs_mul]
  calc p.1.natAbs*L.natAbs<=1*L.natAbs:=Nat.mul_le_mul_right _ l
   _=L.natAbs:=Nat.one_mul _
 ·have:=tX L1;unfold val;rw[e,Rat.intCast_mul,show ((1:Int):Rat)=1 by rfl];grind
def uP (sol:List Q2)(x:Nat):Rat:=if x=0 then 0 else val (sol.getD (x - 1) Mq.z0)
section
variable {m b N:Nat} {L:Int} {ds:List RD} {X:List (List Q2)} {Y qs ps:List Q2}
theorem EqB.cell (h:EqB m b L ds)(e:zI m ds N X Y):∀row∈X,(∀p∈row,Bd b p/\p.2 ∣ L/\∃a:Int,Mq.B b a/\val p=(a:Rat) / (L:Rat))/\row.length=X.length:=fun row hr=>by
 refine⟨fun p hp=>?_,by rw[e.x.w row hr,e.x.h]⟩;obtain⟨i,hi⟩:=getElem?_of_mem hr;obtain⟨j,hj⟩:=getElem?_of_mem hp;have ep:p=jJ X i j:=by
  unfold jJ;rw[getD_eq_getElem?_getD (l:=X),hi];show p=row.getD j (0,1);rw[getD_eq_getElem?_getD,hj];rfl
 obtain⟨a,ab,ea⟩:=h.eM i j;have ev:val p=(a:Rat) / (L:Rat):=by rw[ep,e.vx,ea]
 obtain⟨x,y⟩:=vF (e.x.l row hr p hp).1 h.L1 h.LB ab ev;exact⟨x,y,a,ab,ev⟩
theorem EqB.pos (e:zI m ds N X Y):fE X:=fun row hr p hp=>(e.x.l row hr p hp).1.pos
theorem EqB.wgt (h:EqB m b L ds)(e:zI m ds N X Y):wgt X≠0:=by
 by_cases c:1<=X.length
 ·exact h.o.wgt_ne e (EqB.pos e) (fun row hr=>(h.cell e row hr).2) c
 ·have:X=[]:=eq_nil_of_length_eq_zero (by lia);subst this;show (1:Rat)≠0;decide
theorem EqB.sol (e:zI m ds N X Y)(s:Wg X qs ps){r:Nat->Rat}(vq:∀i,i < wd m ds->val (qs.getD i Mq.z0)=r (i+1)):Sv m ds r (uP ps):=by
 have lX:X.length=wd m ds:=e.x.h;refine⟨if_pos rfl,fun i hi=>?_⟩;rw[<- vq i hi,<- s.sum i (by lia),lX];refine aS fun j _=>?_;unfold uP;rw[if_neg (by lia),Nat.add_sub_cancel,Ny e]
end
theorem Ho {m:Nat}{ps:List Q2}(hl:m - 1<=ps.length){p:Nat}(hp:p < m):val ((lvS m ps).getD p (0,1))=uP ps p:=by
 unfold lvS uP
 by_cases c:p=0
 ·subst c;rw[if_pos rfl];exact vB
 ·rw[if_neg c];obtain⟨q,rfl⟩:∃q,p=q+1:=⟨p - 1,by lia⟩
  rw[Nat.add_sub_cancel,getD_eq_getElem?_getD,getElem?_cons_succ,getElem?_take_of_lt (by lia),<- getD_eq_getElem?_getD]
theorem Az {m:Nat}{ps:List Q2}(m1:1<=m)(hl:m - 1<=ps.length):(lvS m ps).length=m:=by
 unfold lvS;rw[length_cons,length_take];lia
theorem Ao {m:Nat}{ps:List Q2}(h:gD ps):gD (lvS m ps):=fun p hp=>by
 rcases mem_cons.mp hp with z | z
 ·rw[z];exact⟨by decide,by decide⟩
 ·exact h p (mem_of_mem_take z)
theorem Em {m n:Nat}{ps:List Q2}(h:Ovr n ps):Ovr n (lvS m ps):=by
 obtain⟨D,D1,bD,al⟩:=h.e;refine⟨D,D1,bD,fun p hp=>?_⟩;rcases mem_cons.mp hp with z | z
 ·refine⟨0,Nat.two_pow_pos _,?_⟩;rw[z,vB,Rat.div_def];show (0:Rat)=((0:Int):Rat)*_;rw[show ((0:Int):Rat)=0 by rfl];grind
 ·exact al p (mem_of_mem_take z)
theorem Ovr.minus {n:Nat}{ps:List Q2}(h:Ovr n ps)(low:gD ps){p q:Q2}(hp:p∈ps)(hq:q∈ps):Bd (n+1) (Mq.minus p q)/\Bd n p/\Bd n q:=by
 obtain⟨D,D1,bD,al⟩:=h.e;obtain⟨t,bt,et⟩:=al p hp;obtain⟨s,bs,es⟩:=al q hq;have lp:=low p hp;have lq:=low q hq;refine⟨?_,(vF lp D1 bD bt et).1,(vF lq D1 bD bs es).1⟩;refine(vF (iQ lp.pos lq.pos) D1 (bD.mono (by lia)) (bt.sub bs) ?_).1;rw[mI lp.pos lq.pos,et,es,Rat.intCast_sub,Rat.div_def,Rat.div_def,Rat.div_def];grind
structure Cr (CN:Addr) (K:Frag) (H:Hp) (n l:Addr) (m b:Nat) (kb:Nat->Nat) (L:Int) (ds:List RD):Prop where
 nt:dH CN K H n l (m:Int) ds
 ok:∀i d,ds[i]?=some d->zS (m:Int) d/\Bd (kb i) d.2.2.2
 m20:m<=20
 h40:ds.length<=40
 cu:kD kb ds.length+30<=8900
 eb:EqB m b L ds
theorem Cr.same {CN:Addr}{K:Frag}{H H':Hp}{n l:Addr}{m b:Nat}{kb:Nat->Nat}{L:Int}{ds:List RD}(s:bC H H')(h:Cr CN K H n l m b kb L ds):Cr CN K H' n l m b kb L ds:=⟨h.nt.same s,h.ok,h.m20,h.h40,h.cu,h.eb⟩
abbrev Hn:=Option (Nat × Nat) × RD
def rot (m t k:Nat):Nat:=(k+t) % m
structure Lx (m t:Nat) (e:Hn):Prop where
 pt:dC (m:Int) e.2.2.1 e.2.2.2.1
 sl:Low e.2.2.2.2
 bd:Bd 7 e.2.2.2.2
 pc:e.2.1=.pc->0 < e.2.2.2.2.1/\Bd 4 e.2.2.2.2
 ho:e.2.1=.ho->e.1≠none
 tg:∀k j,e.1=some (k,j)->e.2.1≠.pu/\1<=k/\k < m/\j < k/\((e.2.2.1=(rot m t k:Int)/\e.2.2.2.1=(rot m t j:Int))\/(e.2.2.1=(rot m t j:Int)/\e.2.2.2.1=(rot m t k:Int)))
abbrev tgs (E:List Hn):List (Nat × Nat):=E.filterMap (·.1)
structure Hng (m t J:Nat) (E:List Hn):Prop where
 m1:1<=m
 tm:t < m
 en:∀e∈E,Lx m t e
 nd:((tgs E).map (·.1)).Nodup
 al:∀k,1<=k->k < J->∃j,(k,j)∈tgs E
 lt:∀p∈tgs E,p.1 < J
 ln:(tgs E).length+1=J
section
variable {m t J:Nat} {E:List Hn}
theorem Qs (m1:1<=m)(k:Nat):rot m t k < m:=Nat.mod_lt _ (by lia)
theorem mD (tm:t < m){j k:Nat}(hj:j < m)(hk:k < m)(h:rot m t j=rot m t k):j=k:=by
 unfold rot at h;have a:(j+t) % m=if j+t < m then j+t else j+t - m:=by
  split
  ·exact Nat.mod_eq_of_lt (by assumption)
  ·rw[Nat.mod_eq_sub_mod (by lia),Nat.mod_eq_of_lt (by lia)]
 have b:(k+t) % m=if k+t < m then k+t else k+t - m:=by
  split
  ·exact Nat.mod_eq_of_lt (by assumption)
  ·rw[Nat.mod_eq_sub_mod (by lia),Nat.mod_eq_of_lt (by lia)]
 rw[a,b] at h;split at h<;>split at h<;>lia
theorem zC (tm:t < m){p:Nat}(hp:p < m):∃k,k < m/\rot m t k=p:=by
 by_cases c:t<=p
 ·exact⟨p - t,by lia,by unfold rot;rw[show p - t+t=p by lia,Nat.mod_eq_of_lt hp]⟩
 ·exact⟨p+m - t,by lia,by unfold rot;rw[show p+m - t+t=p+m by lia,Nat.add_mod_right,Nat.mod_eq_of_lt hp]⟩
theorem Hng.ins (h:Hng m t J E){e:Hn}(he:Lx m t e)(e0:e.1=none)(i:Nat):Hng m t J (E.take i++e :: E.drop i):=by
 have et:tgs (E.take i++e :: E.drop i)=tgs E:=by
  unfold tgs;rw[filterMap_append,filterMap_cons_none e0,<- filterMap_append,take_append_drop]
 refine⟨h.m1,h.tm,fun x hx=>?_,by rw[et];exact h.nd,fun k a b=>by rw[et];exact h.al k a b,fun p hp=>h.lt p (by rw[et] at hp;exact hp),by rw[et];exact h.ln⟩;rcases Hf hx with z | z
 ·rw[z];exact he
 ·exact h.en x z
theorem Hng.tree (h:Hng m t J E){e:Hn}{j:Nat}(he:Lx m t e)(e0:e.1=some (J,j))(i:Nat):Hng m t (J+1) (E.take i++e :: E.drop i):=by
 have et:(tgs (E.take i++e :: E.drop i)).Perm ((J,j) :: tgs E):=by
  unfold tgs;rw[filterMap_append,filterMap_cons_some e0];refine perm_middle.trans ?_;rw[<- filterMap_append,take_append_drop]
 refine⟨h.m1,h.tm,fun x hx=>?_,?_,fun k a b=>?_,fun p hp=>?_,?_⟩
 ·rcases Hf hx with z | z
  ·rw[z];exact he
  ·exact h.en x z
 ·rw[(et.map (·.1)).nodup_iff,map_cons,nodup_cons];refine⟨fun z=>?_,h.nd⟩;obtain⟨p,hp,ep⟩:=mem_map.mp z;have:=h.lt p hp;lia
 ·by_cases c:k=J
  ·exact⟨j,et.mem_iff.mpr (by rw[c];simp)⟩
  ·obtain⟨j',hj'⟩:=h.al k a (by lia);exact⟨j',et.mem_iff.mpr (mem_cons_of_mem _ hj')⟩
 ·rcases mem_cons.mp (et.mem_iff.mp hp) with z | z
  ·rw[z];show J < J+1;lia
  ·have:=h.lt p z;lia
 ·rw[et.length_eq,length_cons,h.ln]
inductive rP (T:List (Nat × Nat)) (k:Nat):Nat->Prop where
 |self:rP T k k
 |up {p q:Nat} (h:(p,q)∈T) (u:rP T k q):rP T k p
theorem rP.ge {T:List (Nat × Nat)}{k p:Nat}(d:∀p q,(p,q)∈T->q < p)(h:rP T k p):k<=p:=by
 induction h with
 |self=>exact Nat.le_refl _
 |up h _ ih=>have:=d _ _ h;lia
theorem Rg {T:List (Nat × Nat)}(nd:(T.map (·.1)).Nodup){p q q':Nat}(h:(p,q)∈T)(h':(p,q')∈T):q=q':=by
 induction T with
 |nil=>cases h
 |cons x T ih=>
  rw[map_cons,nodup_cons] at nd;rcases mem_cons.mp h with z | z<;>rcases mem_cons.mp h' with z' | z'
  ·rw[<- z] at z';exact(Prod.ext_iff.mp z').2.symm
  ·exact absurd (mem_map.mpr ⟨_,z',by rw[<- z]⟩) nd.1
  ·exact absurd (mem_map.mpr ⟨_,z,by rw[<- z']⟩) nd.1
  ·exact ih nd.2 z z'
theorem rP.iff {T:List (Nat × Nat)}{k p q:Nat}(nd:(T.map (·.1)).Nodup)(h:(p,q)∈T)(ne:p≠k):rP T k p↔rP T k q:=by
 refine⟨fun u=>?_,fun u=>.up h u⟩
 cases u with
 |self=>exact absurd rfl ne
 |up h' u=>rw[Rg nd h h'];exact u
theorem Oq:∀{E:List Hn},((tgs E).map (·.1)).Nodup->∀{i i':Nat} {e e':Hn} {k j j':Nat},E[i]?=some e->E[i']?=some e'->e.1=some (k,j)->e'.1=some (k,j')->i=i'
 | [],_,i,_,_,_,_,_,_,h,_,_,_=>by simp at h
 |x :: E,nd,i,i',e,e',k,j,j',h,h',t,t'=>by
  have mem:∀{a:Nat} {y:Hn} {b:Nat},E[a]?=some y->y.1=some (k,b)->k∈(tgs E).map (·.1):=fun hy ty=>mem_map.mpr ⟨_,mem_filterMap.mpr ⟨_,mem_of_getElem? hy,ty⟩,rfl⟩;have nd':((tgs E).map (·.1)).Nodup:=by
   unfold tgs at nd;rw[filterMap_cons] at nd;split at nd
   ·exact nd
   ·rw[map_cons] at nd;exact(nodup_cons.mp nd).2
  have no:∀{b:Nat},x.1=some (k,b)->k∉(tgs E).map (·.1):=fun tx=>by
   unfold tgs at nd;rw[filterMap_cons_some tx,map_cons] at nd;exact(nodup_cons.mp nd).1
  match i,i',h,h' with
  |0,0,_,_=>rfl
  |0,a+1,h,h'=>
   have:x=e:=by simpa using h
   subst this;exact absurd (mem (by simpa using h') t') (no t)
  |a+1,0,h,h'=>
   have:x=e':=by simpa using h'
   subst this;exact absurd (mem (by simpa using h) t) (no t')
  |a+1,a' + 1,h,h'=>
   have:=Oq nd' (i:=a) (i':=a') (by simpa using h) (by simpa using h') t t';lia
abbrev rwH (E:List Hn):List RD:=E.map (·.2)
theorem Hng.pt (h:Hng m t J E):∀d∈rwH E,dC (m:Int) d.2.1 d.2.2.1:=fun d hd=>by
 obtain⟨e,he,rfl⟩:=mem_map.mp hd;exact(h.en e he).pt
theorem Hng.cn0 (h:Hng m t m E):∀n k,k<=n->k < m->Cn (rwH E) (rot m t 0) (rot m t k)
 |n,0,_,_=>.refl _
 |0,k+1,hk,_=>by lia
 |n+1,k+1,hk,hm=>by
  obtain⟨j,hj⟩:=h.al (k+1) (by lia) hm;obtain⟨e,he,te⟩:=mem_filterMap.mp hj;obtain⟨hp,_,_,jk,ends⟩:=(h.en e he).tg _ _ te;have ih:=Hng.cn0 h n j (by lia) (by lia);have r:Cn (rwH E) e.2.2.1.toNat e.2.2.2.1.toNat:=.row (mem_map.mpr ⟨e,he,rfl⟩) hp;rcases ends with ⟨a,b⟩ | ⟨a,b⟩
  ·rw[a,b,Int.toNat_natCast,Int.toNat_natCast] at r;exact ih.trans r.symm
  ·rw[a,b,Int.toNat_natCast,Int.toNat_natCast] at r;exact ih.trans r
theorem Hng.cn (h:Hng m t m E)(p:Nat)(hp:p < m):Cn (rwH E) 0 p:=by
 obtain⟨k,hk,rfl⟩:=zC h.tm hp;obtain⟨k0,hk0,e0⟩:=zC h.tm (show 0 < m by have:=h.m1;lia);have a:=h.cn0 k k (Nat.le_refl _) hk;have b:=h.cn0 k0 k0 (Nat.le_refl _) hk0;rw[e0] at b;exact b.symm.trans a
theorem Hng.frs (h:Hng m t J E):Frs (rwH E):=by
 intro A B d e hd cn;have at_:(rwH E)[A.length]?=some d:=by rw[e,getElem?_append_right (Nat.le_refl _),Nat.sub_self];rfl
 have atx:∀i x,i < A.length->A[i]?=some x->∃y:Hn,E[i]?=some y/\y.2=x:=fun i x hi hx=>by
  have:(rwH E)[i]?=some x:=by rw[e,getElem?_append_left hi];exact hx
  rw[getElem?_map] at this;obtain⟨y,hy,ey⟩:=Option.map_eq_some_iff.mp this;exact⟨y,hy,ey⟩
 rw[getElem?_map] at at_;obtain⟨y,hy,rfl⟩:=Option.map_eq_some_iff.mp at_;have oy:=h.en y (mem_of_getElem? hy);obtain⟨⟨k,j⟩,tk⟩:∃p,y.1=some p:=Option.ne_none_iff_exists'.mp (oy.ho hd);obtain⟨_,k1,km,jk,ends⟩:=oy.tg k j tk;have dec:∀p q,(p,q)∈tgs E->q < p:=fun p q hpq=>by
  obtain⟨z,hz,tz⟩:=mem_filterMap.mp hpq;exact((h.en z hz).tg _ _ tz).2.2.2.1
 have r:=Cn.ind (ds:=iU .ho A) (R:=fun p q=>p=q\/(p < m/\q < m/\∀a b,a < m->b < m->rot m t a=p->rot m t b=q->(rP (tgs E) k a↔rP (tgs E) k b))) (fun p=>.inl rfl) (fun p q f=>by
  rcases f with f | ⟨x,y,f⟩
  ·exact .inl f.symm
  ·exact .inr ⟨y,x,fun a b ha hb e1 e2=>(f b a hb ha e2 e1).symm⟩) (fun p q x f g=>by
  rcases f with f | ⟨f1,f2,f⟩
  ·rw[f];exact g
  ·rcases g with g | ⟨g1,g2,g⟩
   ·rw[<- g];exact .inr ⟨f1,f2,f⟩
   ·refine .inr ⟨f1,g2,fun a b ha hb e1 e2=>?_⟩;obtain⟨c,hc,ec⟩:=zC h.tm f2;exact(f a c ha hc e1 ec).trans (g c b hc hb ec e2)) (fun x hx hk=>by
  obtain⟨xA,xk⟩:=mem_filter.mp hx;obtain⟨i,hi⟩:=getElem?_of_mem xA;have il:=(List.getElem?_eq_some_iff.mp hi).1;obtain⟨z,hz,rfl⟩:=atx i x il hi;have oz:=h.en z (mem_of_getElem? hz);obtain⟨⟨k',j'⟩,tk'⟩:∃p,z.1=some p:=Option.ne_none_iff_exists'.mp (oz.ho (of_decide_eq_true xk));obtain⟨_,a1,am,jk',ends'⟩:=oz.tg k' j' tk';have ne:k'≠k:=fun c=>by
   rw[c] at tk';have:=Oq h.nd hz hy tk' tk;lia
  have mem:(k',j')∈tgs E:=mem_filterMap.mpr ⟨z,mem_of_getElem? hz,tk'⟩;have iff:=rP.iff h.nd mem ne;obtain⟨q0,q1,q2,q3⟩:=oz.pt;refine .inr ⟨by lia,by lia,fun a b ha hb e1 e2=>?_⟩;rcases ends' with ⟨x,y⟩ | ⟨x,y⟩
  ·rw[x,Int.toNat_natCast] at e1;rw[y,Int.toNat_natCast] at e2;rw[mD h.tm ha am e1,mD h.tm hb (by lia) e2];exact iff
  ·rw[x,Int.toNat_natCast] at e1;rw[y,Int.toNat_natCast] at e2;rw[mD h.tm ha (by lia) e1,mD h.tm hb am e2];exact iff.symm) cn
 have no:¬rP (tgs E) k j:=fun c=>by
  have:=c.ge dec;lia
 rcases ends with ⟨a,b⟩ | ⟨a,b⟩
 ·rw[a,b,Int.toNat_natCast,Int.toNat_natCast] at r;rcases r with r | ⟨_,_,r⟩
  ·have:=mD h.tm km (by lia) r;lia
  ·exact no ((r k j km (by lia) rfl rfl).mp .self)
 ·rw[a,b,Int.toNat_natCast,Int.toNat_natCast] at r;rcases r with r | ⟨_,_,r⟩
  ·have:=mD h.tm (by lia) km r;lia
  ·exact no ((r j k (by lia) km rfl rfl).mpr .self)
end
abbrev Pr2:=RD × Q2
abbrev prE (E:List Ent):List Pr2:=E.map (·.2)
section
variable {m u:Nat} {hs:List Q2} {par:Nat->Nat} {E:List Ent}
abbrev M0 (u:Nat):Nat:=(2 ^ u+2 ^ u)*2 ^ u
theorem Pg {L:Int}{M x y:Nat}:∀{ds:List RD} (k:Nat),(∀d∈ds,∀k,Mq.Fr L M (cM d k x y))->Mq.Fr L (ds.length*M) (eqM k ds x y)
 | [],_,_=>Mq.Fr.zero.mono (Nat.zero_le _)
 |d :: ds,k,q=>by
  rw[length_cons,Nat.succ_mul,Nat.add_comm];exact(q d (by simp) k).add (Pg _ fun x hx=>q x (mem_cons_of_mem _ hx))
theorem Pf {L:Int}{M x:Nat}:∀{ds:List RD} (k:Nat),(∀d∈ds,∀k,Mq.Fr L M (cR d k x))->Mq.Fr L (ds.length*M) (eqR k ds x)
 | [],_,_=>Mq.Fr.zero.mono (Nat.zero_le _)
 |d :: ds,k,q=>by
  rw[length_cons,Nat.succ_mul,Nat.add_comm];exact(q d (by simp) k).add (Pf _ fun x hx=>q x (mem_cons_of_mem _ hx))
theorem Ex {L:Int}{M:Nat}{y:Rat}{c:Prop}[Decidable c](g:Mq.Fr L M y):Mq.Fr L M (if c then y else 0):=by
 split
 ·exact g
 ·exact Mq.Fr.zero.mono (Nat.zero_le _)
end
section
variable {m t J:Nat} {E:List Hn}
theorem Hng.hold_le (h:Hng m t J E):bN (rwH E)+1<=J:=by
 have:∀{E:List Hn},(∀e∈E,e.2.1=.ho->e.1≠none)->bN (rwH E)<=(tgs E).length:=fun {E}=>by
  induction E with
  |nil=>intro _;exact Nat.le_refl _
  |cons e E ih=>
   intro h;have ih:=ih fun x hx=>h x (mem_cons_of_mem _ hx);show bN (e.2 :: rwH E)<=_;rw[fB];unfold tgs at ih ⊢;rw[filterMap_cons]
   by_cases c:e.2.1=.ho
   ·obtain⟨k,tk⟩:∃k,e.1=some k:=Option.ne_none_iff_exists'.mp (h e (by simp) c);rw[tk];have:cA e.2.1=1:=if_pos c;simp only[length_cons];lia
   ·have:cA e.2.1=0:=if_neg c;split<;>(try simp only[length_cons])<;>lia
 have a:=this fun e he hk=>(h.en e he).ho hk;have:=h.ln;lia
theorem Hng.nof (h:Hng m t m E):Nof m (rwH E):=by
 refine⟨h.m1,h.pt,fun d hd hk=>?_,h.cn,h.frs⟩;obtain⟨e,he,rfl⟩:=mem_map.mp hd;have p0:=((h.en e he).pc hk).1;have:=(h.en e he).sl.pos;unfold val;rw[Rat.div_def];exact Rat.mul_pos (by exact_mod_cast p0) (Rat.inv_pos.mpr (by exact_mod_cast (show 0 < e.2.2.2.2.2 by lia)))
def LH (E:List Hn):Int:=prB (E.map fun e=>if e.2.1=.pc then e.2.2.2.2.1 else 1)
theorem Hng.L (h:Hng m t J E):1<=LH E/\Mq.B (4*E.length+1) (LH E)/\∀d∈rwH E,d.1=.pc->0 < d.2.2.2.1/\d.2.2.2.1 ∣ LH E/\1<=d.2.2.2.2/\d.2.2.2.2.natAbs<=16:=by
 have al:∀a∈(E.map fun e=>if e.2.1=.pc then e.2.2.2.2.1 else 1),1<=a/\Mq.B 4 a:=fun a ha=>by
  obtain⟨e,he,rfl⟩:=mem_map.mp ha;split
  ·rename_i c
   obtain⟨p0,b⟩:=(h.en e he).pc c;exact⟨p0,b.a⟩
  ·exact⟨by decide,show (1:Nat) < 2 ^ 4 by decide⟩
 refine⟨Bf fun a ha=>(al a ha).1,?_,fun d hd hk=>?_⟩
 ·have:=Pc (u:=4) fun a ha=>(al a ha).2;rw[length_map] at this;exact this
 ·obtain⟨e,he,rfl⟩:=mem_map.mp hd;obtain⟨p0,b⟩:=(h.en e he).pc hk;refine⟨p0,zO (mem_map.mpr ⟨e,he,if_pos hk⟩),(h.en e he).sl.pos,Nat.le_of_lt b.b⟩
end
abbrev sk3 (d:RD):Kd × Int × Int:=(d.1,d.2.1,d.2.2.1)
theorem Cn.sk {ds es:List RD}(h:ds.map sk3=es.map sk3){p q:Nat}(c:Cn ds p q):Cn es p q:=by
 refine Cn.ind (R:=fun p q=>Cn es p q) (fun p=>.refl p) (fun _ _=>.symm) (fun _ _ _=>.trans) (fun x hx hk=>?_) c;have:sk3 x∈es.map sk3:=by rw[<- h];exact mem_map.mpr ⟨x,hx,rfl⟩
 obtain⟨y,hy,e⟩:=mem_map.mp this;have e1:y.1=x.1:=congrArg (·.1) e;have e2:y.2.1=x.2.1:=congrArg (·.2.1) e;have e3:y.2.2.1=x.2.2.1:=congrArg (·.2.2) e;have:=Cn.row hy (by rw[e1];exact hk);rw[e2,e3] at this;exact this
theorem Pb (k:Kd){ds es:List RD}(h:ds.map sk3=es.map sk3):(iU k ds).map sk3=(iU k es).map sk3:=by
 have:∀l:List RD,(iU k l).map sk3=(l.map sk3).filter fun x=>decide (x.1=k):=fun l=>by
  unfold iU;rw[filter_map];rfl
 rw[this,this,h]
theorem Yz {ds es:List RD}(h:ds.map sk3=es.map sk3):bN ds=bN es:=by
 have:=congrArg List.length (Pb .ho h);rw[length_map,length_map] at this;exact this
theorem Frs.sk {ds es:List RD}(h:ds.map sk3=es.map sk3)(f:Frs ds):Frs es:=by
 intro A B d e hd cn;have hl:ds.length=es.length:=by have:=congrArg List.length h;rwa [length_map,length_map] at this
 have hn:A.length < ds.length:=by rw[hl,e,length_append,length_cons];lia
 have eA:(ds.take A.length).map sk3=A.map sk3:=by rw[map_take,h,<- map_take,e,take_left]
 have ed:sk3 ds[A.length]=sk3 d:=by
  have a1:(ds.map sk3)[A.length]?=some (sk3 ds[A.length]):=by rw[getElem?_map,getElem?_eq_getElem hn];rfl
  have a2:(es.map sk3)[A.length]?=some (sk3 d):=by rw[getElem?_map,e,getElem?_append_right (Nat.le_refl _),Nat.sub_self];rfl
  rw[h,a2] at a1;exact(Option.some.inj a1).symm
 have e1:(ds[A.length]).1=d.1:=congrArg (·.1) ed;have e2:(ds[A.length]).2.1=d.2.1:=congrArg (·.2.1) ed;have e3:(ds[A.length]).2.2.1=d.2.2.1:=congrArg (·.2.2) ed;refine f (ds.take A.length) (ds.drop (A.length+1)) ds[A.length] (by rw[getElem_cons_drop,take_append_drop]) (by rw[e1];exact hd) ?_;rw[e2,e3];exact Cn.sk (Pb .ho eA.symm) cn
theorem Nof.sk {m:Nat}{ds es:List RD}(h:ds.map sk3=es.map sk3)(o:Nof m ds)(pos:∀d∈es,d.1=.pc->0 < val d.2.2.2):Nof m es:=by
 refine⟨o.m1,fun d hd=>?_,pos,fun p hp=>Cn.sk h (o.cn p hp),Frs.sk h o.fr⟩;have:sk3 d∈ds.map sk3:=by rw[h];exact mem_map.mpr ⟨d,hd,rfl⟩
 obtain⟨y,hy,e⟩:=mem_map.mp this;have e2:y.2.1=d.2.1:=congrArg (·.2.1) e;have e3:y.2.2.1=d.2.2.1:=congrArg (·.2.2) e;have:=o.pt y hy
 rwa [e2,e3] at this
theorem Yu {ds:List RD}{i:Nat}{d d':RD}(h:ds[i]?=some d)(e:sk3 d'=sk3 d):ds.map sk3=(ds.set i d').map sk3:=by
 refine ext_getElem? fun j=>?_;rw[getElem?_map,getElem?_map,getElem?_set]
 by_cases c:i=j
 ·subst c;rw[if_pos rfl,h,if_pos (List.getElem?_eq_some_iff.mp h).1];show some (sk3 d)=some (sk3 d');rw[e]
 ·rw[if_neg c]
def shR (m:Nat)(ds:List RD)(k:Nat)(d:RD)(x:Nat):Rat:=if d.1=.ho then un (m+bN (ds.take k)) x else un d.2.1.toNat x - un d.2.2.1.toNat x
theorem Xm {ds:List RD}{i:Nat}{d:RD}(h:ds[i]?=some d):bN (ds.take (i+1))=bN (ds.take i)+cA d.1:=by
 rw[take_add_one,h];exact fK _ _
theorem Rc (ds:List RD)(i:Nat):bN (ds.take i)<=bN ds:=by
 have:ds=ds.take i++ds.drop i:=(take_append_drop i ds).symm;unfold bN iU
 conv=>rhs;rw[this]
 rw[filter_append,length_append];lia
theorem Wc {ds:List RD}{k:Nat}{d:RD}(h:ds[k]?=some d)(hd:d.1=.ho):bN (ds.take k) < bN ds:=by
 have a:=Xm h;have b:=Rc ds (k+1);have:cA d.1=1:=by rw[hd];rfl
 lia
structure StB (K:Frag) (H:Hp) (b:Addr) (ys:List V) (ss:List Q2) (n:Nat):Prop where
 s:SqL K H b ys
 f:Fqs K H ys ss
 l:ss.length=n
 b:∀s∈ss,Low s/\Bd 3900 s
theorem StB.same {K:Frag}{H H':Hp}{b:Addr}{ys:List V}{ss:List Q2}{n:Nat}(e:bC H H')(h:StB K H b ys ss n):StB K H' b ys ss n:=⟨e.seq h.s,h.f.same e,h.l,h.b⟩
def Bm (K:Frag)(CK:Kd->Addr):Sp:=fun vs H Q _=>∃(x a:Addr) (d:RD) (z:V) (xs:List V) (hp:List Q2) (n:Nat),vs=[.ref x,.ref a]/\Rw CK H x d.1 (.int d.2.1) (.int d.2.2.1) z/\StB K H a xs hp n/\dC (n:Int) d.2.1 d.2.2.1/\nV H Q (flF hp d)
theorem Fd {n:Nat}{ps:List Q2}(h:Ovr n ps)(low:gD ps)(hn:n<=3900):∀p∈ps,Low p/\Bd 3900 p:=fun p hp=>⟨low p hp,(Ovr.minus h low hp hp).2.1.mono hn⟩
theorem Ze {n:Nat}:Bd (n+1) (0,1):=⟨Nat.two_pow_pos _,Nat.one_lt_two_pow (by lia)⟩
abbrev En:=Nat × Q2 × List Stp
abbrev eks (es:List En):List Nat:=es.map (·.1)
structure Dz (m:Nat) (L:Int) (ds:List RD):Prop where
 o:Nof m ds
 m5:m<=5
 w8:wd m ds<=8
 L1:1<=L
 LB:Mq.B 116 L
 dv:∀d∈ds,d.1=.pc->0 < d.2.2.2.1/\d.2.2.2.1 ∣ L/\1<=d.2.2.2.2/\d.2.2.2.2.natAbs<=128
 ok:∀d∈ds,zS (m:Int) d/\Bd 41 d.2.2.2
 len:ds.length<=40
section
variable {CN:Addr} {K:Frag} {H:Hp} {n l:Addr} {m:Nat} {L:Int} {ds:List RD}
theorem Ih (a:Nat):∀n,kD (fun _=>a) n=(4*a+20)*n
 |0=>rfl
 |n+1=>by show kD _ n+(4*a+20)=_;rw[Ih a n,Nat.mul_succ]
theorem Hng.dz {t:Nat}{E:List Hn}(h:Hng m t m E)(m4:m<=4)(le:E.length<=m - 1+7):Dz m (LH E) (rwH E)/\Mq.B 50 (LH E)/\wd m (rwH E)<=7/\(rwH E).length < 40/\∀d∈rwH E,Bd 7 d.2.2.2/\(d.1=.pc->Bd 4 d.2.2.2):=by
 have m1:=h.m1;obtain⟨L1,LB,dv⟩:=h.L;have hl:=h.hold_le;have lE:(rwH E).length=E.length:=length_map ..;have w:wd m (rwH E)<=7:=by unfold wd;lia
 refine⟨⟨h.nof,by lia,by lia,L1,LB.mono (by lia),fun d hd hk=>?_,fun d hd=>?_,by lia⟩,LB.mono (by lia),w,by lia,fun d hd=>?_⟩
 ·obtain⟨a,b,c,e⟩:=dv d hd hk;exact⟨a,b,c,by lia⟩
 ·obtain⟨e,he,rfl⟩:=mem_map.mp hd;have oe:=h.en e he;obtain⟨p1,p2,p3,p4⟩:=oe.pt;exact⟨⟨p1,p2,p3,p4,oe.sl,fun hk=>(oe.pc hk).1,oe.bd.mono (by lia)⟩,oe.bd.mono (by lia)⟩
 ·obtain⟨e,he,rfl⟩:=mem_map.mp hd;exact⟨(h.en e he).bd,fun hk=>((h.en e he).pc hk).2⟩
end
structure SzW (L:Int) (k:Kd) (p:Q2):Prop where
 lo:Low p
 bd:Bd 31 p
 pc:k=.pc->0 < p.1/\p.1 ∣ L/\p.2.natAbs<=128
 ot:k≠.pc->p.2 ∣ L
structure Dw (m:Nat) (L:Int) (ds:List RD):Prop where
 o:Nof m ds
 m5:m<=5
 w8:wd m ds<=8
 L1:1<=L
 LB:Mq.B 140 L
 ok:∀d∈ds,zS (m:Int) d/\SzW L d.1 d.2.2.2
 len:ds.length<=40
section
variable {CN:Addr} {K:Frag} {H:Hp} {n l:Addr} {m:Nat} {L:Int} {ds:List RD}
theorem Dw.eqb (h:Dw m L ds):EqB m 180 L ds:=by
 have w8:=h.w8;have L1:=h.L1;refine⟨h.o,by lia,by lia,by lia,?_,L1,h.LB.mono (by lia),fun i j=>?_⟩
 ·show (180+5)*(wd m ds+1)+8<=4000;lia
 have one:=Mq.Fr.one L1;have c:∀d∈ds,∀k,Mq.Fr L 130 (cM d k (i+1) (j+1)):=fun d hd k=>by
  unfold cM
  cases hk:d.1 with
  |pu=>exact Mq.Fr.zero.mono (Nat.zero_le _)
  |ho=>
   dsimp only;refine(Mq.Fr.add (Dt (Ex one) _ _ _) (N:=1) ?_).mono (by decide);rw[Rat.mul_comm];exact Dt (Ex one) _ _ _
  |pc=>
   obtain⟨p0,dvd,le⟩:=(h.ok d hd).2.pc hk;have p1:=(h.ok d hd).2.lo.pos;dsimp only;rw[Rat.mul_assoc];have:1 / val d.2.2.2=((d.2.2.2.2:Int):Rat) / ((d.2.2.2.1:Int):Rat):=by
    have:=tX p1;have:=tX (show 1<=d.2.2.2.1 by lia);unfold val;grind
   rw[this];exact(Dt (Dt (Mq.Fr.of L1 (by lia) dvd le) _ _ _) _ _ _).mono (by decide)
 refine Mq.Fr.get (m:=13) (n:=140) (Pg m c) ?_ h.LB (by lia)
 calc ds.length*130<=40*130:=Nat.mul_le_mul_right _ h.len
  _ < 2 ^ 13:=by decide
theorem Dw.eR (h:Dw m L ds)(i:Nat):∃a:Int,Mq.B 180 a/\eqR m ds (i+1)=(a:Rat) / (L:Rat):=by
 have L1:=h.L1;have c:∀d∈ds,∀k,Mq.Fr L (2 ^ 31) (cR d k (i+1)):=fun d hd k=>by
  have sz:=(h.ok d hd).2;unfold cR
  cases hk:d.1 with
  |pc=>exact Mq.Fr.zero.mono (Nat.zero_le _)
  |pu=>
   dsimp only;rw[Rat.neg_mul];exact(Dt (uG L1 sz.lo (sz.ot (by rw[hk];decide)) sz.bd) _ _ _).neg
  |ho=>
   dsimp only;exact Ex (uG L1 sz.lo (sz.ot (by rw[hk];decide)) sz.bd)
 refine Mq.Fr.get (m:=37) (n:=140) (Pf m c) ?_ h.LB (by lia)
 calc ds.length*2 ^ 31<=40*2 ^ 31:=Nat.mul_le_mul_right _ h.len
  _ < 2 ^ 37:=by decide
theorem Dw.net (h:Dw m L ds)(nt:dH CN K H n l (m:Int) ds):Cr CN K H n l m 180 (fun _=>31) L ds:=by
 have m5:=h.m5;have len:=h.len;refine⟨nt,fun i d hd=>let ⟨a,b⟩:=h.ok d (mem_of_getElem? hd);⟨a,b.bd⟩,by lia,h.len,?_,h.eqb⟩;rw[Ih];lia
theorem Dw.bwle (h:Dw m L ds):bw 180 (wd m ds)<=1673:=by
 have w8:=h.w8;show (180+5)*(wd m ds+1)+8<=1673;lia
def szS (ds:List RD)(i:Nat)(p:Q2):List RD:=match ds[i]? with
 |some d=>ds.set i (d.1,d.2.1,d.2.2.1,p)
 |none=>ds
theorem nX {i:Nat}{d:RD}{p:Q2}(hd:ds[i]?=some d):szS ds i p=ds.set i (d.1,d.2.1,d.2.2.1,p):=by unfold szS;rw[hd]
theorem Eu (ds:List RD)(i:Nat)(p:Q2):ds.map sk3=(szS ds i p).map sk3:=by
 cases hd:ds[i]? with
 |none=>unfold szS;rw[hd]
 |some d=>rw[nX hd];exact Yu hd rfl
theorem Ak (ds:List RD)(i:Nat)(p:Q2):(szS ds i p).length=ds.length:=by
 have:=congrArg List.length (Eu ds i p);rw[length_map,length_map] at this;exact this.symm
theorem iY {i:Nat}{d:RD}{p:Q2}(hd:ds[i]?=some d)(j:Nat):(szS ds i p)[j]?=if i=j then some (d.1,d.2.1,d.2.2.1,p) else ds[j]?:=by
 rw[nX hd,getElem?_set];split
 ·rename_i c
  subst c;rw[if_pos (List.getElem?_eq_some_iff.mp hd).1]
 ·rfl
theorem Wm {i j:Nat}{d e:RD}{p:Q2}(hd:ds[i]?=some d)(he:ds[j]?=some e):∃e',(szS ds i p)[j]?=some e'/\e'.1=e.1:=by
 rw[iY hd];split
 ·rename_i c
  subst c;rw[hd] at he
  cases he
  exact⟨_,rfl,rfl⟩
 ·exact⟨e,he,rfl⟩
theorem Dw.set (h:Dw m L ds){i:Nat}{d:RD}{p:Q2}(hd:ds[i]?=some d)(sz:SzW L d.1 p):Dw m L (szS ds i p):=by
 have ok:∀e∈szS ds i p,zS (m:Int) e/\SzW L e.1 e.2.2.2:=fun e he=>by
  rw[nX hd] at he;rcases mem_or_eq_of_mem_set he with z | z
  ·exact h.ok e z
  ·rw[z];obtain⟨⟨r1,r2,r3,r4,_⟩,_⟩:=h.ok d (mem_of_getElem? hd);exact⟨⟨r1,r2,r3,r4,sz.lo,fun hk=>(sz.pc hk).1,sz.bd.mono (by lia)⟩,sz⟩
 refine⟨Nof.sk (Eu ds i p) h.o fun e he hk=>?_,h.m5,?_,h.L1,h.LB,ok,by rw[Ak];exact h.len⟩
 ·have z:=(ok e he).2;have p2:=z.lo.pos;have p1:=(z.pc hk).1;unfold val;rw[Rat.div_def];exact Rat.mul_pos (by exact_mod_cast p1) (Rat.inv_pos.mpr (by exact_mod_cast (show 0 < e.2.2.2.2 by lia)))
 ·have:=h.w8;unfold wd at this ⊢;rw[<- Yz (Eu ds i p)];exact this
theorem SzW.mul {L M:Int}{k:Kd}{p:Q2}(h:SzW L k p)(d:L ∣ M):SzW M k p:=⟨h.lo,h.bd,fun hk=>let ⟨a,b,c⟩:=h.pc hk;⟨a,Int.dvd_trans b d,c⟩,fun hk=>Int.dvd_trans (h.ot hk) d⟩
theorem Dw.mul {M:Int}(h:Dw m L ds)(M1:1<=M)(MB:Mq.B 140 M)(d:L ∣ M):Dw m M ds:=⟨h.o,h.m5,h.w8,M1,MB,fun e he=>⟨(h.ok e he).1,(h.ok e he).2.mul d⟩,h.len⟩
structure iE (m:Nat) (ds:List RD) (lv fl:List Q2):Prop where
 e:∃ps:List Q2,lv=lvS m ps/\fl=vA (lvS m ps) (ps.drop (m - 1)) 0 ds/\ps.length=wd m ds/\gD ps/\Ovr (bw 180 (wd m ds)) ps/\Sv m ds (eqR m ds) (uP ps)
theorem iE.uni {lv fl lv' fl':List Q2}(o:Nof m ds)(h:iE m ds lv fl)(g:iE m ds lv' fl'):lv=lv'/\fl=fl':=by
 obtain⟨ps,e1,e2,l1,lo,_,sv⟩:=h.e;obtain⟨qs,f1,f2,l2,lo2,_,sv2⟩:=g.e;have e:ps=qs:=by
  refine ext_getElem (by lia) fun i hi hi'=>?_;have:=Sv.uni o sv sv2 (i+1) (by lia);unfold uP at this;rw[if_neg (by lia),if_neg (by lia),Nat.add_sub_cancel,getD_eq_getElem?_getD,getD_eq_getElem?_getD,getElem?_eq_getElem hi,getElem?_eq_getElem hi'] at this;exact Mq.Rq (lo _ (getElem_mem hi)) (lo2 _ (getElem_mem hi')) this
 subst e;exact⟨e1.trans f1.symm,e2.trans f2.symm⟩
end
structure qe2 (CA:Addr) (K:Frag) (H0 H:Hp) (a:Addr) (lv fl:List Q2):Prop where
 e:∃(dx li le fo:Addr) (xs ys:List V),H a=some (.ins CA dx (jD li le fo))/\H le=some (.lst xs)/\Fqs K H xs lv/\H fo=some (.lst ys)/\Fqs K H ys fl/\∀l o,H0 l=some o->l≠a->le≠l/\fo≠l
theorem gcf:¬(("current":Str) = "followed"):=by decide +kernel
def gC (a n:Addr):List (Str × V):=[(("current":Str),.ref a),(("followed":Str),.ref n)]
theorem zQ (a n:Addr):(gC a n).lookup ("current":Str)=some (.ref a):=by
 show List.lookup _ ((("current":Str),V.ref a) :: _)=_;rw[lookup_cons_self]
theorem zG (a n:Addr):(gC a n).lookup ("followed":Str)=some (.ref n):=by
 show List.lookup ("followed":Str) ((("current":Str),V.ref a) :: [(("followed":Str),V.ref n)])=_;rw[lookup_cons,show (("followed":Str) == "current")=false from beq_eq_false_iff_ne.mpr (fun z=>gcf z.symm)];show List.lookup _ ((("followed":Str),V.ref n) :: _)=_;rw[lookup_cons_self]
theorem jU (a n:Addr){x:Str}(h1:¬x = "current")(h2:¬x = "followed"):(gC a n).lookup x=none:=by
 show List.lookup x ((("current":Str),V.ref a) :: [(("followed":Str),V.ref n)])=_;rw[lookup_cons,show (x == "current")=false from beq_eq_false_iff_ne.mpr h1];show List.lookup x ((("followed":Str),V.ref n) :: [])=_;rw[lookup_cons,show (x == "followed")=false from beq_eq_false_iff_ne.mpr h2];rfl
theorem Wl (a:Addr):cP "current" (.ref a) []=[(("current":Str),V.ref a)]:=rfl
theorem Wp (a n:Addr):cP "followed" (.ref n) [(("current":Str),V.ref a)]=gC a n:=by
 show (if (("current":Str)) = "followed" then _ else _)=_;rw[if_neg gcf];rfl
theorem Xj (a b n:Addr):cP "current" (.ref b) (gC a n)=gC b n:=by
 show (if (("current":Str)) = "current" then _ else _)=_;rw[if_pos rfl];rfl
theorem Yv (a n k:Addr):cP "followed" (.ref k) (gC a n)=gC a k:=by
 show (if (("current":Str)) = "followed" then _ else (("current":Str),V.ref a) :: (if ("followed":Str) = "followed" then _ else _))=_;rw[if_neg gcf,if_pos rfl];rfl
structure WB (K:Frag) (mg:Str->Option Value) (CW:Addr):Prop where
 cl:Cls K CW
 nC:gG K CW "current"
 nF:gG K CW "followed"
 mW:mg "Watch"=some (.ref CW)
structure fR (X:List Addr) (CN CA CW:Addr) (K:Frag) (H:Hp) (w:Addr) (m:Nat) (ds:List RD):Prop where
 e:∃(dx a n l dxa li le fo dn:Addr) (xs ys ts:List V) (lv fl:List Q2),H w=some (.ins CW dx (gC a n))/\H a=some (.ins CA dxa (jD li le fo))/\H le=some (.lst xs)/\Fqs K H xs lv/\H fo=some (.lst ys)/\Fqs K H ys fl/\iE m ds lv fl/\H n=some (.ins CN dn (gL (m:Int) l))/\H l=some (.lst ts)/\Rts K H ts ds/\a≠w/\n≠w/\∀x∈X,a≠x/\le≠x/\fo≠x/\n≠x/\l≠x
section
variable {X:List Addr} {CN CA CW:Addr} {K:Frag} {H H':Hp} {w y:Addr} {m:Nat} {ds:List RD}
theorem fR.same (s:bC H H')(h:fR X CN CA CW K H w m ds):fR X CN CA CW K H' w m ds:=by
 obtain⟨dx,a,n,l,dxa,li,le,fo,dn,xs,ys,ts,lv,fl,h1,h2,h3,h4,h5,h6,h7,h8,h9,h10,h11,h12,h13⟩:=h.e;exact⟨dx,a,n,l,dxa,li,le,fo,dn,xs,ys,ts,lv,fl,s _ _ h1,s _ _ h2,s _ _ h3,h4.same s,s _ _ h5,h6.same s,h7,s _ _ h8,s _ _ h9,h10.same s,h11,h12,h13⟩
theorem fR.x {us:List V}(hy:H y=some (.lst us))(s:bQ y H H')(hX:y∈X)(h:fR X CN CA CW K H w m ds):fR X CN CA CW K H' w m ds:=by
 obtain⟨dx,a,n,l,dxa,li,le,fo,dn,xs,ys,ts,lv,fl,h1,h2,h3,h4,h5,h6,h7,h8,h9,h10,h11,h12,h13⟩:=h.e;obtain⟨n1,n2,n3,n4,n5⟩:=h13 y hX;exact⟨dx,a,n,l,dxa,li,le,fo,dn,xs,ys,ts,lv,fl,s _ _ h1 (dD h1 hy (fun z=>by cases z)),s _ _ h2 n1,s _ _ h3 n2,bQ.fqsL hy s h4,s _ _ h5 n3,bQ.fqsL hy s h6,h7,s _ _ h8 n4,s _ _ h9 n5,bQ.rts hy s h10,h11,h12,h13⟩
theorem fR.more (hy:H y=none)(h:fR X CN CA CW K H w m ds):fR (y :: X) CN CA CW K H w m ds:=by
 obtain⟨dx,a,n,l,dxa,li,le,fo,dn,xs,ys,ts,lv,fl,h1,h2,h3,h4,h5,h6,h7,h8,h9,h10,h11,h12,h13⟩:=h.e;refine⟨dx,a,n,l,dxa,li,le,fo,dn,xs,ys,ts,lv,fl,h1,h2,h3,h4,h5,h6,h7,h8,h9,h10,h11,h12,fun x hx=>?_⟩;rcases mem_cons.mp hx with z | z
 ·rw[z];exact⟨aL h2 hy,aL h3 hy,aL h5 hy,aL h8 hy,aL h9 hy⟩
 ·exact h13 x z
theorem fR.less {Y:List Addr}(hY:∀y∈Y,y∈X)(h:fR X CN CA CW K H w m ds):fR Y CN CA CW K H w m ds:=by
 obtain⟨dx,a,n,l,dxa,li,le,fo,dn,xs,ys,ts,lv,fl,h1,h2,h3,h4,h5,h6,h7,h8,h9,h10,h11,h12,h13⟩:=h.e;exact⟨dx,a,n,l,dxa,li,le,fo,dn,xs,ys,ts,lv,fl,h1,h2,h3,h4,h5,h6,h7,h8,h9,h10,h11,h12,fun x hx=>h13 x (hY x hx)⟩
end
def SWR (x r:Addr)(H H':Hp):Prop:=∀b o,H b=some o->b≠x->b≠r->H' b=some o
section
variable {K:Frag} {H H':Hp} {x r C dx:Addr} {fs:List (Str × V)} {us:List V}
theorem wL (hx:H x=some (.ins C dx fs))(hr:H r=some (.lst us))(s:SWR x r H H'){a:Addr}{ys:List V}(h:SqT K H a ys):SqT K H' a ys:=by
 rcases h with (h | ⟨u,h⟩) | h
 ·exact .inl (.inl (s _ _ h (dD h hx (fun z=>by cases z)) (dD h hr (fun z=>by cases z))))
 ·exact .inl (.inr ⟨u,s _ _ h (dD h hx (fun z=>by cases z)) (dD h hr (fun z=>by cases z))⟩)
 ·exact .inr h
theorem oT (hx:H x=some (.ins C dx fs))(s:SWR x r H H'){a:Addr}{ys:List V}(ne:a≠r)(h:H a=some (.lst ys)):H' a=some (.lst ys):=s _ _ h (dD h hx (fun z=>by cases z)) ne
theorem Gv (hx:H x=some (.ins C dx fs))(hr:H r=some (.lst us))(s:SWR x r H H'){xs:List V}{ps:List Q2}(h:Fqs K H xs ps):Fqs K H' xs ps:=by
 induction h with
 |nil=>exact .nil
 |cons h _ ih=>exact .cons (wL hx hr s h) ih
theorem Ck (hx:H x=some (.ins C dx fs))(hr:H r=some (.lst us))(s:SWR x r H H'){xs:List V}{ds:List RD}(h:Rts K H xs ds):Rts K H' xs ds:=by
 induction h with
 |nil=>exact .nil
 |cons h f _ ih=>exact .cons (wL hx hr s h) (wL hx hr s f) ih
theorem fR.wr {X:List Addr}{CN CA CW w:Addr}{m:Nat}{ds:List RD}(hx:H x=some (.ins C dx fs))(hr:H r=some (.lst us))(s:SWR x r H H')(xX:x∈X)(rX:r∈X)(ne:w≠x)(h:fR X CN CA CW K H w m ds):fR X CN CA CW K H' w m ds:=by
 obtain⟨dx,a,n,l,dxa,li,le,fo,dn,xs,ys,ts,lv,fl,h1,h2,h3,h4,h5,h6,h7,h8,h9,h10,h11,h12,h13⟩:=h.e;obtain⟨n1,n2,n3,n4,n5⟩:=h13 x xX;obtain⟨k1,k2,k3,k4,k5⟩:=h13 r rX;exact⟨dx,a,n,l,dxa,li,le,fo,dn,xs,ys,ts,lv,fl,s _ _ h1 ne (dD h1 hr (fun z=>by cases z)),s _ _ h2 n1 k1,s _ _ h3 n2 k2,Gv hx hr s h4,s _ _ h5 n3 k3,Gv hx hr s h6,h7,s _ _ h8 n4 k4,s _ _ h9 n5 k5,Ck hx hr s h10,h11,h12,h13⟩
structure Kpt (X:List Addr) (K:Frag) (H:Hp) (t:Addr) (lv fl:List Q2):Prop where
 e:∃(le fo:Addr) (xs ys:List V),SqT K H t [.ref le,.ref fo]/\H le=some (.lst xs)/\Fqs K H xs lv/\H fo=some (.lst ys)/\Fqs K H ys fl/\∀y∈X,le≠y/\fo≠y
theorem Kpt.same {X:List Addr}{t:Addr}{lv fl:List Q2}(s:bC H H')(h:Kpt X K H t lv fl):Kpt X K H' t lv fl:=by
 obtain⟨le,fo,xs,ys,h1,h2,h3,h4,h5,h6⟩:=h.e;exact⟨le,fo,xs,ys,s.seqT h1,s _ _ h2,h3.same s,s _ _ h4,h5.same s,h6⟩
theorem Kpt.more {X:List Addr}{t y:Addr}{lv fl:List Q2}(hy:H y=none)(h:Kpt X K H t lv fl):Kpt (y :: X) K H t lv fl:=by
 obtain⟨le,fo,xs,ys,h1,h2,h3,h4,h5,h6⟩:=h.e;refine⟨le,fo,xs,ys,h1,h2,h3,h4,h5,fun z hz=>?_⟩;rcases mem_cons.mp hz with c | c
 ·rw[c];exact⟨aL h2 hy,aL h4 hy⟩
 ·exact h6 z c
theorem Kpt.wr {X:List Addr}{t:Addr}{lv fl:List Q2}(hx:H x=some (.ins C dx fs))(hr:H r=some (.lst us))(s:SWR x r H H')(rX:r∈X)(h:Kpt X K H t lv fl):Kpt X K H' t lv fl:=by
 obtain⟨le,fo,xs,ys,h1,h2,h3,h4,h5,h6⟩:=h.e;obtain⟨n1,n2⟩:=h6 r rX;exact⟨le,fo,xs,ys,wL hx hr s h1,oT hx s n1 h2,Gv hx hr s h3,oT hx s n2 h4,Gv hx hr s h5,h6⟩
theorem Xz {a b c d e f:Addr}{xs ys zs ws:List V}{ps qs:List Q2}{neg:Bool}{Q:VK}(t1:SqT K H a [.ref c,.ref d])(t2:SqT K H b [.ref e,.ref f])(h1:SqL K H c xs)(f1:Fqs K H xs ps)(h2:SqL K H d ys)(f2:Fqs K H ys qs)(h3:SqL K H e zs)(f3:Fqs K H zs ps)(h4:SqL K H f ws)(f4:Fqs K H ws qs)(z:Q (.bl (!neg)) H):Bi K neg (.ref a) (.ref b) H Q:=by
 refine Oi (d:=.tuple [.list (ps.map qd),.list (qs.map qd)]) (.tup t1 (.cons (.lst h1 f1.dat) (.cons (.lst h2 f2.dat) .nil))) (.tup t2 (.cons (.lst h3 f3.dat) (.cons (.lst h4 f4.dat) .nil))) ?_ ?_ z
 ·have a:=Ar ps;have b:=Ar qs;show PyData.canLayAll0 [.list (ps.map qd),.list (qs.map qd)]=true;have a':PyData.canLay0 (.list (ps.map qd))=true:=a;have b':PyData.canLay0 (.list (qs.map qd))=true:=b;show (PyData.canLay0 (.list (ps.map qd)) && (PyData.canLay0 (.list (qs.map qd)) && true))=true;rw[a',b'];rfl
 ·have a:=uB ps;have b:=uB qs;simp only[PyData.depth,PyData.depthAll] at *
  lia
theorem Kpt.eq {X Y:List Addr}{t u:Addr}{lv fl:List Q2}{neg:Bool}{Q:VK}(h:Kpt X K H t lv fl)(g:Kpt Y K H u lv fl)(z:Q (.bl (!neg)) H):Bi K neg (.ref t) (.ref u) H Q:=by
 obtain⟨le,fo,xs,ys,h1,h2,h3,h4,h5,_⟩:=h.e;obtain⟨le',fo',xs',ys',g1,g2,g3,g4,g5,_⟩:=g.e;exact Xz h1 g1 (SqL.of h2) h3 (SqL.of h4) h5 (SqL.of g2) g3 (SqL.of g4) g5 z
end
section
variable {ds:List RD} {i j:Nat} {p q:Q2}
theorem pI (h:ds[i]?=none):szS ds i p=ds:=by unfold szS;rw[h]
theorem Cd (ne:i≠j):szS (szS ds i p) j q=szS (szS ds j q) i p:=by
 cases hi:ds[i]? with
 |none=>
  rw[pI hi];have:(szS ds j q)[i]?=none:=by
   rw[List.getElem?_eq_none_iff,Ak];exact List.getElem?_eq_none_iff.mp hi
  rw[pI this]
 |some d=>
  cases hj:ds[j]? with
  |none=>
   rw[pI hj];have:(szS ds i p)[j]?=none:=by
    rw[List.getElem?_eq_none_iff,Ak];exact List.getElem?_eq_none_iff.mp hj
   rw[pI this]
  |some e=>
   have h1:(szS ds i p)[j]?=some e:=by rw[iY hi,if_neg ne];exact hj
   have h2:(szS ds j q)[i]?=some d:=by rw[iY hj,if_neg (Ne.symm ne)];exact hi
   refine ext_getElem? fun k=>?_;rw[iY h1,iY h2,iY hi,iY hj]
   by_cases c1:i=k
   ·by_cases c2:j=k
    ·exact absurd (c1.trans c2.symm) ne
    ·rw[if_pos c1,if_neg c2,if_pos c1]
   ·rw[if_neg c1,if_neg c1]
theorem uA {d:RD}(hd:ds[i]?=some d):szS (szS ds i p) i d.2.2.2=ds:=by
 have h1:(szS ds i p)[i]?=some (d.1,d.2.1,d.2.2.1,p):=by rw[iY hd,if_pos rfl]
 refine ext_getElem? fun k=>?_;rw[iY h1,iY hd]
 by_cases c:i=k
 ·subst c;rw[if_pos rfl,hd]
 ·rw[if_neg c,if_neg c]
def apD (ds:List RD)(es:List (Nat × Q2)):List RD:=es.foldl (fun ds e=>szS ds e.1 e.2) ds
theorem Me {es:List (Nat × Q2)}{e:Nat × Q2}(h:es[i]?=some e):apD ds (es.take (i+1))=szS (apD ds (es.take i)) e.1 e.2:=by
 rw[take_add_one,h];unfold apD;rw[foldl_append];rfl
inductive D12 (ds:List RD):List (Nat × Q2)->Prop where
 |one {i:Nat} {p:Q2} {d:RD} (h:ds[i]?=some d):D12 ds [(i,p)]
 |two {i j:Nat} {p q:Q2} {d e:RD} (h:ds[i]?=some d) (g:ds[j]?=some e) (ne:i≠j):D12 ds [(i,p),(j,q)]
def bkD (ds:List RD)(es:List (Nat × Q2)):List (Nat × Q2):=es.map fun e=>(e.1,(ds.getD e.1 (.pu,0,0,(0,1))).2.2.2)
theorem gd {d:RD}(h:ds[i]?=some d):ds.getD i (.pu,0,0,(0,1))=d:=by rw[getD_eq_getElem?_getD,h];rfl
theorem D12.rev {es:List (Nat × Q2)}(h:D12 ds es):apD ds es.reverse=apD ds es:=by
 cases h with
 |one _=>rfl
 |two _ _ ne=>exact(Cd ne).symm
theorem D12.back {es:List (Nat × Q2)}(h:D12 ds es):apD (apD ds es) (bkD ds es)=ds/\apD (apD ds es) (bkD ds es).reverse=ds:=by
 cases h with
 | @one i p d h=>
  have e:apD (apD ds [(i,p)]) (bkD ds [(i,p)])=ds:=by
   show szS (szS ds i p) i (ds.getD i (.pu,0,0,(0,1))).2.2.2=ds;rw[gd h];exact uA h
  exact⟨e,e⟩
 | @two i j p q d e h g ne=>
  have h1:(szS ds i p)[j]?=some e:=by rw[iY h,if_neg ne];exact g
  have e2:szS (szS (szS (szS ds i p) j q) j e.2.2.2) i d.2.2.2=ds:=by
   rw[uA h1,uA h]
  refine⟨?_,?_⟩
  ·show szS (szS (szS (szS ds i p) j q) i (ds.getD i (.pu,0,0,(0,1))).2.2.2) j (ds.getD j (.pu,0,0,(0,1))).2.2.2=ds;rw[gd h,gd g,Cd ne];exact e2
  ·show szS (szS (szS (szS ds i p) j q) j (ds.getD j (.pu,0,0,(0,1))).2.2.2) i (ds.getD i (.pu,0,0,(0,1))).2.2.2=ds;rw[gd h,gd g];exact e2
def dL (L:Int)(ds:List RD)(es:List (Nat × Q2)):Prop:=∀e∈es,∃d,ds[e.1]?=some d/\SzW L d.1 e.2
theorem dL.set {L:Int}{es:List (Nat × Q2)}{d:RD}(h:dL L ds es)(hd:ds[i]?=some d):dL L (szS ds i p) es:=fun e he=>by
 obtain⟨d',h1,h2⟩:=h e he;obtain⟨e',h3,h4⟩:=Wm (p:=p) hd h1;exact⟨e',h3,by rw[h4];exact h2⟩
theorem dL.apD {L:Int}:∀{fs es:List (Nat × Q2)} {ds:List RD},dL L ds fs->dL L ds es->dL L (apD ds fs) es
 | [],_,_,_,h=>h
 |f :: fs,es,ds,g,h=>by
  obtain⟨d,hd,_⟩:=g f mem_cons_self;exact dL.apD (fs:=fs) (dL.set (fun e he=>g e (mem_cons_of_mem _ he)) hd) (h.set hd)
theorem dL.rev {L:Int}{es:List (Nat × Q2)}(h:dL L ds es):dL L ds es.reverse:=fun e he=>h e (mem_reverse.mp he)
theorem dL.bk {L:Int}{m:Nat}{es:List (Nat × Q2)}(D:Dw m L ds)(h:dL L ds es):dL L ds (bkD ds es):=fun e he=>by
 obtain⟨f,hf,rfl⟩:=mem_map.mp he;obtain⟨d,hd,_⟩:=h f hf;exact⟨d,hd,by show SzW L d.1 (ds.getD f.1 (.pu,0,0,(0,1))).2.2.2;rw[gd hd];exact(D.ok d (mem_of_getElem? hd)).2⟩
end
structure NwS (k:Kd) (p:Q2):Prop where
 lo:Low p
 bd:Bd 31 p
 le:p.2.natAbs<=12
 pc:k=.pc->0 < p.1
def cwD (k:Kd)(p:Q2):Int:=if k=.pc then p.1 else p.2
theorem NwS.c1 {k:Kd}{p:Q2}(h:NwS k p):1<=cwD k p/\Mq.B 31 (cwD k p):=by
 unfold cwD
 by_cases c:k=.pc
 ·rw[if_pos c];have:=h.pc c;exact⟨by lia,h.bd.a⟩
 ·rw[if_neg c];exact⟨h.lo.pos,h.bd.b⟩
theorem NwS.sz {k:Kd}{p:Q2}{L:Int}(h:NwS k p)(d:cwD k p ∣ L):SzW L k p:=by
 unfold cwD at d;refine⟨h.lo,h.bd,fun c=>⟨h.pc c,by rw[if_pos c] at d;exact d,by have:=h.le;lia⟩,fun c=>by rw[if_neg c] at d;exact d⟩
theorem Vz {m:Nat}{L:Int}{ds:List RD}{k1 k2:Kd}{p1 p2:Q2}(h:Dw m L ds)(LB:Mq.B 72 L)(s1:NwS k1 p1)(s2:NwS k2 p2):∃M,Dw m M ds/\SzW M k1 p1/\SzW M k2 p2:=by
 obtain⟨a1,b1⟩:=s1.c1;obtain⟨a2,b2⟩:=s2.c1;have m12:=Int.mul_pos (show 0 < cwD k1 p1 by lia) (show 0 < cwD k2 p2 by lia);have mL:=Int.mul_pos (show 0 < L by have:=h.L1;lia) m12;refine⟨L*(cwD k1 p1*cwD k2 p2),h.mul (by lia) ((LB.mul (b1.mul b2)).mono (by lia)) ⟨_,rfl⟩,s1.sz ?_,s2.sz ?_⟩
 ·exact⟨L*cwD k2 p2,by rw[Int.mul_left_comm]⟩
 ·exact⟨L*cwD k1 p1,by rw[<- Int.mul_assoc,Int.mul_comm]⟩
theorem Xn {m t:Nat}{E:List Hn}(h:Hng m t m E)(m4:m<=4)(le:E.length<=m - 1+7):∃L,Dw m L (rwH E)/\Mq.B 72 L/\(rwH E).length<=10/\(rwH E=[]->m=1):=by
 obtain⟨DZ,_,w7,len,bds⟩:=h.dz m4 le;have lE:(rwH E).length=E.length:=length_map ..;have cw:∀a∈(rwH E).map (fun d=>cwD d.1 d.2.2.2),1<=a/\Mq.B 7 a:=fun a ha=>by
  obtain⟨d,hd,rfl⟩:=mem_map.mp ha;have b7:=(bds d hd).1;have ro:=(DZ.ok d hd).1;unfold cwD
  by_cases c:d.1=.pc
  ·rw[if_pos c];have:=(DZ.dv d hd c).1;exact⟨by lia,b7.a⟩
  ·rw[if_neg c];exact⟨ro.2.2.2.2.1.pos,b7.b⟩
 have LB:=Pc (u:=7) (l:=(rwH E).map fun d=>cwD d.1 d.2.2.2) fun a ha=>(cw a ha).2;rw[length_map] at LB;have l10:(rwH E).length<=10:=by lia
 refine⟨prB ((rwH E).map fun d=>cwD d.1 d.2.2.2),⟨DZ.o,DZ.m5,DZ.w8,Bf fun a ha=>(cw a ha).1,LB.mono (by lia),fun d hd=>⟨(DZ.ok d hd).1,?_⟩,by lia⟩,LB.mono (by lia),l10,fun z=>?_⟩
 ·have ro:=(DZ.ok d hd).1;have dv:cwD d.1 d.2.2.2 ∣ prB ((rwH E).map fun d=>cwD d.1 d.2.2.2):=zO (mem_map.mpr ⟨d,hd,rfl⟩);unfold cwD at dv;refine⟨ro.2.2.2.2.1,(bds d hd).1.mono (by lia),fun c=>⟨(DZ.dv d hd c).1,by rw[if_pos c] at dv;exact dv,(DZ.dv d hd c).2.2.2⟩,fun c=>by rw[if_neg c] at dv;exact dv⟩
 ·have m1:=h.m1;refine Decidable.byContradiction fun c=>?_;have:=DZ.o.cn 1 (by lia);rw[z] at this;have:=Cn.ind (R:=fun p q=>p=q) (fun _=>rfl) (fun _ _=>Eq.symm) (fun _ _ _=>Eq.trans) (fun d hd=>by cases hd) this;lia
open PySem.W
theorem Nt {q:Program}{loose:List Str}{XP:(Str->Option Value)->Heap->Prop}{K:Params->Frag}{bs:List Addr}{n t:Nat}{r:RowW}{d:DefRec}{kwd:List (Str × Expr)}{run:Value->List Value->Sem Value}(e:∀P,bs=(K P).map (·.1))(h:WalkO q loose XP (fun w h=>(K w.params).In h) r d kwd run):WalkX q loose XP (W.X.obsZ bs) (W.X.valZ K n t) r d kwd run:=
 fun w s₀ s₁ mg mb G y a o pm cd doc dV kV h1 h2 h3 h4 h5 h6 args vals as' L=>h w s₀ s₁ mg mb G (InK.keeps w _ _ (W.X.z_facts e y).2.1 L.keeps) a o pm cd doc dV kV h1 h2 h3 h4 h5 h6 args vals as'
end L2
namespace K75
open PySem L2
def top (i:Nat):Stmt:=PySem.Challenge.pw_ohmyard_k75_there_and_back.main.body.getD i (.Pass ⟨0,0,0,0⟩)
section
variable {P:Program} {w:World} {K:Frag} {mg:Str->Option Value} {base:Heap} {f g1 g2 g3 g4 g5 g6 g7 g8:Addr} {fd gd1 gd2 gd3 gd4 gd5 gd6 gd7 gd8:FuncData} {CX:CXT}
abbrev pO:Stmt:=top 15
theorem Sw:aT ["thing"] ["thing"] (aD pO):=sK9
theorem Nu {dV:Value}(F:bZ K "is_whole" "is_whole" pO dV f fd)(b:Bl mg):aP P w K mg base CX 1 f fd ["thing"] (oV K):=by
 refine F.ok Sw (fun vs H Q E h=>?_) fun _ A _ s H vs Q E hr h=>?_
 ·obtain⟨_,rfl,_⟩:=h;rfl
 obtain⟨x,rfl,h⟩:=h;refine⟨_,aG (aX (kO (iN (i:=0) rfl (Or.inl rfl) b.isi b.int rfl rfl PyProof.Rows.boot_int) (pV (Wn (iN (i:=0) rfl (Or.inl rfl) b.isi b.bool rfl rfl PyProof.Rows.boot_bool))))),?_⟩;rcases h with ⟨i,rfl,q⟩ | ⟨t,ty,nw,q⟩
 ·exact⟨_,_,_,rfl,.of (.int i),rfl,_,rfl,gW ⟨_,_,false,rfl,.of (.int i),(by with_unfolding_all rfl),_,rfl,q⟩⟩
 ·rcases nw with rfl | rfl | rfl | rfl | rfl
  ·exact⟨_,_,true,rfl,.of ty,(by with_unfolding_all rfl),_,rfl,gW ⟨_,_,_,rfl,.of ty,rfl,_,rfl,q⟩⟩
  all_goals exact⟨_,_,false,rfl,.of ty,(by with_unfolding_all rfl),_,rfl,gK q⟩
abbrev sGc:Stmt:=top 17
theorem Tm:aT ["one","other","rest"] ["one","other"] (aD sGc):=sK9
theorem Zw {dV:Value}(F:bZ K "greatest_common" "greatest_common" sGc dV f fd)(b:Bl mg):aP P w K mg base CX 1 f fd ["one","other"] Ra:=by
 refine F.ok Tm (fun vs H Q E h=>?_) fun _ A _ s H vs Q E hr h=>?_
 ·obtain⟨_,_,rfl,_⟩:=h;rfl
 obtain⟨x,y,rfl,q⟩:=h;refine⟨_,aB (vD PassesOwn.never (bF rG (pv 1) aF (bG _)) (aB (aV (i:=2) Tm.nd rfl (Or.inl rfl) (aZ kG (pv 0) (pv 1)))
  (aB (aV (i:=0) Tm.nd rfl (Or.inl rfl) (pv 1)) (aG (aV (i:=1) Tm.nd rfl (Or.inl rfl) (pv 2))))))
  (aG (aX (cI pD rfl b.abs PyProof.Rows.boot_abs (aA (pv 0) aE)))),?_⟩
 refine uO (fun σ H'=>H'=H/\∃u v z,σ=[some (.int u),some (.int v),z]/\gc u v=gc x y) (fun σ _=>match σ with | [_,some (.int v),_]=>v.natAbs | _=>0) ⟨rfl,x,y,none,rfl,rfl⟩ ?_ ?_
 ·rintro σ H' ⟨rfl,u,v,z,rfl,e⟩;refine⟨_,rfl,rfl,_,rfl,?_⟩;refine rK (fun c=>?_) (fun c=>?_)
  ·have hv:v≠0:=by intro q;subst q;simp at c
   refine⟨_,rfl,_,rfl,_,_,rfl,rfl,hv,_,rfl,_,rfl,⟨rfl,v,Int.fmod u v,_,rfl,(Gn u v).trans e⟩,xS hv⟩
  ·have hv:v=0:=by
    simp at c;exact c
   subst hv;refine⟨_,rfl,_,rfl,?_⟩;rw[<- Ii,e];exact q
 ·rintro σ H Q Q' m ⟨v,h1,h2,k,h3,h4⟩;exact⟨v,h1,h2,k,h3,m _ _ h4⟩
abbrev pY:Stmt:=top 23
theorem Tq:aT ["one","other"] ["one","other"] (aD pY):=sK9
theorem Ni {dV:Value}(F:bZ K "under" "under" pY dV f fd):aP P w K mg base CX 1 f fd ["one","other"] (Hd K):=by
 refine F.ok Tq (fun vs H Q E h=>?_) fun _ A _ s H vs Q E hr h=>?_
 ·obtain⟨_,_,_,_,_,_,rfl,_⟩:=h;rfl
 obtain⟨a,b,p,q,n,m,rfl,ha,hb,bp,bq,hn,z⟩:=h;refine⟨_,aG (aX (iC yG (aZ dB (aW bA (pv 0) aF (fun _ _=>rfl)) (aW bA (pv 1) aF (fun _ _=>rfl))) (aZ dB (aW bA (pv 1) aF (fun _ _=>rfl)) (aW bA (pv 0) aF (fun _ _=>rfl))) (bG _))),?_⟩;exact fC rfl ha (cY rfl hb (dA bp.a bq.b (by lia) (by lia) (fC rfl hb (cY rfl ha (dA bq.a bp.b (by lia) (by lia) ⟨_,_,rfl,rfl,z⟩)))))
abbrev kJ:Stmt:=top 18
theorem Eg:aT ["top","bottom","shared"] ["top","bottom"] (aD kJ):=sK9
theorem Sz {dV:Value}(F:bZ K "fraction" "fraction" kJ dV f fd)(G1:aP P w K mg base CX0 1 g1 gd1 ["thing"] (oV K))(b1:aQ K gd1 ["thing"] [])(k1:kI9 K g1)(m1:mI9 mg "is_whole" g1)(G2:aP P w K mg base CX0 1 g2 gd2 ["one","other"] Ra)(b2:aQ K gd2 ["one","other"] [])(k2:kI9 K g2)(m2:mI9 mg "greatest_common" g2) :
  aP P w K mg base CX 2 f fd ["top","bottom"] iW:=by
 refine F.ok Eg (fun vs H Q E h=>?_) fun _ A _ s H vs Q E hr h=>?_
 ·obtain⟨_,_,_,rfl,_⟩:=h;rfl
 obtain⟨t,b,n,rfl,hb,hB,hn,q⟩:=h;refine⟨_,aB (cD (PW.pt (kH (gE (dY (aH G1 hr rfl m1 k1 b1 .nil aK (aA (pv 0) aE)))) (kH (gE (dY (aH G1 hr rfl m1 k1 b1 .nil aK (aA (pv 1) aE)))) (jI (bF eZ (pv 1) aF (bG _)))))) Km bH)
  (aB (aV (i:=2) Eg.nd rfl (Or.inl rfl) (aH G2 hr rfl m2 k2 b2 .nil aK (aA (pv 0) (aA (pv 1) aE))))
  (aB (cD (bF yG (pv 1) aF (bG _)) (aG (aV (i:=2) Eg.nd rfl (Or.inl rfl) (Dh uZ (pv 2)))) bH)
  (aG (aX (dI (aA (aZ iZ (pv 0) (pv 2)) (aA (aZ iZ (pv 1) (pv 2)) aE))))))),?_⟩
 have hd:=qG (t:=t) hb;have hdB:Mq.B n (dvr t b):=hB.le (Et hb);have c0:decide (V.int b=V.int 0)=false:=decide_eq_false (fun z=>hb (by cases z;rfl));refine⟨_,rfl,_,rfl,.inl ⟨t,rfl,_,rfl,gK ⟨_,rfl,_,rfl,.inl ⟨b,rfl,_,rfl,gK ⟨_,rfl,rfl,_,rfl,?_⟩⟩⟩⟩⟩;rw[c0];refine gK ⟨_,rfl,_,rfl,t,b,rfl,?_⟩;refine⟨_,rfl,_,_,rfl,rfl,_,rfl,?_⟩;refine rK (fun c=>?_) (fun c=>?_)
 ·have hlt:b < 0:=of_decide_eq_true c;have e:dvr t b=-gc t b:=by unfold dvr;rw[if_pos hlt]
  rw[e] at hd hdB;have q':nV H Q (t.fdiv (-gc t b),b.fdiv (-gc t b)):=by
   have z:=q;unfold red at z;rw[e] at z;exact z
  refine⟨_,rfl,_,rfl,?_⟩;refine⟨_,rfl,_,rfl,?_⟩;refine fQ hd hdB hn ⟨_,rfl,_,rfl,fQ hd hdB hn ⟨zl9 2,fun p hp=>?_⟩⟩;exact q' p _ (aI hp _) aC
 ·have hlt:¬b < 0:=fun z=>c (decide_eq_true z);have e:dvr t b=gc t b:=by unfold dvr;rw[if_neg hlt]
  rw[e] at hd hdB;have q':nV H Q (t.fdiv (gc t b),b.fdiv (gc t b)):=by
   have z:=q;unfold red at z;rw[e] at z;exact z
  refine⟨_,rfl,_,rfl,?_⟩;refine fQ hd hdB hn ⟨_,rfl,_,rfl,fQ hd hdB hn ⟨zl9 2,fun p hp=>?_⟩⟩;exact q' p _ (aI hp _) aC
abbrev qM:Stmt:=top 20
theorem Rj:aT ["one","other"] ["one","other"] (aD qM):=sK9
theorem Oo {dV:Value}(F:bZ K "minus" "minus" qM dV f fd)(G1:aP P w K mg base CX0 2 g1 gd1 ["top","bottom"] iW)(b1:aQ K gd1 ["top","bottom"] [])(k1:kI9 K g1)(m1:mI9 mg "fraction" g1) :
  aP P w K mg base CX 3 f fd ["one","other"] (jF K Mq.minus):=by
 refine F.ok Rj (fun vs H Q E h=>?_) fun _ A _ s H vs Q E hr h=>?_
 ·obtain⟨_,_,_,_,_,_,rfl,_⟩:=h;rfl
 obtain⟨a,b,p,q,n,m,rfl,ha,hb,lp,lq,bp,bq,hn,z⟩:=h;refine⟨_,aG (aX (aH G1 hr rfl m1 k1 b1 .nil aK (aA
  (aZ iF (aZ dB (aW bA (pv 0) aF (fun _ _=>rfl)) (aW bA (pv 1) aF (fun _ _=>rfl))) (aZ dB (aW bA (pv 1) aF (fun _ _=>rfl)) (aW bA (pv 0) aF (fun _ _=>rfl))))
  (aA (aZ dB (aW bA (pv 0) aF (fun _ _=>rfl)) (aW bA (pv 1) aF (fun _ _=>rfl))) aE)))),?_⟩
 refine fC rfl ha (cY rfl hb (dA bp.a bq.b (by lia) (by lia) (fC rfl hb (cY rfl ha (dA bq.a bp.b (by lia) (by lia) ⟨_,_,rfl,rfl,?_⟩)))));refine cY rfl ha (cY rfl hb (dA bp.b bq.b (by lia) (by lia) ⟨_,_,n+m,rfl,gZ lp lq,bp.b.mul bq.b,by lia,z⟩))
abbrev yL:Stmt:=top 19
theorem Yp:aT ["one","other"] ["one","other"] (aD yL):=sK9
theorem Ty {dV:Value}(F:bZ K "plus" "plus" yL dV f fd)(G1:aP P w K mg base CX0 2 g1 gd1 ["top","bottom"] iW)(b1:aQ K gd1 ["top","bottom"] [])(k1:kI9 K g1)(m1:mI9 mg "fraction" g1) :
  aP P w K mg base CX 3 f fd ["one","other"] (jF K oW):=by
 refine F.ok Yp (fun vs H Q E h=>?_) fun _ A _ s H vs Q E hr h=>?_
 ·obtain⟨_,_,_,_,_,_,rfl,_⟩:=h;rfl
 obtain⟨a,b,p,q,n,m,rfl,ha,hb,lp,lq,bp,bq,hn,z⟩:=h;refine⟨_,aG (aX (aH G1 hr rfl m1 k1 b1 .nil aK (aA
  (aZ dR (aZ dB (aW bA (pv 0) aF (fun _ _=>rfl)) (aW bA (pv 1) aF (fun _ _=>rfl))) (aZ dB (aW bA (pv 1) aF (fun _ _=>rfl)) (aW bA (pv 0) aF (fun _ _=>rfl))))
  (aA (aZ dB (aW bA (pv 0) aF (fun _ _=>rfl)) (aW bA (pv 1) aF (fun _ _=>rfl))) aE)))),?_⟩
 refine fC rfl ha (cY rfl hb (dA bp.a bq.b (by lia) (by lia) (fC rfl hb (cY rfl ha (dA bq.a bp.b (by lia) (by lia) ⟨_,_,rfl,rfl,?_⟩)))));refine cY rfl ha (cY rfl hb (dA bp.b bq.b (by lia) (by lia) ⟨_,_,n+m,rfl,gZ lp lq,bp.b.mul bq.b,by lia,z⟩))
variable {CR:Addr} {CK:Kd->Addr} {fW fJ fT fS:Kd->Addr} {fdW fdJ fdT fdS:Kd->FuncData}
abbrev qV:Stmt:=cO (top 35) 0
theorem Rl:aT ["self","start","goal","size"] ["self","start","goal","size"] (aD qV):=sK9
theorem Nr {dV:Value}(F:bZ K "__init__" "Row.__init__" qV dV f fd)(T:RT K mg CR CK):aP P w K mg base CX 1 f fd ["self","start","goal","size"] (zN CK):=by
 refine F.ok Rl (fun vs H Q E h=>?_) fun _ A _ s H vs Q E hr h=>?_
 ·obtain⟨_,_,_,_,_,_,rfl,_⟩:=h;rfl
 obtain⟨x,dx,k,s,g,z,rfl,hx,q⟩:=h;refine⟨_,(aB (gY (pv 0) (pv 1) rfl) (aB (gY (pv 0) (pv 2) rfl) (aG (gY (pv 0) (pv 3) rfl)))),?_⟩;have l1:=dQ ("start":Str) s [];have l2:=dQ ("goal":Str) g (cP "start" s []);simp only[length_nil] at l1;refine⟨_,rfl,_,rfl,x,CK k,dx,[],rfl,hx,T.cl k,T.nS k,(by show 0 < 1000;decide),?_⟩;refine⟨_,rfl,_,rfl,x,CK k,dx,_,rfl,aC,T.cl k,T.nG k,by lia,?_⟩;refine⟨_,rfl,_,rfl,x,CK k,dx,_,rfl,aC,T.cl k,T.nZ k,by lia,?_⟩;rw[pJ,pJ];exact q
abbrev jS:Stmt:=cO (top 36) 0
theorem Jq:aT ["self"] ["self"] (aD jS):=sK9
theorem Ej {dV:Value}(F:bZ K "word" "Piece.word" jS dV f fd):aP P w K mg base CX 1 f fd ["self"] (jE .pc):=by
 refine F.ok Jq (fun vs H Q E h=>?_) fun _ A _ s H vs Q E hr h=>?_
 ·obtain⟨_,rfl,_⟩:=h;rfl
 obtain⟨x,rfl,q⟩:=h;exact⟨_,(aG (aX cQ)),q⟩
abbrev jL:Stmt:=cO (top 37) 0
theorem Jt:aT ["self"] ["self"] (aD jL):=sK9
theorem Er {dV:Value}(F:bZ K "word" "Push.word" jL dV f fd):aP P w K mg base CX 1 f fd ["self"] (jE .pu):=by
 refine F.ok Jt (fun vs H Q E h=>?_) fun _ A _ s H vs Q E hr h=>?_
 ·obtain⟨_,rfl,_⟩:=h;rfl
 obtain⟨x,rfl,q⟩:=h;exact⟨_,(aG (aX cQ)),q⟩
abbrev jT:Stmt:=cO (top 38) 0
theorem Jv:aT ["self"] ["self"] (aD jT):=sK9
theorem Eo {dV:Value}(F:bZ K "word" "Hold.word" jT dV f fd):aP P w K mg base CX 1 f fd ["self"] (jE .ho):=by
 refine F.ok Jv (fun vs H Q E h=>?_) fun _ A _ s H vs Q E hr h=>?_
 ·obtain⟨_,rfl,_⟩:=h;rfl
 obtain⟨x,rfl,q⟩:=h;exact⟨_,(aG (aX cQ)),q⟩
abbrev pP:Stmt:=cO (top 35) 1
theorem Tr:aT ["self"] ["self"] (aD pP):=sK9
theorem Np {dV:Value}(F:bZ K "told" "Row.told" pP dV f fd)(T:RT K mg CR CK)(GW:∀k,aP P w K mg base CX0 1 (fW k) (fdW k) ["self"] (jE k))(bW:∀k,aQ K (fdW k) ["self"] [])(mW:∀k,dX K (CK k) "word" (fW k)):aP P w K mg base CX 2 f fd ["self"] (As CK):=by
 refine F.ok Tr (fun vs H Q E h=>?_) fun _ A _ s H vs Q E hr h=>?_
 ·obtain⟨_,_,_,_,_,rfl,_⟩:=h;rfl
 obtain⟨x,k,s,g,z,rfl,⟨dx,hx⟩,q⟩:=h;refine⟨_,(aG (aX (dI (aA (dZ (pv 0) T.cl mW GW hr bW .nil aK) (aA (bL (pv 0) rfl) (aA (bL (pv 0) rfl) (aA (bL (pv 0) rfl) aE))))))),?_⟩;refine⟨_,rfl,k,x,dx,_,rfl,hx,(cV _ _ _ (by decide +kernel) (by decide +kernel) (by decide +kernel)),_,rfl,?_⟩;refine⟨_,rfl,x,CK k,dx,_,_,rfl,hx,T.cl k,T.nS k,dF _ _ _,?_⟩;refine⟨_,rfl,x,CK k,dx,_,_,rfl,hx,T.cl k,T.nG k,dS _ _ _,?_⟩;refine⟨_,rfl,x,CK k,dx,_,_,rfl,hx,T.cl k,T.nZ k,eU _ _ _,?_⟩;exact⟨zl9 4,q⟩
abbrev pZ:Stmt:=top 39
theorem Hm:aT ["told","word"] ["told"] (aD pZ):=sK9
theorem Oc {dV:Value}{gI:Addr}{gdI:FuncData}(F:bZ K "row_of" "row_of" pZ dV f fd)(T:RT K mg CR CK)(b:Bl mg)(ms:mg "str"=none)(GI:aP P w K mg base CX0 1 gI gdI ["self","start","goal","size"] (zN CK))(bI:aQ K gdI ["self","start","goal","size"] [])(MK:∀k,Mk K (CK k) gI):aP P w K mg base CX 3 f fd ["told"] (uF K CK):=by
 refine F.ok Hm (fun vs H Q E h=>?_) fun _ A _ s H vs Q E hr h=>?_
 ·obtain⟨_,_,_,_,_,rfl,_⟩:=h;rfl
 obtain⟨t,v,s,g,z,rfl,hT,k,rfl,q⟩:=h;refine⟨_,(aB (aV (i:=1) Hm.nd rfl (Or.inl rfl) (aW bA (pv 0) aF (fun _ _=>rfl)))
  (aB (cD (PW.pt (vJ (dY (iN (i:=1) rfl (Or.inl rfl) b.isi ms rfl rfl PyProof.Rows.boot_str)) (oS (bF eZ (pv 1) cQ (bG _))))) (aG (aX (hV (MK .pc) GI hr rfl (T.mK .pc) bI .nil aK (aA (aW bA (pv 0) aF (fun _ _=>rfl)) (aA (aW bA (pv 0) aF (fun _ _=>rfl)) (aA (aW bA (pv 0) aF (fun _ _=>rfl)) aE)))))) bH)
  (aB (cD (PW.pt (vJ (dY (iN (i:=1) rfl (Or.inl rfl) b.isi ms rfl rfl PyProof.Rows.boot_str)) (oS (bF eZ (pv 1) cQ (bG _))))) (aG (aX (hV (MK .pu) GI hr rfl (T.mK .pu) bI .nil aK (aA (aW bA (pv 0) aF (fun _ _=>rfl)) (aA (aW bA (pv 0) aF (fun _ _=>rfl)) (aA (aW bA (pv 0) aF (fun _ _=>rfl)) aE)))))) bH)
  (aB (cD (PW.pt (vJ (dY (iN (i:=1) rfl (Or.inl rfl) b.isi ms rfl rfl PyProof.Rows.boot_str)) (oS (bF eZ (pv 1) cQ (bG _))))) (aG (aX (hV (MK .ho) GI hr rfl (T.mK .ho) bI .nil aK (aA (aW bA (pv 0) aF (fun _ _=>rfl)) (aA (aW bA (pv 0) aF (fun _ _=>rfl)) (aA (aW bA (pv 0) aF (fun _ _=>rfl)) aE)))))) bH)
  (aG fH))))),?_⟩
 cases k
 ·refine Xt (fun _ _=>False) (fun X _=>?_) (fun _ _ h=>h.elim);refine⟨_,rfl,t,_,0,_,rfl,rfl,hT,rfl,?_⟩;exact⟨_,_,true,rfl,.of (.str _),rfl,_,rfl,gW ⟨_,rfl,rfl,_,rfl,ifT (cZ .pc .pc) ⟨_,rfl,t,_,1,s,rfl,rfl,hT,rfl,_,rfl,t,_,2,g,rfl,rfl,hT,rfl,_,rfl,t,_,3,z,rfl,rfl,hT,rfl,fun x dx h1 h2 ne=>⟨x,dx,.pc,s,g,z,rfl,aC,rfl,by rw[pJ];exact q x _ (Rw.new h1 h2 ne) h1 ⟨dx,aC⟩⟩⟩⟩⟩
 ·refine qf3 (fun _ _=>False) (fun X _=>?_) (fun _ _ h=>h.elim);refine⟨_,rfl,t,_,0,_,rfl,rfl,hT,rfl,?_⟩;exact⟨_,_,true,rfl,.of (.str _),rfl,_,rfl,gW ⟨_,rfl,rfl,_,rfl,ifF (cZ .pu .pc) (⟨_,_,true,rfl,.of (.str _),rfl,_,rfl,gW ⟨_,rfl,rfl,_,rfl,ifT (cZ .pu .pu) ⟨_,rfl,t,_,1,s,rfl,rfl,hT,rfl,_,rfl,t,_,2,g,rfl,rfl,hT,rfl,_,rfl,t,_,3,z,rfl,rfl,hT,rfl,fun x dx h1 h2 ne=>⟨x,dx,.pu,s,g,z,rfl,aC,rfl,by rw[pJ];exact q x _ (Rw.new h1 h2 ne) h1 ⟨dx,aC⟩⟩⟩⟩⟩)⟩⟩
 ·refine Vr (fun _ _=>False) (fun X _=>?_) (fun _ _ h=>h.elim);refine⟨_,rfl,t,_,0,_,rfl,rfl,hT,rfl,?_⟩;exact⟨_,_,true,rfl,.of (.str _),rfl,_,rfl,gW ⟨_,rfl,rfl,_,rfl,ifF (cZ .ho .pc) (⟨_,_,true,rfl,.of (.str _),rfl,_,rfl,gW ⟨_,rfl,rfl,_,rfl,ifF (cZ .ho .pu) (⟨_,_,true,rfl,.of (.str _),rfl,_,rfl,gW ⟨_,rfl,rfl,_,rfl,ifT (cZ .ho .ho) ⟨_,rfl,t,_,1,s,rfl,rfl,hT,rfl,_,rfl,t,_,2,g,rfl,rfl,hT,rfl,_,rfl,t,_,3,z,rfl,rfl,hT,rfl,fun x dx h1 h2 ne=>⟨x,dx,.ho,s,g,z,rfl,aC,rfl,by rw[pJ];exact q x _ (Rw.new h1 h2 ne) h1 ⟨dx,aC⟩⟩⟩⟩⟩)⟩⟩)⟩⟩
abbrev Jk:Stmt:=top 16
theorem Zd:aT ["thing"] ["thing"] (aD Jk):=sK9
theorem Yc {dV:Value}(F:bZ K "is_fraction" "is_fraction" Jk dV f fd)(b:Bl mg)(ml:mg "len"=none)(mt:mg "tuple"=none)(G1:aP P w K mg base CX0 1 g1 gd1 ["thing"] (oV K))(b1:aQ K gd1 ["thing"] [])(k1:kI9 K g1)(m1:mI9 mg "is_whole" g1)(G2:aP P w K mg base CX0 1 g2 gd2 ["one","other"] Ra)(b2:aQ K gd2 ["one","other"] [])(k2:kI9 K g2)(m2:mI9 mg "greatest_common" g2) :
  aP P w K mg base CX 2 f fd ["thing"] (Lo K):=by
 refine F.ok Zd (fun vs H Q E h=>?_) fun _ A _ s H vs Q E hr h=>?_
 ·obtain⟨_,_,rfl,_⟩:=h;rfl
 obtain⟨v,o,rfl,hz,q⟩:=h;refine⟨_,(aB (cD (PW.pt (kH (gE (dY (iN (i:=0) rfl (Or.inl rfl) b.isi mt rfl rfl PyProof.Rows.boot_tuple))) (jI (bF rG (cI bV rfl ml PySem.boot_len (aA (pv 0) aE)) aF (bG _))))) (aG (aX fV)) bH)
  (aB (cD (PW.pt (kH (gE (dY (aH G1 hr rfl m1 k1 b1 .nil aK (aA (aW bA (pv 0) aF (fun _ _=>rfl)) aE)))) (jI (gE (dY (aH G1 hr rfl m1 k1 b1 .nil aK (aA (aW bA (pv 0) aF (fun _ _=>rfl)) aE))))))) (aG (aX fV)) bH)
  (aG (aX (kO (iC Nq (aW bA (pv 0) aF (fun _ _=>rfl)) aF (bG _)) (pV (iC eZ (aH G2 hr rfl m2 k2 b2 .nil aK (aA (aW bA (pv 0) aF (fun _ _=>rfl)) (aA (aW bA (pv 0) aF (fun _ _=>rfl)) aE))) aF (bG _)))))))),?_⟩
 cases hz with
 |fr fa hp=>
  refine⟨_,_,true,rfl,.tup fa,rfl,_,rfl,gK ⟨_,rfl,_,_,rfl,.inr fa,rfl,_,rfl,gK ?_⟩⟩;refine fC rfl fa ⟨_,rfl,.inl ⟨_,rfl,_,rfl,gK (cY rfl fa ⟨_,rfl,.inl ⟨_,rfl,_,rfl,gK ?_⟩⟩)⟩⟩;have h1:=hp.pos;refine cY rfl fa ⟨_,_,rfl,rfl,_,rfl,ifT (decide_eq_true (by lia)) (fC rfl fa (cY rfl fa ⟨_,_,rfl,rfl,?_⟩))⟩;rw[hp.one];exact q
 |ty h n=>exact⟨_,_,false,rfl,h,n,_,rfl,gW q⟩
 |len h=>exact⟨_,_,true,rfl,.tup h,rfl,_,rfl,gK ⟨_,rfl,_,_,rfl,.inr h,rfl,_,rfl,gW q⟩⟩
 |n0 h ty n=>
  refine⟨_,_,true,rfl,.tup h,rfl,_,rfl,gK ⟨_,rfl,_,_,rfl,.inr h,rfl,_,rfl,gK ?_⟩⟩;exact⟨_,rfl,_,_,0,_,rfl,rfl,h,rfl,_,rfl,.inr ⟨_,ty,n,_,rfl,gW q⟩⟩
 |n1 h ty n=>
  refine⟨_,_,true,rfl,.tup h,rfl,_,rfl,gK ⟨_,rfl,_,_,rfl,.inr h,rfl,_,rfl,gK ?_⟩⟩;exact⟨_,rfl,_,_,0,_,rfl,rfl,h,rfl,_,rfl,.inl ⟨_,rfl,_,rfl,gK ⟨_,rfl,_,_,1,_,rfl,rfl,h,rfl,_,rfl,.inr ⟨_,ty,n,_,rfl,gW q⟩⟩⟩⟩
 |fb fa c=>
  refine⟨_,_,true,rfl,.tup fa,rfl,_,rfl,gK ⟨_,rfl,_,_,rfl,.inr fa,rfl,_,rfl,gK ?_⟩⟩;refine fC rfl fa ⟨_,rfl,.inl ⟨_,rfl,_,rfl,gK (cY rfl fa ⟨_,rfl,.inl ⟨_,rfl,_,rfl,gK ?_⟩⟩)⟩⟩;rcases c with c | ⟨c,d⟩
  ·exact cY rfl fa ⟨_,_,rfl,rfl,_,rfl,ifF (decide_eq_false (by lia)) q⟩
  ·refine cY rfl fa ⟨_,_,rfl,rfl,_,rfl,ifT (decide_eq_true c) (fC rfl fa (cY rfl fa ⟨_,_,rfl,rfl,?_⟩))⟩;rw[decide_eq_false (fun e=>d (by injection e))];exact q
abbrev sPS:Stmt:=top 41
theorem qe0:aT ["thing"] ["thing"] (aD sPS):=sK9
theorem Zr {dV:Value}(F:bZ K "is_piece_size" "is_piece_size" sPS dV f fd){aN:Addr}(fN:∀H,Fq K H aN (0,1))(mNO:mI9 mg "NOUGHT" aN)(G1:aP P w K mg base CX0 2 g1 gd1 ["thing"] (Pk K))(b1:aQ K gd1 ["thing"] [])(k1:kI9 K g1)(m1:mI9 mg "is_fraction" g1)(G2:aP P w K mg base CX0 1 g2 gd2 ["one","other"] (Hd K))(b2:aQ K gd2 ["one","other"] [])(k2:kI9 K g2)(m2:mI9 mg "under" g2) :
  aP P w K mg base CX 3 f fd ["thing"] (qd0 K):=by
 refine F.ok qe0 (fun vs H Q E h=>?_) fun _ A _ s H vs Q E hr h=>?_
 ·obtain⟨_,_,_,rfl,_⟩:=h;rfl
 obtain⟨a,p,n,rfl,fa,hp,h0,hb,hn,q⟩:=h;have r1:=hr.mono (show 1<=2 by lia);refine⟨_,(aG (aX (kO (aH G1 hr rfl m1 k1 b1 .nil aK (aA (pv 0) aE)) (pV (aH G2 r1 rfl m2 k2 b2 .nil aK (aA (cT (v:=.ref aN) rfl mNO rfl) (aA (pv 0) aE))))))),?_⟩;refine⟨_,rfl,a,p,rfl,fa,hp,_,rfl,gW ⟨_,rfl,aN,a,_,p,1,n,rfl,fN _,fa,⟨show (0:Nat) < 2 ^ 1 by decide,show (1:Nat) < 2 ^ 1 by decide⟩,hb,by lia,?_⟩⟩;rw[decide_eq_true (show (0:Int)*p.2 < p.1*1 by lia)];exact q
abbrev sNB:Stmt:=top 46
theorem qf1:aT ["thing","bound"] ["thing","bound"] (aD sNB):=sK9
theorem Zz {dV:Value}(F:bZ K "is_number_below" "is_number_below" sNB dV f fd)(G1:aP P w K mg base CX0 1 g1 gd1 ["thing"] (oV K))(b1:aQ K gd1 ["thing"] [])(k1:kI9 K g1)(m1:mI9 mg "is_whole" g1) :
  aP P w K mg base CX 2 f fd ["thing","bound"] Xa:=by
 refine F.ok qf1 (fun vs H Q E h=>?_) fun _ A _ s H vs Q E hr h=>?_
 ·obtain⟨_,_,rfl,_⟩:=h;rfl
 obtain⟨i,b',rfl,h0,h1,q⟩:=h;refine⟨_,(aG (aX (kO (aH G1 hr rfl m1 k1 b1 .nil aK (aA (pv 0) aE)) (kO (iC Nq (pv 0) aF (bG _)) (pV (iC yG (pv 0) (pv 1) (bG _))))))),?_⟩;refine⟨_,rfl,_,rfl,.inl ⟨i,rfl,_,rfl,gW ⟨_,rfl,_,_,rfl,rfl,_,rfl,ifT (decide_eq_true h0) ⟨_,rfl,_,rfl,_,_,rfl,rfl,?_⟩⟩⟩⟩;show Q (.bl (decide (i < b'))) H;rw[decide_eq_true h1];exact q
abbrev sRS:Stmt:=top 49
theorem qf5:aT ["word","size"] ["word","size"] (aD sRS):=sK9
theorem qc7 {dV:Value}(F:bZ K "refuse_size" "refuse_size" sRS dV f fd)(G1:aP P w K mg base CX0 2 g1 gd1 ["thing"] (Pk K))(b1:aQ K gd1 ["thing"] [])(k1:kI9 K g1)(m1:mI9 mg "is_fraction" g1)(G2:aP P w K mg base CX0 3 g2 gd2 ["thing"] (qd0 K))(b2:aQ K gd2 ["thing"] [])(k2:kI9 K g2)(m2:mI9 mg "is_piece_size" g2) :
  aP P w K mg base CX 4 f fd ["word","size"] (Xg K):=by
 refine F.ok qf5 (fun vs H Q E h=>?_) fun _ A _ s H vs Q E hr h=>?_
 ·obtain⟨_,_,_,rfl,_⟩:=h;rfl
 obtain⟨k,z,p,rfl,fz,hp,h0,hb,q⟩:=h;have r2:=hr.mono (show 2<=3 by lia);refine⟨_,(aB (cD (gE (dY (aH G1 r2 rfl m1 k1 b1 .nil aK (aA (pv 1) aE)))) (aG fH) bH)
  (aG (cD (PW.pt (vJ (bF eZ (pv 0) cQ (bG _)) (oS (gE (dY (aH G2 hr rfl m2 k2 b2 .nil aK (aA (pv 1) aE))))))) (aG fH) bH))),?_⟩
 refine⟨_,rfl,z,p,rfl,fz,hp,_,rfl,gK ?_⟩
 cases k
 ·exact⟨_,rfl,rfl,_,rfl,ifT (cZ .pc .pc) ⟨_,rfl,z,p,_,rfl,fz,hp,h0 rfl,hb,by lia,_,rfl,gK q⟩⟩
 ·exact⟨_,rfl,rfl,_,rfl,ifF (cZ .pu .pc) (gK q)⟩
 ·exact⟨_,rfl,rfl,_,rfl,ifF (cZ .ho .pc) (gK q)⟩
theorem wD:(["point","many"]:List Str).Nodup:=by decide +kernel
def qc4 (K:Frag):Sp:=fun vs H Q _=>∃(l:Addr) (i j m:Int),vs=[.ref l,.int m]/\SqL K H l [.int i,.int j]/\0<=i/\i < m/\0<=j/\j < m/\∀H',bC H H'->Q .non H'
def Yj:Sp:=fun vs H Q _=>∃k c:Int,vs=[.int k,.int c]/\0<=k/\k < c/\Q .non H
abbrev sRP:Stmt:=top 47
theorem qe8:aT ["some","many"] ["some","many"] (aD sRP):=sK9
theorem qa8 {dV:Value}(F:bZ K "refuse_points" "refuse_points" sRP dV f fd)(ma:mg "all"=none)(G1:aP P w K mg base CX0 2 g1 gd1 ["thing","bound"] Xa)(b1:aQ K gd1 ["thing","bound"] [])(k1:kI9 K g1)(m1:mI9 mg "is_number_below" g1) :
  aP P w K mg base CX 3 f fd ["some","many"] (qc4 K):=by
 refine F.ok qe8 (fun vs H Q E h=>?_) fun _ A _ s H vs Q E hr h=>?_
 ·obtain⟨_,_,_,_,rfl,_⟩:=h;rfl
 obtain⟨l,i,j,m,rfl,hl,i0,i1,j0,j1,q⟩:=h;refine⟨_,(aG (cD (gE (dY (cI (Pq rfl) rfl ma PyProof.Rows.boot_all (aA (hZ (nl:=1) (fr:=[1]) (Nc:=["point","many"]) (cl:=[("many",s.heap.objs.size+1)]) rfl ⟨rfl,rfl,by decide +kernel,by decide +kernel,fun x c h=>h,gP rfl,rfl,fun i n h=>match i,h with | 0,h=>by cases h;exact⟨1,rfl,rfl,rfl,rfl,.inl rfl⟩ | k+1,h=>by rw[show 1+(k+1)=k+2 by lia] at h;cases h⟩
    (dM (pv 0)) (fun C s3 H3 fp pins=>(bU (i:=0) wD rfl (Or.inl rfl))) (fun C s3 H3 fp pins=>gO)
    (fun C s3 H3 fp pins=>(aH G1 hr rfl m1 k1 b1 .nil aK (aA (pv 0) (aA (pv 1) aE))))) aE)))) (aG fH) bH)),?_⟩
 refine⟨_,rfl,l,rfl,⟨_,hl⟩,fun D hD=>?_⟩;have sD:=aI hD (.lst []);refine gB (xs:=[.int i,.int j]) (fun k zs H'=>bC H H'/\H' D=some (.lst zs)/\zs=(replicate k true).map V.bl) ⟨sD,aC,rfl⟩ (fun k zs H' h=>h.2.1) (fun k zs H' _ h=>h.1.seq hl) ?_ ?_
 ·rintro k zs x H1 hx ⟨s1,e1,rfl⟩ C hC;have hk:k < 2:=(List.getElem?_eq_some_iff.mp hx).1;obtain⟨y,rfl,y0,y1⟩:∃y,x=.int y/\0<=y/\y < m:=by
   rcases mem_cons.mp (mem_of_getElem? hx) with z | z
   ·exact⟨i,z,i0,i1⟩
   ·exact⟨j,by simpa using z,j0,j1⟩
  refine⟨gS.1,gS.2,gW ?_⟩;refine⟨_,rfl,_,rfl,y,m,rfl,y0,y1,e1,bO (by rw[length_map,length_replicate];lia),hC _ _ ⟨s1.change hD,aC,?_⟩⟩;rw[replicate_succ',map_append];rfl
 ·rintro zs H1 ⟨s1,e1,rfl⟩;refine⟨D,_,rfl,SqL.of e1,_,rfl,ifF ?_ ?_⟩
  ·simp
  ·exact q _ s1
abbrev sRN:Stmt:=top 48
theorem qe9:aT ["k","count"] ["k","count"] (aD sRN):=sK9
theorem Zt {dV:Value}(F:bZ K "refuse_number" "refuse_number" sRN dV f fd)(G1:aP P w K mg base CX0 2 g1 gd1 ["thing","bound"] Xa)(b1:aQ K gd1 ["thing","bound"] [])(k1:kI9 K g1)(m1:mI9 mg "is_number_below" g1) :
  aP P w K mg base CX 3 f fd ["k","count"] Yj:=by
 refine F.ok qe9 (fun vs H Q E h=>?_) fun _ A _ s H vs Q E hr h=>?_
 ·obtain⟨_,_,rfl,_⟩:=h;rfl
 obtain⟨k,c,rfl,u0,u1,q⟩:=h;refine⟨_,(aG (cD (gE (dY (aH G1 hr rfl m1 k1 b1 .nil aK (aA (pv 0) (aA (pv 1) aE))))) (aG fH) bH)),?_⟩;exact⟨_,rfl,_,rfl,k,c,rfl,u0,u1,_,rfl,gK q⟩
abbrev qJ:Stmt:=cO (top 45) 0
theorem Ss:aT ["self","many"] ["self","many"] (aD qJ):=sK9
theorem Qr {dV:Value}{CN:Addr}(F:bZ K "__init__" "Net.__init__" qJ dV f fd)(NTx:NT K mg CN){tM:Tok}(mMP:mg "MOST_POINTS"=some (.int 20 tM))(G1:aP P w K mg base CX0 1 g1 gd1 ["thing"] (oV K))(b1:aQ K gd1 ["thing"] [])(k1:kI9 K g1)(m1:mI9 mg "is_whole" g1):aP P w K mg base CX 2 f fd ["self","many"] (Aw CN):=by
 refine F.ok Ss (fun vs H Q E h=>?_) fun _ A _ s H vs Q E hr h=>?_
 ·obtain⟨_,_,_,rfl,_⟩:=h;rfl
 obtain⟨n,dx,m,rfl,hn,h1,h20,q⟩:=h;refine⟨_,(aB (cD (PW.pt (kH (gE (dY (aH G1 hr rfl m1 k1 b1 .nil aK (aA (pv 1) aE)))) (kH (bF yG (pv 1) aF (bG _)) (jI (bF Id (pv 1) (cT (v:=.int 20) rfl mMP ⟨_,rfl⟩) (bG _)))))) (aG fH) bH)
  (aB (gY (pv 0) (pv 1) rfl)
  (aG (gY (pv 0) (cU aE) rfl)))),?_⟩
 refine⟨_,rfl,_,rfl,.inl ⟨m,rfl,_,rfl,gK ⟨_,rfl,_,_,rfl,rfl,_,rfl,ifF (decide_eq_false (by lia)) ⟨_,rfl,_,_,rfl,rfl,_,rfl,ifF (decide_eq_false (by lia)) ?_⟩⟩⟩⟩;refine⟨_,rfl,_,rfl,n,CN,dx,[],rfl,hn,NTx.cl,NTx.nP,(by show 0 < 1000;decide),?_⟩;refine⟨zl9 0,fun l hl=>?_⟩;have nl:n≠l:=fun z=>by subst z;rw[aC] at hl;cases hl
 have hl0:H l=none:=by rw[aY (Ne.symm nl)] at hl;exact hl
 have l1:=dQ ("point_count":Str) (.int m) [];simp only[length_nil] at l1;refine⟨_,rfl,n,CN,dx,cP "point_count" (.int m) [],rfl,by rw[aY nl];exact aC,NTx.cl,NTx.nK,by lia,?_⟩;refine q l _ hl0 (fun b o e hb=>?_) aC (by rw[aY (Ne.symm nl)];exact aC);rw[aY hb,aY (aL e hl0),aY hb];exact e
abbrev yZ:Stmt:=cO (top 45) 1
theorem Ws:aT ["self"] ["self"] (aD yZ):=sK9
theorem Ro {dV:Value}{CN:Addr}(F:bZ K "many" "Net.many" yZ dV f fd)(NTx:NT K mg CN):aP P w K mg base CX 1 f fd ["self"] (qK CN K):=by
 refine F.ok Ws (fun vs H Q E h=>?_) fun _ A _ s H vs Q E hr h=>?_
 ·obtain⟨_,_,_,_,rfl,_⟩:=h;rfl
 obtain⟨n,l,m,ds,rfl,⟨⟨dx,hn⟩,ts,hl,hr'⟩,q⟩:=h;exact⟨_,(aG (aX (bL (pv 0) rfl))),_,rfl,n,CN,dx,_,_,rfl,hn,NTx.cl,NTx.nP,vH _ _,q⟩
abbrev rD:Stmt:=cO (top 45) 2
theorem Tl:aT ["self"] ["self"] (aD rD):=sK9
theorem Nl {dV:Value}{CN:Addr}(F:bZ K "count" "Net.count" rD dV f fd)(NTx:NT K mg CN)(ml:mg "len"=none):aP P w K mg base CX 1 f fd ["self"] (Ht CN K):=by
 refine F.ok Tl (fun vs H Q E h=>?_) fun _ A _ s H vs Q E hr h=>?_
 ·obtain⟨_,_,_,_,rfl,_⟩:=h;rfl
 obtain⟨n,l,m,ds,rfl,⟨⟨dx,hn⟩,ts,hl,hr'⟩,q⟩:=h;refine⟨_,(aG (aX (cI bV rfl ml PySem.boot_len (aA (bL (pv 0) rfl) aE)))),_,rfl,n,CN,dx,_,_,rfl,hn,NTx.cl,NTx.nK,eT _ _,l,ts,rfl,.inl (SqL.of hl),?_⟩;rw[hr'.length];exact q
abbrev qT:Stmt:=cO (top 45) 6
theorem Rx:aT ["self"] ["self"] (aD qT):=sK9
theorem Qc {dV:Value}{CN:Addr}(F:bZ K "told" "Net.told" qT dV f fd)(NTx:NT K mg CN)(mli:mg "list"=none):aP P w K mg base CX 1 f fd ["self"] (Hy CN K):=by
 refine F.ok Rx (fun vs H Q E h=>?_) fun _ A _ s H vs Q E hr h=>?_
 ·obtain⟨_,_,_,_,rfl,_⟩:=h;rfl
 obtain⟨n,l,m,ds,rfl,⟨⟨dx,hn⟩,ts,hl,hr'⟩,q⟩:=h;refine⟨_,(aG (aX (gA dP rfl mli PyProof.Rows.boot_list (aA (bL (pv 0) rfl) aE)))),_,rfl,n,CN,dx,_,_,rfl,hn,NTx.cl,NTx.nK,eT _ _,l,ts,rfl,.inl (SqL.of hl),fun a ha=>?_⟩;have sa:=aI ha (.lst ts);exact q a ts _ sa ha aC (hr'.same sa)
abbrev Kp:Stmt:=cO (top 45) 3
theorem Us:aT ["self","row","told"] ["self","row"] (aD Kp):=sK9
theorem Yn {dV:Value}{CN:Addr}(F:bZ K "add" "Net.add" Kp dV f fd)(NTx:NT K mg CN){tR:Tok}(mMR:mg "MOST_ROWS"=some (.int 40 tR))(ml:mg "len"=none){gT:Addr}{gdT:FuncData}(T:RT K mg CR CK)(GT:aP P w K mg base CX0 2 gT gdT ["self"] (As CK))(bT:aQ K gdT ["self"] [])(mT:∀k,dX K (CK k) "told" gT)(G1:aP P w K mg base CX0 3 g1 gd1 ["some","many"] (qc4 K))(b1:aQ K gd1 ["some","many"] [])(k1:kI9 K g1)(m1:mI9 mg "refuse_points" g1)(G2:aP P w K mg base CX0 4 g2 gd2 ["word","size"] (Xg K))(b2:aQ K gd2 ["word","size"] [])(k2:kI9 K g2)(m2:mI9 mg "refuse_size" g2):aP P w K mg base CX 5 f fd ["self","row"] (Ur CN K CK):=by
 refine F.ok Us (fun vs H Q E h=>?_) fun _ A _ s H vs Q E hr h=>?_
 ·obtain⟨_,_,_,_,_,_,_,_,_,_,rfl,_⟩:=h;rfl
 obtain⟨n,l,x,z,m,ds,k,i,j,p,rfl,⟨⟨dx,hn⟩,ts,hl,hR⟩,rw,fz,⟨i0,i1,j0,j1,lp,h0,bp⟩,h40,q⟩:=h;have r2:=hr.mono (show 2<=4 by lia);have r3:=hr.mono (show 3<=4 by lia);refine⟨_,(aB (aV (i:=2) Us.nd rfl (Or.inl rfl) (dZ (f:=fun _=>gT) (fd:=fun _=>gdT) (sp:=fun _=>As CK) (pv 1) T.cl mT (fun _=>GT) r2 (fun _=>bT) .nil aK))
  (aB (bY (aH G1 r3 rfl m1 k1 b1 .nil aK (aA (cU (aA (aW bA (pv 2) aF (fun _ _=>rfl)) (aA (aW bA (pv 2) aF (fun _ _=>rfl)) aE))) (aA (bL (pv 0) rfl) aE))))
  (aB (bY (aH G2 hr rfl m2 k2 b2 .nil aK (aA (aW bA (pv 2) aF (fun _ _=>rfl)) (aA (aW bA (pv 2) aF (fun _ _=>rfl)) aE))))
  (aB (cD (bF Nq (cI bV rfl ml PySem.boot_len (aA (bL (pv 0) rfl) aE)) (cT (v:=.int 40) rfl mMR ⟨_,rfl⟩) (bG _)) (aG fH) bH)
  (aB (bY (lQ PySem.F.plainAttrs_list PySem.F.slot_list_append PySem.F.type_list_append eY (bL (pv 0) rfl) (aA (pv 2) aE)))
  (aG (aX (aZ iF (cI bV rfl ml PySem.boot_len (aA (bL (pv 0) rfl) aE)) aF)))))))),?_⟩
 obtain⟨dr,hx⟩:=id rw;have len:=hR.length;refine⟨_,rfl,k,x,dr,_,rfl,hx,(cV _ _ _ (by decide +kernel) (by decide +kernel) (by decide +kernel)),x,k,_,_,_,rfl,rw,fun t ht=>?_⟩;have st:=aI ht (.tup [.str k.wd,.int i,.int j,.ref z]);have et:SqT K (upd H t (.tup [.str k.wd,.int i,.int j,.ref z])) t [.str k.wd,.int i,.int j,.ref z]:=SqT.of aC;generalize upd H t (.tup [.str k.wd,.int i,.int j,.ref z])=H1a at st et ⊢;have hn1:=st _ _ hn;have hl1:=st _ _ hl;refine⟨_,rfl,t,_,1,_,rfl,rfl,et,rfl,_,rfl,t,_,2,_,rfl,rfl,et,rfl,zl9 2,fun lq hlq=>?_⟩;have sq:=aI hlq (.lst [.int i,.int j]);have eq:upd H1a lq (.lst [.int i,.int j]) lq=some (.lst [.int i,.int j]):=aC;generalize upd H1a lq (.lst [.int i,.int j])=H1b at sq eq ⊢;have hnb:=sq _ _ hn1;refine⟨_,rfl,n,CN,dx,_,_,rfl,hnb,NTx.cl,NTx.nP,vH _ _,lq,i,j,m,rfl,SqL.of eq,i0,i1,j0,j1,fun H1 sc=>?_⟩;have sqc:=sq.trans sc;have st:=st.trans sqc;have et:=sqc.seqT et;have hn1:=sqc _ _ hn1;have hl1:=sqc _ _ hl1;refine⟨_,rfl,t,_,0,_,rfl,rfl,et,rfl,_,rfl,t,_,3,_,rfl,rfl,et,rfl,k,z,p,rfl,st.fq fz,lp,h0,bp,?_⟩;refine⟨_,rfl,n,CN,dx,_,_,rfl,hn1,NTx.cl,NTx.nK,eT _ _,l,ts,rfl,.inl (SqL.of hl1),_,_,rfl,rfl,_,rfl,ifF (decide_eq_false (by lia)) ?_⟩;refine⟨_,rfl,n,CN,dx,_,_,rfl,hn1,NTx.cl,NTx.nK,eT _ _,.inl ⟨rfl,_,SqL.of hl1⟩,_,rfl,l,ts,.ref t,rfl,rfl,hl1,bO (by lia),?_⟩;have nn:n≠l:=dD hn1 hl1 (fun z=>by cases z);have hn2:upd H1 l (.lst (ts++[.ref t])) n=some (.ins CN dx (gL m l)):=by rw[aY nn];exact hn1
 have hl2:upd H1 l (.lst (ts++[.ref t])) l=some (.lst (ts++[.ref t])):=aC;refine⟨_,rfl,n,CN,dx,_,_,rfl,hn2,NTx.cl,NTx.nK,eT _ _,l,_,rfl,.inl (SqL.of hl2),_,_,rfl,rfl,?_⟩;show Q (.int (((ts++[V.ref t]).length:Int) - 1)) _;rw[length_append,length_singleton,len,show (((ds.length+1:Nat):Int) - 1)=(ds.length:Int) by lia];refine q _ (st.x.write) ⟨⟨dx,hn2⟩,_,hl2,Rts.upd hl1 ((hR.same st).app (.cons et (st.fq fz) .nil))⟩
abbrev lW:Stmt:=cO (top 45) 4
theorem Da:aT ["self","k","size","old"] ["self","k","size"] (aD lW):=sK9
theorem Jy {dV:Value}{CN:Addr}(F:bZ K "change" "Net.change" lW dV f fd)(NTx:NT K mg CN)(ml:mg "len"=none)(G1:aP P w K mg base CX0 3 g1 gd1 ["k","count"] Yj)(b1:aQ K gd1 ["k","count"] [])(k1:kI9 K g1)(m1:mI9 mg "refuse_number" g1)(G2:aP P w K mg base CX0 4 g2 gd2 ["word","size"] (Xg K))(b2:aQ K gd2 ["word","size"] [])(k2:kI9 K g2)(m2:mI9 mg "refuse_size" g2):aP P w K mg base CX 5 f fd ["self","k","size"] (Bu CN K):=by
 refine F.ok Da (fun vs H Q E h=>?_) fun _ A _ s H vs Q E hr h=>?_
 ·obtain⟨_,_,_,_,_,_,_,_,_,_,_,rfl,_⟩:=h;rfl
 obtain⟨n,l,z,m,q',ds,k,i,j,p0,p,rfl,⟨⟨dx,hn⟩,ts,hl,hR⟩,q0,hq,fz,lp,h0,bp,q⟩:=h;have r2:=hr.mono (show 3<=4 by lia);refine⟨_,(aB (bY (aH G1 r2 rfl m1 k1 b1 .nil aK (aA (pv 1) (aA (cI bV rfl ml PySem.boot_len (aA (bL (pv 0) rfl) aE)) aE))))
  (aB (aV (i:=3) Da.nd rfl (Or.inl rfl) (aW bX (bL (pv 0) rfl) (pv 1) (fun _ _=>rfl)))
  (aB (bY (aH G2 hr rfl m2 k2 b2 .nil aK (aA (aW bA (pv 3) aF (fun _ _=>rfl)) (aA (pv 2) aE))))
  (aG (oC (dI (aA (aW bA (pv 3) aF (fun _ _=>rfl)) (aA (aW bA (pv 3) aF (fun _ _=>rfl)) (aA (aW bA (pv 3) aF (fun _ _=>rfl)) (aA (pv 2) aE))))) (nU (bL (pv 0) rfl) (pv 1) jC)))))),?_⟩
 have len:=hR.length;have lt:q'.toNat < ds.length:=(List.getElem?_eq_some_iff.mp hq).1;obtain⟨t,z0,et,ht,_⟩:=hR.at hq;have at_:atI ts q'=some (.ref t):=by
  have:=cL et
  rwa [show ((q'.toNat:Nat):Int)=q' by lia] at this
 have ix_:ixN ts.length q'=some q'.toNat:=by
  have:=jX (n:=ts.length) (k:=q'.toNat) (by lia)
  rwa [show ((q'.toNat:Nat):Int)=q' by lia] at this
 refine⟨_,rfl,_,rfl,n,CN,dx,_,_,rfl,hn,NTx.cl,NTx.nK,eT _ _,l,ts,rfl,.inl (SqL.of hl),q',_,rfl,q0,by lia,?_⟩;refine⟨_,rfl,n,CN,dx,_,_,rfl,hn,NTx.cl,NTx.nK,eT _ _,_,rfl,l,ts,q',_,rfl,rfl,SqL.of hl,at_,?_⟩;refine⟨_,rfl,t,_,0,_,rfl,rfl,ht,rfl,_,rfl,k,z,p,rfl,fz,lp,h0,bp,?_⟩;refine⟨_,rfl,t,_,0,_,rfl,rfl,ht,rfl,_,rfl,t,_,1,_,rfl,rfl,ht,rfl,_,rfl,t,_,2,_,rfl,rfl,ht,rfl,_,rfl,zl9 4,fun u hu=>?_⟩;have su:=aI hu (.tup [.str k.wd,.int i,.int j,.ref z]);have eu:SqT K (upd H u (.tup [.str k.wd,.int i,.int j,.ref z])) u [.str k.wd,.int i,.int j,.ref z]:=SqT.of aC;generalize upd H u (.tup [.str k.wd,.int i,.int j,.ref z])=H1 at su eu ⊢;have hn1:=su _ _ hn;have hl1:=su _ _ hl;refine⟨_,rfl,n,CN,dx,_,_,rfl,hn1,NTx.cl,NTx.nK,eT _ _,_,rfl,l,ts,q',q'.toNat,rfl,rfl,hl1,ix_,?_⟩;have nn:n≠l:=dD hn1 hl1 (fun z=>by cases z);refine q _ (su.x.write) ⟨⟨dx,by rw[aY nn];exact hn1⟩,_,aC,Rts.upd hl1 (Rts.set eu (su.fq fz) _ (hR.same su))⟩
theorem Ui:(["told"]:List Str).Nodup:=by decide +kernel
abbrev xT:Stmt:=cO (top 45) 5
theorem Za:aT ["self"] ["self"] (aD xT):=sK9
theorem Uo {dV:Value}{CN:Addr}(F:bZ K "rows" "Net.rows" xT dV f fd)(NTx:NT K mg CN)(G1:aP P w K mg base CX0 3 g1 gd1 ["told"] (uF K CK))(b1:aQ K gd1 ["told"] [])(k1:kI9 K g1)(m1:mI9 mg "row_of" g1):aP P w K mg base CX 4 f fd ["self"] (lK CN K CK):=by
 refine F.ok Za (fun vs H Q E h=>?_) fun _ A _ s H vs Q E hr h=>?_
 ·obtain⟨_,_,_,_,rfl,_⟩:=h;rfl
 obtain⟨n,l,m,ds,rfl,⟨⟨dx,hn⟩,ts,hl,hR⟩,h100,q⟩:=h;refine⟨_,(aG (aX (hZ (nl:=1) (fr:=[]) (Nc:=["told"]) (cl:=[]) rfl ⟨rfl,rfl,by decide +kernel,by decide +kernel,fun x c h=>(by cases h),gP rfl,rfl,fun i n h=>(by simp at h)⟩
    (dM (bL (pv 0) rfl)) (fun C s3 H3 fp pins=>(bU (i:=0) Ui rfl (Or.inl rfl))) (fun C s3 H3 fp pins=>gO)
    (fun C s3 H3 fp pins=>(aH G1 hr rfl m1 k1 b1 .nil aK (aA (pv 0) aE)))))),?_⟩
 have len:=hR.length;refine⟨_,rfl,n,CN,dx,_,_,rfl,hn,NTx.cl,NTx.nK,eT _ _,l,rfl,⟨_,SqL.of hl⟩,fun D hD=>?_⟩;have sD:=aI hD (.lst []);refine gB (xs:=ts) (fun i zs H'=>bC H H'/\H' D=some (.lst zs)/\gQ CK K H' zs (ds.take i)) ⟨sD,aC,.nil⟩ (fun i zs H' h=>h.2.1) (fun i zs H' _ h=>h.1.seq (SqL.of hl)) ?_ ?_
 ·rintro i zs x H1 hx ⟨s1,e1,R1⟩ C hC;have hi:i < ds.length:=by
   have:=(List.getElem?_eq_some_iff.mp hx).1;lia
  obtain⟨⟨k,u,v,p⟩,hd⟩:∃d,ds[i]?=some d:=⟨_,getElem?_eq_getElem hi⟩
  obtain⟨t,z,et,ht,fz⟩:=hR.at hd;have ex:x=.ref t:=by rw[et] at hx;exact(Option.some.inj hx).symm
  subst ex;have lz:=R1.length;rw[length_take] at lz;refine⟨gS.1,gS.2,gW ?_⟩;refine⟨_,rfl,t,_,_,_,_,rfl,s1.seqT ht,k,rfl,fun y H2 s2 ny rw=>?_⟩;have e2:=s2 _ _ e1;refine⟨e2,bO (by lia),hC _ _ ⟨(s1.trans s2).change hD,aC,?_⟩⟩;rw[take_add_one,hd];exact gQ.upd e2 ((R1.same s2).app (.cons rw ((s1.trans s2).fq fz) .nil))
 ·rintro zs H1 ⟨s1,e1,R1⟩;rw[len,take_length] at R1;exact q D zs H1 s1 hD e1 R1
theorem Ds {g:Addr}{gd:FuncData}(F:aP P w K mg base CX0 2 g gd ["thing"] (Lo K)):aP P w K mg base CX0 2 g gd ["thing"] (Pk K):=
 F.weak fun vs H Q E h=>by
  obtain⟨a,p,rfl,f,l,q⟩:=h;exact⟨_,some p,rfl,.fr f l,q⟩
abbrev rA:Stmt:=top 21
theorem Ri:aT ["one","other"] ["one","other"] (aD rA):=sK9
theorem Lm {dV:Value}(F:bZ K "times" "times" rA dV f fd)(G1:aP P w K mg base CX0 2 g1 gd1 ["top","bottom"] iW)(b1:aQ K gd1 ["top","bottom"] [])(k1:kI9 K g1)(m1:mI9 mg "fraction" g1) :
  aP P w K mg base CX 3 f fd ["one","other"] (jF K mY):=by
 refine F.ok Ri (fun vs H Q E h=>?_) fun _ A _ s H vs Q E hr h=>?_
 ·obtain⟨_,_,_,_,_,_,rfl,_⟩:=h;rfl
 obtain⟨a,b,p,q,n,m,rfl,ha,hb,lp,lq,bp,bq,hn,z⟩:=h;refine⟨_,aG (aX (aH G1 hr rfl m1 k1 b1 .nil aK (aA
  (aZ dB (aW bA (pv 0) aF (fun _ _=>rfl)) (aW bA (pv 1) aF (fun _ _=>rfl)))
  (aA (aZ dB (aW bA (pv 0) aF (fun _ _=>rfl)) (aW bA (pv 1) aF (fun _ _=>rfl))) aE)))),?_⟩
 refine fC rfl ha (fC rfl hb (dA bp.a bq.a (by lia) (by lia) ?_));refine cY rfl ha (cY rfl hb (dA bp.b bq.b (by lia) (by lia) ⟨_,_,n+m,rfl,gZ lp lq,bp.b.mul bq.b,by lia,z⟩))
abbrev yS:Stmt:=top 22
theorem Vo:aT ["one","other"] ["one","other"] (aD yS):=sK9
theorem Rm {dV:Value}(F:bZ K "over" "over" yS dV f fd)(G1:aP P w K mg base CX0 2 g1 gd1 ["top","bottom"] iW)(b1:aQ K gd1 ["top","bottom"] [])(k1:kI9 K g1)(m1:mI9 mg "fraction" g1) :
  aP P w K mg base CX 3 f fd ["one","other"] (zY K):=by
 refine F.ok Vo (fun vs H Q E h=>?_) fun _ A _ s H vs Q E hr h=>?_
 ·obtain⟨_,_,_,_,_,_,rfl,_⟩:=h;rfl
 obtain⟨a,b,p,q,n,m,rfl,ha,hb,lp,lq,h0,bp,bq,hn,z⟩:=h;refine⟨_,(aB (cD (bF eZ (aW bA (pv 1) aF (fun _ _=>rfl)) aF (bG _)) (aG fH) bH)
  (aG (aX (aH G1 hr rfl m1 k1 b1 .nil aK (aA (aZ dB (aW bA (pv 0) aF (fun _ _=>rfl)) (aW bA (pv 1) aF (fun _ _=>rfl))) (aA (aZ dB (aW bA (pv 0) aF (fun _ _=>rfl)) (aW bA (pv 1) aF (fun _ _=>rfl))) aE)))))),?_⟩
 refine fC rfl hb ⟨rfl,_,rfl,?_⟩;rw[decide_eq_false (fun e=>absurd (show q.1=0 by injection e) (by lia))];refine gK ?_;refine fC rfl ha (cY rfl hb (dA bp.a bq.b (by lia) (by lia) ?_));exact cY rfl ha (fC rfl hb (dA bp.b bq.a (by lia) (by lia) ⟨_,_,n+m,rfl,Mq.sZ lp (by lia),bp.b.mul bq.a,by lia,z⟩))
abbrev qW:Stmt:=top 66
theorem Rf:aT ["line","column","amount"] ["line","column","amount"] (aD qW):=sK9
theorem Na {dV:Value}(F:bZ K "raise_at" "raise_at" qW dV f fd)(G1:aP P w K mg base CX0 3 g1 gd1 ["one","other"] (jF K oW))(b1:aQ K gd1 ["one","other"] [])(k1:kI9 K g1)(m1:mI9 mg "plus" g1) :
  aP P w K mg base CX 4 f fd ["line","column","amount"] (rZ K):=by
 refine F.ok Rf (fun vs H Q E h=>?_) fun _ A _ s H vs Q E hr h=>?_
 ·obtain⟨_,_,_,_,_,_,_,_,rfl,_⟩:=h;rfl
 obtain⟨l,z,j,xs,ps,a,n,m,rfl,hl,hF,hj,p1,bp,fz,a1,ba,hn,q⟩:=h;refine⟨_,(aG (oC (aH G1 hr rfl m1 k1 b1 .nil aK (aA (aW bX (pv 0) (pv 1) (fun _ _=>rfl)) (aA (pv 2) aE))) (nU (pv 0) (pv 1) jC))),?_⟩;have lx:=hF.length;obtain⟨u,eu,fu⟩:=hF.at (tK hj);refine⟨_,rfl,_,rfl,l,xs,_,_,rfl,rfl,SqL.of hl,cL eu,_,rfl,u,z,_,a,n,m,rfl,fu,fz,p1,a1,bp,ba,hn,fun v H1 s1 e1=>?_⟩;exact⟨_,rfl,_,rfl,l,xs,_,j,rfl,rfl,s1 _ _ hl,jX (by lia),q v H1 s1 (Fq.of e1)⟩
abbrev rB:Stmt:=top 65
theorem So:aT ["matrix","row","column","amount"] ["matrix","row","column","amount"] (aD rB):=sK9
theorem Qa {dV:Value}(F:bZ K "enter_stream" "enter_stream" rB dV f fd)(T:RT K mg CR CK){aN:Addr}(fN:∀H,Fq K H aN (0,1))(mNO:mI9 mg "NOUGHT" aN)(G1:aP P w K mg base CX0 4 g1 gd1 ["line","column","amount"] (rZ K))(b1:aQ K gd1 ["line","column","amount"] [])(k1:kI9 K g1)(m1:mI9 mg "raise_at" g1)(G2:aP P w K mg base CX0 3 g2 gd2 ["one","other"] (jF K Mq.minus))(b2:aQ K gd2 ["one","other"] [])(k2:kI9 K g2)(m2:mI9 mg "minus" g2) :
  aP P w K mg base CX 5 f fd ["matrix","row","column","amount"] (Bj K CK):=by
 refine F.ok So (fun vs H Q E h=>?_) fun _ A _ s H vs Q E hr h=>?_
 ·obtain⟨_,_,_,_,_,_,_,_,_,_,_,_,rfl,_⟩:=h;rfl
 obtain⟨D,x,z,zz,as,M,⟨k0,u,v,p⟩,w,n,k,c,a,rfl,mx,mb,rw,pt,hc,fz,la,ba,hn,q⟩:=h;have r3:=hr.mono (show 3<=4 by lia);refine⟨_,(aB (bY (aH G1 hr rfl m1 k1 b1 .nil aK (aA (aW bX (pv 0) (bL (pv 1) rfl) (fun _ _=>rfl)) (aA (pv 2) (aA (pv 3) aE)))))
  (aG (bY (aH G1 hr rfl m1 k1 b1 .nil aK (aA (aW bX (pv 0) (bL (pv 1) rfl) (fun _ _=>rfl)) (aA (pv 2) (aA (aH G2 r3 rfl m2 k2 b2 .nil aK (aA (cT (v:=.ref aN) rfl mNO rfl) (aA (pv 3) aE))) aE))))))),?_⟩
 obtain⟨i0,i1,j0,j1⟩:dC (w:Int) u v:=pt;obtain⟨uN,rfl⟩:∃uN:Nat,u=(uN:Int):=⟨u.toNat,by lia⟩
 obtain⟨vN,rfl⟩:∃vN:Nat,v=(vN:Int):=⟨v.toNat,by lia⟩
 have hu':uN < w:=by lia
 have hv':vN < w:=by lia
 obtain⟨ln,bn,_⟩:=kR la ba;obtain⟨dx,hx⟩:=id rw;obtain⟨e1,m1,w1⟩:=mb.row hu';obtain⟨e2,l2,b2⟩:=mb.at hu' hc;have lam:=mx.la;obtain⟨a1,ha1⟩:∃a1,as[uN]?=some a1:=⟨_,getElem?_eq_getElem (by rw[lam,mb.h];exact hu')⟩
 obtain⟨xs,hxs,hF⟩:=mx.r uN a1 _ ha1 e1;have at1:atI (as.map V.ref) (uN:Int)=some (.ref a1):=cL (by rw[getElem?_map,ha1];rfl);refine⟨_,rfl,_,rfl,x,CK _,_,_,_,rfl,hx,T.cl _,T.nS _,dF _ _ _,D,_,_,_,rfl,rfl,SqL.of mx.d,at1,_,rfl,_,rfl,a1,z,c,xs,_,a,n,k,rfl,hxs,hF,by rw[w1];exact hc,l2.pos,b2,fz,la.pos,ba,by lia,fun v1 H1 s1 f1=>?_⟩;obtain⟨mx2,sx2⟩:=mx.set (j:=c) ha1 e1 hxs hF s1 f1;have mb2:=mb.rz hu' hc la ba;generalize upd H1 a1 (.lst (xs.set c (.ref v1)))=H2 at mx2 sx2 ⊢;have mx2:Mx K H2 D as (rz M uN c a):=mx2;have ls:=mx.lsts;have fz2:Fq K H2 z a:=sx2.seqT ls fz;obtain⟨dx2,hx2⟩:=id (sx2.rw ls rw);obtain⟨e3,m3,w3⟩:=mb2.row hv';obtain⟨e4,l4,b4⟩:=mb2.at hv' hc;obtain⟨a2,ha2⟩:∃a2,as[vN]?=some a2:=⟨_,getElem?_eq_getElem (by rw[lam,mb.h];exact hv')⟩
 obtain⟨xs2,hxs2,hF2⟩:=mx2.r vN a2 _ ha2 e3;have at2:atI (as.map V.ref) (vN:Int)=some (.ref a2):=cL (by rw[getElem?_map,ha2];rfl);have b01:Bd 1 (0,1):=⟨show (0:Nat) < 2 ^ 1 by decide,show (1:Nat) < 2 ^ 1 by decide⟩
 refine⟨_,rfl,_,rfl,x,CK _,_,_,_,rfl,hx2,T.cl _,T.nG _,dS _ _ _,D,_,_,_,rfl,rfl,SqL.of mx2.d,at2,_,rfl,_,rfl,aN,z,(0,1),a,1,k,rfl,fN _,fz2,by decide,la.pos,b01,ba,by lia,fun v3 H3 s3 e5=>?_⟩;refine⟨a2,v3,c,xs2,_,_,n+k+1,k+2,rfl,s3 _ _ hxs2,hF2.same s3,by rw[w3];exact hc,l4.pos,b4,Fq.of e5,ln.pos,bn,by lia,fun v4 H4 s4 f4=>?_⟩;obtain⟨mx3,sx3⟩:=(mx2.same s3).set (j:=c) ha2 e3 (s3 _ _ hxs2) (hF2.same s3) s4 f4;exact q _ (sx2.trans (s3.sx.trans sx3)) mx3
abbrev mF:Stmt:=top 62
theorem Cb:aT ["matrix","row","share"] ["matrix","row"] (aD mF):=sK9
theorem Lj {dV:Value}(F:bZ K "enter_piece" "enter_piece" mF dV f fd)(T:RT K mg CR CK){aN aO:Addr}(fN:∀H,Fq K H aN (0,1))(mNO:mI9 mg "NOUGHT" aN)(fO:∀H,Fq K H aO (1,1))(mON:mI9 mg "ONE" aO)(G1:aP P w K mg base CX0 3 g1 gd1 ["one","other"] (zY K))(b1:aQ K gd1 ["one","other"] [])(k1:kI9 K g1)(m1:mI9 mg "over" g1)(G2:aP P w K mg base CX0 5 g2 gd2 ["matrix","row","column","amount"] (Bj K CK))(b2:aQ K gd2 ["matrix","row","column","amount"] [])(k2:kI9 K g2)(m2:mI9 mg "enter_stream" g2)(G3:aP P w K mg base CX0 3 g3 gd3 ["one","other"] (jF K Mq.minus))(b3:aQ K gd3 ["one","other"] [])(k3:kI9 K g3)(m3:mI9 mg "minus" g3) :
  aP P w K mg base CX 6 f fd ["matrix","row"] (Ca K CK):=by
 refine F.ok Cb (fun vs H Q E h=>?_) fun _ A _ s H vs Q E hr h=>?_
 ·obtain⟨_,_,_,_,_,_,_,_,_,rfl,_⟩:=h;rfl
 obtain⟨D,x,zz,as,M,⟨k0,u,v,p⟩,w,n,k,rfl,mx,mb,rw,fp,pt,lp,p0,bp,hn,q⟩:=h;have r3:=hr.mono (show 3<=5 by lia);refine⟨_,(aB (aV (i:=2) Cb.nd rfl (Or.inl rfl) (aH G1 r3 rfl m1 k1 b1 .nil aK (aA (cT (v:=.ref aO) rfl mON rfl) (aA (bL (pv 1) rfl) aE))))
  (aB (bY (aH G2 hr rfl m2 k2 b2 .nil aK (aA (pv 0) (aA (pv 1) (aA (bL (pv 1) rfl) (aA (pv 2) aE))))))
  (aG (bY (aH G2 hr rfl m2 k2 b2 .nil aK (aA (pv 0) (aA (pv 1) (aA (bL (pv 1) rfl) (aA (aH G3 r3 rfl m3 k3 b3 .nil aK (aA (cT (v:=.ref aN) rfl mNO rfl) (aA (pv 2) aE))) aE))))))))),?_⟩
 have lp:Low p:=lp;have p0:0 < p.1:=p0;have bp:Bd k p:=bp;have fp:Fq K H zz p:=fp;obtain⟨i0,i1,j0,j1⟩:dC (w:Int) u v:=pt;obtain⟨uN,rfl⟩:∃uN:Nat,u=(uN:Int):=⟨u.toNat,by lia⟩
 obtain⟨vN,rfl⟩:∃vN:Nat,v=(vN:Int):=⟨v.toNat,by lia⟩
 obtain⟨ls,bs,_⟩:=Dk lp p0 bp;obtain⟨ln,bn,_⟩:=kR ls bs;have pt':dC (w:Int) (uN:Int) (vN:Int):=⟨i0,i1,j0,j1⟩
 obtain⟨dx,hx⟩:=id rw;refine⟨_,rfl,x,CK _,_,_,_,rfl,hx,T.cl _,T.nZ _,eU _ _ _,aO,zz,(1,1),p,1,k,rfl,fO _,fp,h11,lp.pos,p0,hG,bp,by lia,fun s' H1 s1 e1=>?_⟩;have fs:Fq K H1 s' (kU (1,1) p):=Fq.of e1;have rw1:=rw.same s1;obtain⟨dx1,hx1⟩:=id rw1;have mx1:=mx.same s1;refine⟨_,rfl,_,rfl,_,rfl,x,CK _,_,_,_,rfl,hx1,T.cl _,T.nS _,dF _ _ _,_,rfl,D,x,s',_,as,M,(k0,(uN:Int),(vN:Int),p),w,n,k+1,uN,_,rfl,mx1,mb,rw1,pt',by lia,fs,ls,bs,by lia,fun H2 sx2 mx2=>?_⟩;have lst:=mx1.lsts;have fs2:Fq K H2 s' (kU (1,1) p):=sx2.seqT lst fs;have rw2:=sx2.rw lst rw1;obtain⟨dx2,hx2⟩:=id rw2;obtain⟨mb2,_⟩:=Ct (d:=(k0,(uN:Int),(vN:Int),p)) mb pt' (c:=uN) (by lia) ls bs;have b01:Bd 1 (0,1):=⟨show (0:Nat) < 2 ^ 1 by decide,show (1:Nat) < 2 ^ 1 by decide⟩
 refine⟨_,rfl,_,rfl,_,rfl,x,CK _,_,_,_,rfl,hx2,T.cl _,T.nG _,dS _ _ _,_,rfl,aN,s',(0,1),_,1,k+1,rfl,fN _,fs2,by decide,ls.pos,b01,bs,by lia,fun v3 H3 s3 e3=>?_⟩;refine⟨D,x,v3,_,as,_,(k0,(uN:Int),(vN:Int),p),w,n+2*(k+1)+4,k+3,vN,_,rfl,mx2.same s3,mb2,rw2.same s3,pt',by lia,Fq.of e3,ln,bn,by lia,fun H4 sx4 mx4=>?_⟩;exact q H4 (s1.sx.trans (sx2.trans (s3.sx.trans sx4))) mx4
abbrev mG:Stmt:=top 63
theorem Qd:aT ["right","row"] ["right","row"] (aD mG):=sK9
theorem Iv {dV:Value}(F:bZ K "enter_push" "enter_push" mG dV f fd)(T:RT K mg CR CK){aN:Addr}(fN:∀H,Fq K H aN (0,1))(mNO:mI9 mg "NOUGHT" aN)(G1:aP P w K mg base CX0 4 g1 gd1 ["line","column","amount"] (rZ K))(b1:aQ K gd1 ["line","column","amount"] [])(k1:kI9 K g1)(m1:mI9 mg "raise_at" g1)(G2:aP P w K mg base CX0 3 g2 gd2 ["one","other"] (jF K Mq.minus))(b2:aQ K gd2 ["one","other"] [])(k2:kI9 K g2)(m2:mI9 mg "minus" g2) :
  aP P w K mg base CX 5 f fd ["right","row"] (uL K CK):=by
 refine F.ok Qd (fun vs H Q E h=>?_) fun _ A _ s H vs Q E hr h=>?_
 ·obtain⟨_,_,_,_,_,_,_,_,_,rfl,_⟩:=h;rfl
 obtain⟨R,x,zz,ys,rs,⟨k0,u,v,p⟩,w,n,k,rfl,eR,hF,lb,rw,fp,pt,lp,bp,hn,q⟩:=h;have r3:=hr.mono (show 3<=4 by lia);refine⟨_,(aB (bY (aH G1 hr rfl m1 k1 b1 .nil aK (aA (pv 0) (aA (bL (pv 1) rfl) (aA (aH G2 r3 rfl m2 k2 b2 .nil aK (aA (cT (v:=.ref aN) rfl mNO rfl) (aA (bL (pv 1) rfl) aE))) aE)))))
  (aG (bY (aH G1 hr rfl m1 k1 b1 .nil aK (aA (pv 0) (aA (bL (pv 1) rfl) (aA (bL (pv 1) rfl) aE))))))),?_⟩
 have lp:Low p:=lp;have bp:Bd k p:=bp;have fp:Fq K H zz p:=fp;obtain⟨i0,i1,j0,j1⟩:dC (w:Int) u v:=pt;obtain⟨uN,rfl⟩:∃uN:Nat,u=(uN:Int):=⟨u.toNat,by lia⟩
 obtain⟨vN,rfl⟩:∃vN:Nat,v=(vN:Int):=⟨v.toNat,by lia⟩
 obtain⟨ln,bn,_⟩:=kR lp bp;obtain⟨dx,hx⟩:=id rw;obtain⟨_,l1,b1⟩:=lb.at (j:=uN) (by lia);have b01:Bd 1 (0,1):=⟨show (0:Nat) < 2 ^ 1 by decide,show (1:Nat) < 2 ^ 1 by decide⟩
 refine⟨_,rfl,_,rfl,x,CK _,_,_,_,rfl,hx,T.cl _,T.nS _,dF _ _ _,_,rfl,x,CK _,_,_,_,rfl,hx,T.cl _,T.nZ _,eU _ _ _,aN,zz,(0,1),p,1,k,rfl,fN _,fp,by decide,lp.pos,b01,bp,by lia,fun v1 H1 s1 e1=>?_⟩;refine⟨R,v1,uN,ys,rs,_,n,k+2,rfl,s1 _ _ eR,hF.same s1,by rw[lb.w];lia,l1.pos,b1,Fq.of e1,ln.pos,bn,by lia,fun v2 H2 s2 f2=>?_⟩;have s12:=s1.trans s2;have eR2:=s12 _ _ eR;have F3:=(Fqs.set f2 uN (hF.same s12)).upd (o:=.lst (ys.set uN (.ref v2))) eR2;have e3:upd H2 R (.lst (ys.set uN (.ref v2))) R=some (.lst (ys.set uN (.ref v2))):=aC;have sx3:SX [R] H (upd H2 R (.lst (ys.set uN (.ref v2)))):=s12.sx.write (by simp);have fp3:Fq K (upd H2 R (.lst (ys.set uN (.ref v2)))) zz p:=SqT.upd (s12.fq fp) eR2;have rw3:=(rw.same s12).upd (o:=.lst (ys.set uN (.ref v2))) eR2;generalize upd H2 R (.lst (ys.set uN (.ref v2)))=H3 at F3 e3 sx3 fp3 rw3 ⊢;have lb3:=lb.rz (j:=uN) (by lia) ln bn;have F3:Fqs K H3 (ys.set uN (.ref v2)) (rzl rs uN (Mq.minus (0,1) p)):=F3;obtain⟨_,l4,b4⟩:=lb3.at (j:=vN) (by lia);obtain⟨dx3,hx3⟩:=id rw3;refine⟨_,rfl,_,rfl,x,CK _,_,_,_,rfl,hx3,T.cl _,T.nG _,dS _ _ _,_,rfl,x,CK _,_,_,_,rfl,hx3,T.cl _,T.nZ _,eU _ _ _,R,zz,vN,_,_,p,n+(k+2)+1,k,rfl,e3,F3,by rw[lb3.w];lia,l4.pos,b4,fp3,lp.pos,bp,by lia,fun v5 H5 s5 f5=>?_⟩;refine q _ _ (sx3.trans (s5.sx.write (by simp))) aC ?_;exact(Fqs.set f5 vN (F3.same s5)).upd (s5 _ _ e3)
abbrev mH:Stmt:=top 64
theorem Lv:aT ["matrix","right","row","column"] ["matrix","right","row","column"] (aD mH):=sK9
theorem Ky {dV:Value}(F:bZ K "enter_hold" "enter_hold" mH dV f fd)(T:RT K mg CR CK){aN aO:Addr}(fN:∀H,Fq K H aN (0,1))(mNO:mI9 mg "NOUGHT" aN)(fO:∀H,Fq K H aO (1,1))(mON:mI9 mg "ONE" aO)(G1:aP P w K mg base CX0 5 g1 gd1 ["matrix","row","column","amount"] (Bj K CK))(b1:aQ K gd1 ["matrix","row","column","amount"] [])(k1:kI9 K g1)(m1:mI9 mg "enter_stream" g1)(G2:aP P w K mg base CX0 4 g2 gd2 ["line","column","amount"] (rZ K))(b2:aQ K gd2 ["line","column","amount"] [])(k2:kI9 K g2)(m2:mI9 mg "raise_at" g2)(G3:aP P w K mg base CX0 3 g3 gd3 ["one","other"] (jF K Mq.minus))(b3:aQ K gd3 ["one","other"] [])(k3:kI9 K g3)(m3:mI9 mg "minus" g3) :
  aP P w K mg base CX 6 f fd ["matrix","right","row","column"] (Cj K CK):=by
 refine F.ok Lv (fun vs H Q E h=>?_) fun _ A _ s H vs Q E hr h=>?_
 ·obtain⟨_,_,_,_,_,_,_,_,_,_,_,_,rfl,_⟩:=h;rfl
 obtain⟨D,R,x,zz,as,M,ys,rs,⟨k0,u,v,p⟩,w,n,c,rfl,mx,mb,eR,hFR,lr,nRD,nRa,rw,fp,pt,hc,hn,q⟩:=h;have r3:=hr.mono (show 3<=5 by lia);have r4:=hr.mono (show 4<=5 by lia);refine⟨_,(aB (bY (aH G1 hr rfl m1 k1 b1 .nil aK (aA (pv 0) (aA (pv 2) (aA (pv 3) (aA (cT (v:=.ref aO) rfl mON rfl) aE))))))
  (aB (bY (aH G2 r4 rfl m2 k2 b2 .nil aK (aA (aW bX (pv 0) (pv 3) (fun _ _=>rfl)) (aA (bL (pv 2) rfl) (aA (cT (v:=.ref aO) rfl mON rfl) aE)))))
  (aB (bY (aH G2 r4 rfl m2 k2 b2 .nil aK (aA (aW bX (pv 0) (pv 3) (fun _ _=>rfl)) (aA (bL (pv 2) rfl) (aA (aH G3 r3 rfl m3 k3 b3 .nil aK (aA (cT (v:=.ref aN) rfl mNO rfl) (aA (cT (v:=.ref aO) rfl mON rfl) aE))) aE)))))
  (aG (oC (bL (pv 2) rfl) (nU (pv 1) (pv 3) jC)))))),?_⟩
 have fp:Fq K H zz p:=fp;obtain⟨i0,i1,j0,j1⟩:dC (w:Int) u v:=pt;obtain⟨uN,rfl⟩:∃uN:Nat,u=(uN:Int):=⟨u.toNat,by lia⟩
 obtain⟨vN,rfl⟩:∃vN:Nat,v=(vN:Int):=⟨v.toNat,by lia⟩
 have pt':dC (w:Int) (uN:Int) (vN:Int):=⟨i0,i1,j0,j1⟩
 obtain⟨ln,bn,_⟩:=kR gM hG;have lam:=mx.la;refine⟨_,rfl,_,rfl,_,rfl,D,x,aO,_,as,M,(k0,(uN:Int),(vN:Int),p),w,n,1,c,(1,1),rfl,mx,mb,rw,pt',hc,fO _,gM,hG,by lia,fun H1 sx1 mx1=>?_⟩;have lst:=mx.lsts;have rw1:=sx1.rw lst rw;have fp1:Fq K H1 zz p:=sx1.seqT lst fp;have eR1:=sx1 _ _ eR nRa;have FR1:=SX.fqs lst sx1 hFR;obtain⟨mb1,_⟩:=Ct (d:=(k0,(uN:Int),(vN:Int),p)) mb pt' hc gM hG;generalize hM1:en M (k0,(uN:Int),(vN:Int),p) c (1,1)=M1 at mx1 mb1;obtain⟨ac,hac⟩:∃ac,as[c]?=some ac:=⟨_,getElem?_eq_getElem (by rw[lam,mb.h];exact hc)⟩
 have atc:atI (as.map V.ref) (c:Int)=some (.ref ac):=cL (by rw[getElem?_map,hac];rfl);obtain⟨e1,m1,w1⟩:=mb1.row hc;obtain⟨_,l2,b2⟩:=mb1.at hc (j:=uN) (by lia);obtain⟨xs,hxs,hF⟩:=mx1.r c ac _ hac e1;obtain⟨dx1,hx1⟩:=id rw1;refine⟨_,rfl,_,rfl,D,_,_,_,rfl,rfl,SqL.of mx1.d,atc,_,rfl,x,CK _,_,_,_,rfl,hx1,T.cl _,T.nS _,dF _ _ _,ac,aO,uN,xs,_,(1,1),n+2*1+4,1,rfl,hxs,hF,by rw[w1];lia,l2.pos,b2,fO _,h11,hG,by lia,fun v1 H2 s2 f2=>?_⟩;obtain⟨mx3,sx3⟩:=mx1.set (j:=uN) hac e1 hxs hF s2 f2;have lst1:=mx1.lsts;generalize upd H2 ac (.lst (xs.set uN (.ref v1)))=H3 at mx3 sx3 ⊢;have mb3:=mb1.rz hc (j:=uN) (by lia) gM hG;have mx3:Mx K H3 D as (rz M1 c uN (1,1)):=mx3;have rw3:=sx3.rw lst1 rw1;have fp3:Fq K H3 zz p:=sx3.seqT lst1 fp1;have eR3:=sx3 _ _ eR1 nRa;have FR3:=SX.fqs lst1 sx3 FR1;generalize hM3:rz M1 c uN (1,1)=M3 at mx3 mb3;obtain⟨e3,m3,w3⟩:=mb3.row hc;obtain⟨_,l4,b4⟩:=mb3.at hc (j:=vN) (by lia);obtain⟨xs3,hxs3,hF3⟩:=mx3.r c ac _ hac e3;obtain⟨dx3,hx3⟩:=id rw3;refine⟨_,rfl,_,rfl,D,_,_,_,rfl,rfl,SqL.of mx3.d,atc,_,rfl,x,CK _,_,_,_,rfl,hx3,T.cl _,T.nG _,dS _ _ _,aN,aO,(0,1),(1,1),1,1,rfl,fN _,fO _,by decide,h11,⟨show (0:Nat) < 2 ^ 1 by decide,show (1:Nat) < 2 ^ 1 by decide⟩,hG,by lia,fun v4 H4 s4 e4=>?_⟩;refine⟨ac,v4,vN,xs3,_,_,n+2*1+4+1+1,1+2,rfl,s4 _ _ hxs3,hF3.same s4,by rw[w3];lia,l4.pos,b4,Fq.of e4,ln.pos,bn,by lia,fun v5 H5 s5 f5=>?_⟩;obtain⟨mx6,sx6⟩:=(mx3.same s4).set (j:=vN) hac e3 (s4 _ _ hxs3) (hF3.same s4) s5 f5;have sx36:=(bC.sx (as:=as) s4).trans sx6;have lst3:=mx3.lsts;generalize upd H5 ac (.lst (xs3.set vN (.ref v5)))=H6 at mx6 sx6 sx36 ⊢;have mx6:Mx K H6 D as (rz M3 c vN (Mq.minus (0,1) (1,1))):=mx6;have rw6:=sx36.rw lst3 rw3;have fp6:Fq K H6 zz p:=sx36.seqT lst3 fp3;have eR6:=sx36 _ _ eR3 nRa;have FR6:=SX.fqs lst3 sx36 FR3;obtain⟨dx6,hx6⟩:=id rw6;have ly:=FR6.length;refine⟨_,rfl,x,CK _,_,_,_,rfl,hx6,T.cl _,T.nZ _,eU _ _ _,_,rfl,_,rfl,R,ys,_,c,rfl,rfl,eR6,jX (by lia),?_⟩;have eM:hM M (k0,(uN:Int),(vN:Int),p) c=rz M3 c vN (Mq.minus (0,1) (1,1)):=by rw[<- hM3,<- hM1];rfl
 have mx7:=mx6.other (o:=.lst (ys.set c (.ref zz))) eR6 nRD nRa;rw[<- eM] at mx7;refine q _ _ ?_ mx7 aC ((Fqs.set fp6 c FR6).upd eR6);refine SX.write (SX.mono (sx1.trans (sx3.trans sx36)) fun x hx=>mem_cons_of_mem _ hx) (by simp)
theorem lB {K:Frag}{H:Hp}{t:Addr}{p:Q2}(f:Fq K H t p):∀n,Fqs K H (replicate n (.ref t)) (replicate n p)
 |0=>.nil
 |n+1=>.cons f (lB f n)
theorem lT (x:V):∀n,(replicate n [x]).flatten=replicate n x
 |0=>rfl
 |n+1=>by rw[replicate_succ,flatten_cons,lT x n];rfl
theorem yK (xs:List V)(k:Nat):kK xs (some (k:Int)) none=xs.drop k:=by
 unfold kK;have h1:HT.sIx xs.length xs.length none=xs.length:=rfl;have h2:HT.sIx xs.length 0 (some (k:Int))=min k xs.length:=by simp[HT.sIx];lia
 rw[h1,h2]
 by_cases h:k<=xs.length
 ·rw[Nat.min_eq_left h,take_of_length_le (by simp)]
 ·rw[Nat.min_eq_right (by lia),drop_of_length_le (Nat.le_refl _),drop_of_length_le (by lia)];simp
theorem Gw (xs:List V):kK xs (some 1) none=xs.drop 1:=yK xs 1
theorem Jb {X:Cx}{K:Frag}(h:X.K=K):SlR X (qb7 K):=by subst h;exact iB
theorem uX (R:List Q2)(j:Nat):(R.drop 1).getD j (0,1)=R.getD (j+1) (0,1):=by
 rw[getD_eq_getElem?_getD,getElem?_drop,Nat.add_comm 1 j,getD_eq_getElem?_getD]
theorem Jo (M:List (List Q2))(i j:Nat):jJ ((M.drop 1).map (List.drop 1)) i j=jJ M (i+1) (j+1):=by
 have e:((M.drop 1).map (List.drop 1)).getD i []=(M.getD (i+1) []).drop 1:=by
  rw[getD_eq_getElem?_getD,getElem?_map,getElem?_drop,Nat.add_comm 1 i,getD_eq_getElem?_getD]
  cases M[i+1]?<;>rfl
 unfold jJ;rw[e,uX]
theorem Pm {M:List (List Q2)}{w n:Nat}(b:MxB M w w n):MxB ((M.drop 1).map (List.drop 1)) (w - 1) (w - 1) n:=by
 refine⟨by rw[length_map,length_drop,b.h],fun ps hp=>?_,fun ps hp p hp'=>?_⟩
 ·obtain⟨qs,hq,rfl⟩:=mem_map.mp hp;rw[length_drop,b.w _ (mem_of_mem_drop hq)]
 ·obtain⟨qs,hq,rfl⟩:=mem_map.mp hp;exact b.l _ (mem_of_mem_drop hq) _ (mem_of_mem_drop hp')
theorem Nj {R:List Q2}{w n:Nat}(b:LnB R w n):LnB (R.drop 1) (w - 1) n:=⟨by rw[length_drop,b.w],fun p hp=>b.l p (mem_of_mem_drop hp)⟩
theorem Tv (w:Nat):MxB (replicate w (replicate w (0,1))) w w 1:=by
 refine⟨length_replicate,fun ps hp=>?_,fun ps hp p hp'=>?_⟩
 ·rw[eq_of_mem_replicate hp,length_replicate]
 ·rw[eq_of_mem_replicate hp] at hp';rw[eq_of_mem_replicate hp'];exact⟨⟨by decide,by decide⟩,⟨show (0:Nat) < 2 ^ 1 by decide,show (1:Nat) < 2 ^ 1 by decide⟩⟩
theorem qD (w j:Nat):(replicate w ((0,1):Q2)).getD j (0,1)=(0,1):=by
 rw[getD_eq_getElem?_getD]
 cases e:(replicate w ((0,1):Q2))[j]? with
 |none=>rfl
 |some p=>exact eq_of_mem_replicate (mem_of_getElem? e)
theorem Mr (w i j:Nat):jJ (replicate w (replicate w (0,1))) i j=(0,1):=by
 have e:(replicate w (replicate w ((0,1):Q2))).getD i []=[]\/(replicate w (replicate w ((0,1):Q2))).getD i []=replicate w (0,1):=by
  rw[getD_eq_getElem?_getD]
  cases e:(replicate w (replicate w ((0,1):Q2)))[i]? with
  |none=>exact .inl rfl
  |some ps=>exact .inr (eq_of_mem_replicate (mem_of_getElem? e))
 unfold jJ;rcases e with e | e
 ·rw[e];rfl
 ·rw[e];exact qD w j
theorem Bs (w:Nat):LnB (replicate w (0,1)) w 1:=⟨length_replicate,fun p hp=>by
 rw[eq_of_mem_replicate hp];exact⟨⟨by decide,by decide⟩,⟨show (0:Nat) < 2 ^ 1 by decide,show (1:Nat) < 2 ^ 1 by decide⟩⟩⟩
theorem Ev {ds:List RD}(i:Nat):bN (ds.take i)<=bN ds:=by
 have h:bN ds=bN (ds.take i)+bN (ds.drop i):=by
  unfold bN iU;rw[<- length_append,<- filter_append,take_append_drop]
 lia
theorem Og:(["row"]:List Str).Nodup:=by decide +kernel
theorem wF:(["line","width"]:List Str).Nodup:=by decide +kernel
theorem Sd:(["line"]:List Str).Nodup:=by decide +kernel
theorem Fqs.drop1 {K:Frag}{H:Hp}:∀{xs:List V} {ps:List Q2},Fqs K H xs ps->Fqs K H (xs.drop 1) (ps.drop 1)
 |_,_,.nil=>.nil
 |_,_,.cons _ q=>q
abbrev Jd:Stmt:=top 61
theorem oH:aT ["net","rows","many","width","matrix","right","held","row"] ["net"] (aD Jd):=sK9
theorem Yf {dV:Value}(F:bZ K "equations" "equations" Jd dV f fd){CN:Addr}(NTx:NT K mg CN)(T:RT K mg CR CK)(ml:mg "len"=none)(mr:mg "range"=none){aN:Addr}(fN:∀H,Fq K H aN (0,1))(mNO:mI9 mg "NOUGHT" aN)(GW:∀k,aP P w K mg base CX0 1 (fW k) (fdW k) ["self"] (jE k))(bW:∀k,aQ K (fdW k) ["self"] [])(mW:∀k,dX K (CK k) "word" (fW k)){gRo:Addr}{gdRo:FuncData}(GRo:aP P w K mg base CX0 4 gRo gdRo ["self"] (lK CN K CK))(bRo:aQ K gdRo ["self"] [])(mRo:dX K CN "rows" gRo){gMa:Addr}{gdMa:FuncData}(GMa:aP P w K mg base CX0 1 gMa gdMa ["self"] (qK CN K))(bMa:aQ K gdMa ["self"] [])(mMa:dX K CN "many" gMa)(G1:aP P w K mg base CX0 6 g1 gd1 ["matrix","row"] (Ca K CK))(b1:aQ K gd1 ["matrix","row"] [])(k1:kI9 K g1)(m1:mI9 mg "enter_piece" g1)(G2:aP P w K mg base CX0 5 g2 gd2 ["right","row"] (uL K CK))(b2:aQ K gd2 ["right","row"] [])(k2:kI9 K g2)(m2:mI9 mg "enter_push" g2)(G3:aP P w K mg base CX0 6 g3 gd3 ["matrix","right","row","column"] (Cj K CK))(b3:aQ K gd3 ["matrix","right","row","column"] [])(k3:kI9 K g3)(m3:mI9 mg "enter_hold" g3) :
  aP P w K mg base CX 7 f fd ["net"] (Am CN K):=by
 refine F.ok oH (fun vs H Q E h=>?_) fun _ A _ s H vs Q E hr h=>?_
 ·obtain⟨_,_,_,_,_,rfl,_⟩:=h;rfl
 obtain⟨n,l,m,kb,ds,rfl,nt,hK,hm1,hm20,h40,hbig,q⟩:=h;have r1:=hr.mono (show 1<=6 by lia);have r4:=hr.mono (show 4<=6 by lia);have r5:=hr.mono (show 5<=6 by lia);refine⟨_,(aB (aV (i:=1) oH.nd rfl (Or.inl rfl) (cC (pv 0) NTx.cl mRo GRo r4 bRo .nil aK))
  (aB (aV (i:=2) oH.nd rfl (Or.inl rfl) (cC (pv 0) NTx.cl mMa GMa r1 bMa .nil aK))
  (aB (aV (i:=3) oH.nd rfl (Or.inr rfl) (aZ dR (pv 2) (cI bV rfl ml PySem.boot_len (aA (hZ (nl:=1) (fr:=[]) (Nc:=["row"]) (cl:=[]) rfl ⟨rfl,rfl,by decide +kernel,by decide +kernel,fun x c h=>(by cases h),gP rfl,rfl,fun i n h=>(by simp at h)⟩
    (dM (pv 1)) (fun C s3 H3 fp pins=>(bU (i:=0) Og rfl (Or.inl rfl))) (fun C s3 H3 fp pins=>(zH (bF eZ (dZ (pv 0) T.cl mW GW r1 bW .nil aK) cQ (bG _))))
    (fun C s3 H3 fp pins=>(pv 0))) aE))))
  (aB (rY (i:=4) (nl:=1) (fr:=[3]) (Nc:=["line","width"]) (cl:=[("width",s.heap.objs.size+1)]) oH.nd rfl rfl rfl ⟨rfl,rfl,by decide +kernel,by decide +kernel,fun x c h=>h,gP rfl,rfl,fun i n h=>match i,h with | 0,h=>by cases h;exact⟨3,rfl,rfl,rfl,rfl,.inl rfl⟩ | k+1,h=>by rw[show 1+(k+1)=k+2 by lia] at h;cases h⟩
    (mC rfl mr (aA (pv 3) aE)) (fun C s3 H3 fp pins=>(bU (i:=0) wF rfl (Or.inl rfl))) (fun C s3 H3 fp pins=>gO)
    (fun C s3 H3 fp pins=>(aZ Ac (cU (aA (cT (v:=.ref aN) rfl mNO rfl) aE)) (pv 1))) rfl)
  (aB (aV (i:=5) oH.nd rfl (Or.inl rfl) (aZ Ac (cU (aA (cT (v:=.ref aN) rfl mNO rfl) aE)) (pv 3)))
  (aB (aV (i:=6) oH.nd rfl (Or.inl rfl) (pv 2))
  (aB (fU PassesOwn.never rfl (dM (pv 1)) (bU (i:=7) oH.nd rfl (Or.inl rfl))
   (aG (cD (bF eZ (dZ (pv 7) T.cl mW GW r1 bW .nil aK) cQ (bG _)) (aG (bY (aH G1 hr rfl m1 k1 b1 .nil aK (aA (pv 4) (aA (pv 7) aE))))) (aG (cD (bF eZ (dZ (pv 7) T.cl mW GW r1 bW .nil aK) cQ (bG _)) (aG (bY (aH G2 r5 rfl m2 k2 b2 .nil aK (aA (pv 5) (aA (pv 7) aE))))) (aB (bY (aH G3 hr rfl m3 k3 b3 .nil aK (aA (pv 4) (aA (pv 5) (aA (pv 7) (aA (pv 6) aE))))))
  (aG (Gb (i:=6) oH.nd rfl (Or.inl rfl) aF Gc))))))))
  (aG (aX (dI (aA (hZ (nl:=1) (fr:=[]) (Nc:=["line"]) (cl:=[]) rfl ⟨rfl,rfl,by decide +kernel,by decide +kernel,fun x c h=>(by cases h),gP rfl,rfl,fun i n h=>(by simp at h)⟩
    (dM (fI iB (pv 4) (fY aF) iM)) (fun C s3 H3 fp pins=>(bU (i:=0) Sd rfl (Or.inl rfl))) (fun C s3 H3 fp pins=>gO)
    (fun C s3 H3 fp pins=>(fI (Jb (K:=K) rfl) (pv 0) (fY aF) iM))) (aA (fI iB (pv 5) (fY aF) iM) aE)))))))))))),?_⟩
 obtain⟨dx,hn⟩:=nt.ob;refine⟨_,rfl,n,dx,_,rfl,hn,cX _ _ (by decide +kernel) (by decide +kernel),n,l,_,ds,rfl,nt,by lia,fun a xs H1 s1 na ea Rb=>?_⟩;have lxs:=Rb.length;obtain⟨dx1,hn1⟩:=(nt.same s1).ob;refine⟨_,rfl,n,dx1,_,rfl,hn1,cX _ _ (by decide +kernel) (by decide +kernel),n,l,_,ds,rfl,nt.same s1,?_⟩;refine⟨_,rfl,_,rfl,a,rfl,⟨_,SqL.of ea⟩,fun C0 hC0=>?_⟩;have sC0:=aI hC0 (.lst []);refine gB (xs:=xs) (fun i zs H'=>bC H1 H'/\H' C0=some (.lst zs)/\zs.length=bN (ds.take i)) ⟨sC0,aC,rfl⟩ (fun i zs H' h=>h.2.1) (fun i zs H' _ h=>h.1.seq (SqL.of ea)) ?_ ?_
 ·rintro i zs x H2 hx ⟨s2,e2,lz⟩ C hC;have hi:i < ds.length:=by
   have:=(List.getElem?_eq_some_iff.mp hx).1;lia
  obtain⟨⟨k0,u,v,p⟩,hd⟩:∃d,ds[i]?=some d:=⟨_,getElem?_eq_getElem hi⟩
  obtain⟨y,z,ey,rw,fz⟩:=Rb.at hd;have ex:x=.ref y:=by rw[ey] at hx;exact(Option.some.inj hx).symm
  subst ex;obtain⟨dr,hy⟩:=id (rw.same s2);have et:ds.take (i+1)=ds.take i++[(k0,u,v,p)]:=by rw[take_add_one,hd];rfl
  have lh:=Ev (ds:=ds) i;have lh2:bN ds<=ds.length:=length_filter_le _ _;refine⟨gS.1,gS.2,?_⟩;refine⟨_,rfl,k0,y,dr,_,rfl,hy,(cV _ _ _ (by decide +kernel) (by decide +kernel) (by decide +kernel)),_,rfl,rfl,_,rfl,?_⟩
  by_cases hk:k0=.ho
  ·refine ifT (by show decide (V.str k0.wd=V.str Kd.ho.wd)=true;rw[cZ];exact decide_eq_true hk) ⟨_,rfl,e2,bO (by lia),hC _ _ ⟨s2.change hC0,aC,?_⟩⟩;rw[et,fK,length_append,lz];show _+1=_+cA k0;unfold cA;rw[if_pos hk]
  ·refine ifF (by show decide (V.str k0.wd=V.str Kd.ho.wd)=false;rw[cZ];exact decide_eq_false hk) (hC _ _ ⟨s2,e2,?_⟩);rw[et,fK,lz];show _=_+cA k0;unfold cA;rw[if_neg hk];rfl
 rintro zs0 H2 ⟨s2,e2,lz0⟩;rw[lxs,take_length] at lz0;refine⟨C0,zs0,rfl,.inl (SqL.of e2),_,_,rfl,rfl,?_⟩;obtain⟨W,hW⟩:∃W:Nat,W=m+bN ds:=⟨_,rfl⟩
 have lh2:bN ds<=ds.length:=length_filter_le _ _;have eW:(m:Int)+(zs0.length:Int)=(W:Int):=by rw[lz0,hW];lia
 show gF _ _ _ [some (.ref n),some (.ref a),some (.int (m:Int)),some (.int ((m:Int)+(zs0.length:Int))),none,none,none,none] H2;rw[eW];have hW60:W<=60:=by lia
 have hmW:m<=W:=by lia
 have s12:=s2;clear e2 sC0;refine⟨_,rfl,(W:Int),rfl,by lia,by lia,fun D hD=>?_⟩;rw[Int.toNat_natCast];have sD:=aI hD (.lst []);refine Fx (n:=W) (fun i zs H'=>bC H2 H'/\H' D=some (.lst zs)/\∃as:List Addr,zs=as.map V.ref/\as.length=i/\as.Nodup/\D∉as/\(∀b∈as,H2 b=none)/\∀b∈as,H' b=some (.lst (replicate W (.ref aN)))) ⟨sD,aC,[],rfl,rfl,nodup_nil,(by simp),(fun b hb=>by cases hb),(fun b hb=>by cases hb)⟩ (fun i zs H' h=>h.2.1) ?_ ?_
 ·rintro i zs H3 hi ⟨s3,e3,as,rfl,la,nd,nD,fr,al⟩ C hC;refine⟨gS.1,gS.2,gW ?_⟩;refine⟨zl9 1,fun l1 hl1=>?_⟩;have s4:=aI hl1 (.lst [.ref aN]);have e4:upd H3 l1 (.lst [.ref aN]) l1=some (.lst [.ref aN]):=aC;generalize upd H3 l1 (.lst [.ref aN])=H4 at s4 e4 ⊢;refine⟨_,rfl,l1,(W:Int),[.ref aN],rfl,rfl,e4,by lia,by lia,?_,fun b hb=>?_⟩
  ·rw[Int.toNat_natCast,sizeLine_eq];simp only[length_cons,length_nil];lia
  rw[Int.toNat_natCast,lT];have s5:=aI hb (.lst (replicate W (.ref aN)));have e5:upd H4 b (.lst (replicate W (.ref aN))) b=some (.lst (replicate W (.ref aN))):=aC;generalize upd H4 b (.lst (replicate W (.ref aN)))=H5 at s5 e5 ⊢;have s35:=s4.trans s5;have e35:=s35 _ _ e3;have nbD:b≠D:=Ne.symm (aL (s4 _ _ e3) hb);have nba:b∉as:=fun z=>by rw[s4 _ _ (al b z)] at hb;cases hb
  refine⟨e35,bO (by rw[length_map];lia),hC _ _ ⟨(s3.trans s35).change hD,aC,as++[b],by rw[map_append];rfl,by rw[length_append,la];rfl,?_,?_,fun c hc=>?_,fun c hc=>?_⟩⟩
  ·rw[nodup_append];refine⟨nd,by simp,fun x hx y hy z=>?_⟩;have:y=b:=by simpa using hy
   exact nba (by rw[<- this,<- z];exact hx)
  ·intro z;rcases mem_append.mp z with z | z
   ·exact nD z
   ·have:D=b:=by simpa using z
    exact nbD this.symm
  ·rcases mem_append.mp hc with z | z
   ·exact fr c z
   ·have:c=b:=by simpa using z
    rw[this];exact(s3.trans s4).free hb
  ·rcases mem_append.mp hc with z | z
   ·rw[aY (fun y=>nD (by rw[<- y];exact z))];exact s35 _ _ (al c z)
   ·have:c=b:=by simpa using z
    rw[this,aY nbD];exact e5
 rintro zs3 H3 ⟨s3,e3,as,rfl,la,nd,nD,fr,al⟩;have mx3:Mx K H3 D as (replicate W (replicate W (0,1))):=⟨e3,nd,nD,by rw[la,length_replicate],fun i b ps h1 h2=>by
  rw[eq_of_mem_replicate (mem_of_getElem? h2)];exact⟨_,al b (mem_of_getElem? h1),lB (fN _) W⟩⟩
 have nDH:H2 D=none:=hD;refine⟨zl9 1,fun l1 hl1=>?_⟩;have s4:=aI hl1 (.lst [.ref aN]);have e4:upd H3 l1 (.lst [.ref aN]) l1=some (.lst [.ref aN]):=aC;generalize upd H3 l1 (.lst [.ref aN])=H4 at s4 e4 ⊢;refine⟨_,rfl,l1,(W:Int),[.ref aN],rfl,rfl,e4,by lia,by lia,?_,fun R hR=>?_⟩
 ·rw[Int.toNat_natCast,sizeLine_eq];simp only[length_cons,length_nil];lia
 rw[Int.toNat_natCast,lT];have s5:=aI hR (.lst (replicate W (.ref aN)));have e5:upd H4 R (.lst (replicate W (.ref aN))) R=some (.lst (replicate W (.ref aN))):=aC;generalize upd H4 R (.lst (replicate W (.ref aN)))=H5 at s5 e5 ⊢;have s25:=s3.trans (s4.trans s5);have nRH:H2 R=none:=(s3.trans s4).free hR;have nRD:R≠D:=Ne.symm (aL ((s4) _ _ mx3.d) hR);have nRa:R∉as:=fun z=>by rw[s4 _ _ (al R z)] at hR;cases hR
 have mx5:=(mx3.same s4).same s5;have allN:∀b∈R :: as,H2 b=none:=fun b hb=>by
  rcases mem_cons.mp hb with z | z
  ·rw[z];exact nRH
  ·exact fr b z
 have F5:Fqs K H5 (replicate W (.ref aN)) (replicate W (0,1)):=lB (fN _) W;refine⟨_,rfl,?_⟩;have eaH:=s12 _ _ ea;have Rb2:=Rb.same s12;refine⟨_,rfl,a,rfl,⟨_,SqL.of (s25 _ _ eaH)⟩,?_⟩;refine gH (xs:=xs) (fun i σ H'=>bC H2 H'/\∃(M:List (List Q2)) (ys:List V) (rs:List Q2) (z7:Option V),σ=[some (.ref n),some (.ref a),some (.int (m:Int)),some (.int (W:Int)),some (.ref D),some (.ref R),some (.int ((m+bN (ds.take i):Nat):Int)),z7]/\Mx K H' D as M/\MxB M W W (kD kb i+1)/\H' R=some (.lst ys)/\Fqs K H' ys rs/\LnB rs W (kD kb i+1)/\(∀x y,val (jJ M x y)=eqM m (ds.take i) x y)/\∀x,val (rs.getD x (0,1))=eqR m (ds.take i) x) ⟨s25,_,_,_,none,rfl,mx5,Tv W,e5,F5,Bs W,fun x y=>by rw[Mr,vB];rfl,fun x=>by rw[qD,vB];rfl⟩ (fun i σ H' _ h=>h.1.seq (SqL.of eaH)) ?_ ?_
 ·rintro i x σ H6 hx ⟨s6,M,ys,rs,z7,rfl,mx,mb,eR,FR,lb,vM,vR⟩;have hi:i < ds.length:=by
   have:=(List.getElem?_eq_some_iff.mp hx).1;lia
  obtain⟨⟨k0,u,v,p⟩,hd⟩:∃d,ds[i]?=some d:=⟨_,getElem?_eq_getElem hi⟩
  obtain⟨y,z,ey,rw0,fz0⟩:=Rb2.at hd;have ex:x=.ref y:=by rw[ey] at hx;exact(Option.some.inj hx).symm
  subst ex;obtain⟨rd,bp⟩:=hK i _ hd;have lp:Low p:=rd.2.2.2.2.1;have bp:Bd (kb i) p:=bp;have ptm:dC (m:Int) u v:=⟨rd.1,rd.2.1,rd.2.2.1,rd.2.2.2.1⟩
  have ptW:dC (W:Int) u v:=⟨rd.1,by have:=rd.2.1;show u < (W:Int);have h2:u < (m:Int):=this;lia,rd.2.2.1,by have h2:v < (m:Int):=rd.2.2.2.1;show v < (W:Int);lia⟩
  have rw6:=rw0.same s6;have fz6:Fq K H6 z p:=s6.fq fz0;obtain⟨dr,hy⟩:=id rw6;have et:ds.take (i+1)=ds.take i++[(k0,u,v,p)]:=by rw[take_add_one,hd];rfl
  have hh:=Ev (ds:=ds) (i+1);rw[et,fK] at hh;have hh:bN (ds.take i)+cA k0<=bN ds:=hh;have eN:kD kb (i+1)+1=(kD kb i+1)+(4*kb i+20):=by show kD kb i+(4*kb i+20)+1=_;lia
  have leN:kD kb i+(4*kb i+20)<=kD kb ds.length:=wZ kb (i:=i+1) hi;have eM:∀x y,eqM m (ds.take (i+1)) x y=eqM m (ds.take i) x y+cM (k0,u,v,p) (m+bN (ds.take i)) x y:=fun x y=>by rw[et,Cc]
  have eRr:∀x,eqR m (ds.take (i+1)) x=eqR m (ds.take i) x+cR (k0,u,v,p) (m+bN (ds.take i)) x:=fun x=>by rw[et,Cq]
  have eH:bN (ds.take (i+1))=bN (ds.take i)+cA k0:=by rw[et,fK]
  rw[eN,eH];have lst:=mx.lsts
  cases k0 with
  |pc=>
   have p0:0 < p.1:=rd.2.2.2.2.2.1 rfl;refine⟨_,rfl,Kd.pc,y,dr,_,rfl,hy,(cV _ _ _ (by decide +kernel) (by decide +kernel) (by decide +kernel)),_,rfl,rfl,_,rfl,ifT (by show decide (V.str Kd.pc.wd=V.str Kd.pc.wd)=true;rw[cZ];rfl) ?_⟩;refine⟨_,rfl,_,rfl,D,y,z,as,M,(.pc,u,v,p),W,kD kb i+1,kb i,rfl,mx,mb,rw6,fz6,ptW,lp,p0,bp,by lia,fun H7 sx7 mx7=>?_⟩;obtain⟨mb7,v7⟩:=qa4 (d:=(.pc,u,v,p)) (h:=m+bN (ds.take i)) mb ptm hmW rfl lp p0 bp;have eR7:=sx7 _ _ eR nRa;refine⟨SX.same s6 sx7 fr,_,ys,rs,_,rfl,mx7,mb7.mono (by lia),eR7,SX.fqs lst sx7 FR,lb.mono (by lia),fun x y=>by rw[v7,vM,eM],fun x=>?_⟩;rw[vR,eRr];show _=_+(0:Rat)
   rw[Rat.add_zero]
  |pu=>
   refine⟨_,rfl,Kd.pu,y,dr,_,rfl,hy,(cV _ _ _ (by decide +kernel) (by decide +kernel) (by decide +kernel)),_,rfl,rfl,_,rfl,ifF (by show decide (V.str Kd.pu.wd=V.str Kd.pc.wd)=false;rw[cZ];rfl) ?_⟩;refine⟨_,rfl,Kd.pu,y,dr,_,rfl,hy,(cV _ _ _ (by decide +kernel) (by decide +kernel) (by decide +kernel)),_,rfl,rfl,_,rfl,ifT (by show decide (V.str Kd.pu.wd=V.str Kd.pu.wd)=true;rw[cZ];rfl) ?_⟩;refine⟨_,rfl,_,rfl,R,y,z,ys,rs,(.pu,u,v,p),W,kD kb i+1,kb i,rfl,eR,FR,lb,rw6,fz6,ptW,lp,bp,by lia,fun ys' H7 sx7 eR7 F7=>?_⟩;obtain⟨lb7,v7⟩:=Vd (d:=(.pu,u,v,p)) (h:=m+bN (ds.take i)) lb ptm hmW rfl lp bp;have mx7:Mx K H7 D as M:=⟨sx7 _ _ mx.d (by simp;exact Ne.symm nRD),mx.n,mx.nd,mx.la,fun i' b ps h1 h2=>by
    obtain⟨ws,h,f⟩:=mx.r i' b ps h1 h2;refine⟨ws,sx7 _ _ h (by simp;exact fun z=>nRa (by rw[<- z];exact mem_of_getElem? h1)),SX.fqs (as:=[R]) (fun c hc=>?_) sx7 f⟩;have:c=R:=by simpa using hc
    exact⟨ys,by rw[this];exact eR⟩⟩
   refine⟨SX.same s6 sx7 (fun c hc=>by have:c=R:=(by simpa using hc);rw[this];exact nRH),M,ys',_,_,rfl,mx7,mb.mono (by lia),eR7,F7,lb7.mono (by lia),fun x y=>?_,fun x=>by rw[v7,vR,eRr]⟩;rw[vM,eM];show _=_+(0:Rat)
   rw[Rat.add_zero]
  |ho=>
   have hc1:cA Kd.ho=1:=rfl;rw[hc1] at hh;have hcW:m+bN (ds.take i) < W:=by lia
   refine⟨_,rfl,Kd.ho,y,dr,_,rfl,hy,(cV _ _ _ (by decide +kernel) (by decide +kernel) (by decide +kernel)),_,rfl,rfl,_,rfl,ifF (by show decide (V.str Kd.ho.wd=V.str Kd.pc.wd)=false;rw[cZ];rfl) ?_⟩;refine⟨_,rfl,Kd.ho,y,dr,_,rfl,hy,(cV _ _ _ (by decide +kernel) (by decide +kernel) (by decide +kernel)),_,rfl,rfl,_,rfl,ifF (by show decide (V.str Kd.ho.wd=V.str Kd.pu.wd)=false;rw[cZ];rfl) ?_⟩;refine⟨_,rfl,_,rfl,_,rfl,_,rfl,D,R,y,z,as,M,ys,rs,(.ho,u,v,p),W,kD kb i+1,m+bN (ds.take i),rfl,mx,mb,eR,FR,lb.w,nRD,nRa,rw6,fz6,ptW,hcW,by lia,fun ys' H7 sx7 mx7 eR7 F7=>?_⟩;obtain⟨mb7,v7⟩:=Zu (d:=(.ho,u,v,p)) mb ptm hmW hcW rfl;have z0:val (rs.getD (m+bN (ds.take i)) (0,1))=0:=by
    rw[vR];exact wK (m:=m) _ _ _ (fun d hd'=>by
     obtain⟨i1,hi1⟩:=getElem?_of_mem (mem_of_mem_take hd');have:=(hK i1 d hi1).1;exact⟨this.1,this.2.1,this.2.2.1,this.2.2.2.1⟩) (Nat.le_refl _) (Nat.le_refl _)
   obtain⟨lb7,w7⟩:=qb4 (m:=m) (d:=(.ho,u,v,p)) lb hcW rfl lp bp z0;refine⟨_,rfl,_,_,rfl,rfl,?_⟩;refine⟨SX.same s6 sx7 allN,_,ys',_,some (.ref y),?_,mx7,mb7.mono (by lia),eR7,F7,lb7.mono (by lia),fun x y=>by rw[v7,vM,eM],fun x=>by rw[w7,vR,eRr]⟩;have e1:((m+bN (ds.take i):Nat):Int)+1=((m+(bN (ds.take i)+cA Kd.ho):Nat):Int):=by rw[hc1];lia
   rw[<- e1];rfl
 rintro σ H6 ⟨s6,M,ys,rs,z7,rfl,mx,mb,eR,FR,lb,vM,vR⟩;rw[lxs] at mb lb vM vR;rw[take_length] at vM vR;refine⟨_,rfl,1,rfl,D,_,rfl,SqL.of mx.d,fun C hC=>?_⟩;rw[Gw];have s7:=aI hC (.lst ((as.map V.ref).drop 1));have e7:upd H6 C (.lst ((as.map V.ref).drop 1)) C=some (.lst ((as.map V.ref).drop 1)):=aC;generalize upd H6 C (.lst ((as.map V.ref).drop 1))=H7 at s7 e7 ⊢;have mx7:=mx.same s7;refine⟨C,rfl,⟨_,SqL.of e7⟩,fun P hP=>?_⟩;have sP:=aI hP (.lst []);refine gB (xs:=(as.map V.ref).drop 1) (fun i zs H'=>bC H7 H'/\H' P=some (.lst zs)/\Fms K H7 H' zs (((M.drop 1).map (List.drop 1)).take i)/\∀x∈zs,x≠.ref P) ⟨sP,aC,⟨rfl,fun i x ps h=>by simp at h⟩,fun x hx=>by cases hx⟩ (fun i zs H' h=>h.2.1) (fun i zs H' _ h=>h.1.seq (SqL.of e7)) ?_ ?_
 ·rintro i zs x H8 hx ⟨s8,e8,fm,nP⟩ C' hC';rw[getElem?_drop,getElem?_map] at hx;obtain⟨b,hb,rfl⟩:=Option.map_eq_some_iff.mp hx;have bl':=(List.getElem?_eq_some_iff.mp hb).1;have hM1:1+i < M.length:=by rw[<- mx.la];exact bl'
  obtain⟨ws,hws,fws⟩:=(mx7.same s8).r (1+i) b M[1+i] hb (getElem?_eq_getElem hM1);have lz:=fm.l;rw[length_take,length_map,length_drop] at lz;have hM60:M.length<=60:=by rw[mb.h];exact hW60
  refine⟨gS.1,gS.2,gW ?_⟩;refine⟨_,rfl,1,rfl,b,_,rfl,SqL.of hws,fun c hc=>?_⟩;rw[Gw];have s9:=aI hc (.lst (ws.drop 1));have e9:upd H8 c (.lst (ws.drop 1)) c=some (.lst (ws.drop 1)):=aC;generalize upd H8 c (.lst (ws.drop 1))=H9 at s9 e9 ⊢;have e89:=s9 _ _ e8;have ncP:c≠P:=Ne.symm (aL e8 hc);refine⟨e89,bO (by lia),hC' _ _ ⟨(s8.trans s9).change hP,aC,⟨?_,fun j y ps h1 h2=>?_⟩,fun y hy=>?_⟩⟩
  ·rw[length_append,length_take,length_map,length_drop];simp only[length_cons,length_nil];lia
  ·have ee:((M.drop 1).map (List.drop 1))[i]?=some (M[1+i].drop 1):=by rw[getElem?_map,getElem?_drop,getElem?_eq_getElem hM1];rfl
   rw[take_add_one,ee] at h2
   by_cases hj:j < zs.length
   ·rw[getElem?_append_left hj] at h1;rw[getElem?_append_left (by rw[<- fm.l];exact hj)] at h2;obtain⟨a',xs',q1,q2,q3,q4⟩:=fm.r j y ps h1 h2;have na:a'≠P:=fun z=>nP y (mem_of_getElem? h1) (by rw[q1,z]);exact⟨a',xs',q1,q2,by rw[aY na];exact s9 _ _ q3,(q4.same s9).upd e89⟩
   ·rw[getElem?_append_right (by lia)] at h1;rw[getElem?_append_right (by rw[<- fm.l];lia),<- fm.l] at h2;have j0:j - zs.length=0:=by
     have:=(List.getElem?_eq_some_iff.mp h1).1;simp at this;lia
    rw[j0] at h1 h2;have h1:V.ref c=y:=by simpa using h1
    have h2:M[1+i].drop 1=ps:=by simpa using h2
    subst h1;rw[<- h2];exact⟨c,_,rfl,s8.free hc,by rw[aY ncP];exact e9,((Fqs.drop1 (fws.same s9))).upd e89⟩
  ·rcases mem_append.mp hy with z | z
   ·exact nP y z
   ·have:y=.ref c:=by simpa using z
    rw[this];exact fun z=>ncP (by injection z)
 rintro us H8 ⟨s8,e8,fm,nP⟩;rw[show ((as.map V.ref).drop 1).length=((M.drop 1).map (List.drop 1)).length by rw[length_drop,length_map,length_map,length_drop,mx.la],take_length] at fm;have s78:=s7.trans s8;have eR8:=s78 _ _ eR;refine⟨_,rfl,1,rfl,R,_,rfl,SqL.of eR8,fun r hr'=>?_⟩;rw[Gw];have s9:=aI hr' (.lst (ys.drop 1));have e9:upd H8 r (.lst (ys.drop 1)) r=some (.lst (ys.drop 1)):=aC;generalize upd H8 r (.lst (ys.drop 1))=H9 at s9 e9 ⊢;refine⟨zl9 2,fun t ht=>?_⟩;have sT:=aI ht (.tup [.ref P,.ref r]);have s9T:=s9.trans sT;have s0:bC H (upd H9 t (.tup [.ref P,.ref r])):=s1.trans (s12.trans (s6.trans (s78.trans s9T)));have s07:bC H H7:=s1.trans (s12.trans (s6.trans s7));have fl:∀c,H7 c=none->H c=none:=fun c h=>s07.free h;refine q t P r us (ys.drop 1) ((M.drop 1).map (List.drop 1)) (rs.drop 1) _ s0 aC (fl P hP) ((s07.trans s8).free hr') (s9T _ _ e8) (sT _ _ e9) ⟨fm.l,fun i x ps h1 h2=>?_⟩ (Fqs.drop1 (FR.same (s78.trans s9T))) (fun x hx=>⟨nP x hx,?_⟩) ⟨?_,?_,?_,?_⟩
 ·obtain⟨a',xs',q1,q2,q3,q4⟩:=fm.r i x ps h1 h2;exact⟨a',xs',q1,fl a' q2,s9T _ _ q3,q4.same s9T⟩
 ·intro z;obtain⟨i,hi⟩:=getElem?_of_mem hx;have il:i < ((M.drop 1).map (List.drop 1)).length:=by rw[<- fm.l];exact(List.getElem?_eq_some_iff.mp hi).1
  obtain⟨a',xs',q1,q2,q3,q4⟩:=fm.r i x _ hi (getElem?_eq_getElem il);rw[q1] at z;have:a'=r:=by injection z
  rw[<- this,q3] at hr'
  cases hr'
 ·have:=Pm mb
  rwa [show W - 1=m - 1+bN ds by lia] at this
 ·have:=Nj lb
  rwa [show W - 1=m - 1+bN ds by lia] at this
 ·intro i j;rw[Jo];exact vM _ _
 ·intro i;rw[uX];exact vR _
theorem rW {ec:List (Str × Addr)}:∀(x:Str) (c:Addr),([]:List (Str × Addr)).lookup x=some c->ec.lookup x=some c:=fun _ _ h=>by cases h
theorem fX {ec cl:List (Str × Addr)}{a:Str}{d:Addr}(h:ec.lookup a=some d)(r:∀x c,cl.lookup x=some c->ec.lookup x=some c):∀x c,((a,d) :: cl).lookup x=some c->ec.lookup x=some c:=fun x c e=>by
 rw[lookup_cons] at e
 cases q:x == a with
 |true=>rw[q] at e;rw[eq_of_beq q,h];exact e
 |false=>rw[q] at e;exact r x c e
theorem tF {X:Cx}{K:Frag}(h:X.K=K):IxR X (Td K):=by subst h;exact bA
theorem uE {X:Cx}{K:Frag}(h:X.K=K):IxR X (Zq K):=by subst h;exact bX
abbrev pS:Stmt:=top 32
theorem sX:aT ["rows","numbers","point","steps","number","row"] ["rows","numbers","point"] (aD pS):=sK9
theorem Pj {dV:Value}(F:bZ K "steps_from" "steps_from" pS dV f fd)(T:RT K mg CR CK) :
  aP P w K mg base CX 1 f fd ["rows","numbers","point"] (Hj K CK):=by
 refine F.ok sX (fun vs H Q E h=>?_) fun _ A _ s H vs Q E hr h=>?_
 ·obtain⟨_,_,_,_,_,_,rfl,_⟩:=h;rfl
 obtain⟨a,b,xs,ds,es,p,rfl,hA,Rb,hB,hE,h100,q⟩:=h;refine⟨_,(aB (aV (i:=3) sX.nd rfl (Or.inl rfl) (cU aE))
  (aB (fU PassesOwn.never rfl (dM (pv 1)) (bU (i:=4) sX.nd rfl (Or.inl rfl))
   (aB (aV (i:=5) sX.nd rfl (Or.inl rfl) (aW bX (pv 0) (pv 4) (fun _ _=>rfl)))
  (aG (cD (bF eZ (bL (pv 5) rfl) (pv 2) (bG _)) (aG (bY (lQ PySem.F.plainAttrs_list PySem.F.slot_list_append PySem.F.type_list_append eY (pv 3) (aA (dI (aA (dI (aA (pv 4) (aA aF aE))) (aA (bL (pv 5) rfl) aE))) aE)))) (aG (cD (bF eZ (bL (pv 5) rfl) (pv 2) (bG _)) (aG (bY (lQ PySem.F.plainAttrs_list PySem.F.slot_list_append PySem.F.type_list_append eY (pv 3) (aA (dI (aA (dI (aA (pv 4) (aA (Dh uZ aF) aE))) (aA (bL (pv 5) rfl) aE))) aE)))) bH))))))
  (aG (aX (pv 3))))),?_⟩
 refine⟨zl9 0,fun l hl=>?_⟩;have s1:=aI hl (.lst []);have e1:upd H l (.lst []) l=some (.lst []):=aC;generalize upd H l (.lst [])=H1 at s1 e1 ⊢;refine⟨_,rfl,b,rfl,⟨_,s1.seq hB⟩,?_⟩;refine gH (xs:=es.map fun (e:Br)=>V.int ((e.1:Nat):Int)) (fun i σ H'=>bC H H'/\∃(ys:List V) (z4 z5:Option V),σ=[some (.ref a),some (.ref b),some (.int (p:Int)),some (.ref l),z4,z5]/\H' l=some (.lst ys)/\Sds K H' ys (stF (es.take i) p)) ⟨s1,[],none,none,rfl,e1,.nil⟩ (fun i σ H' _ h=>h.1.seq hB) ?_ ?_
 ·rintro i x σ H2 hx ⟨s2,ys,z4,z5,rfl,e2,S2⟩;rw[getElem?_map] at hx;obtain⟨e,he,rfl⟩:=Option.map_eq_some_iff.mp hx;have hi:i < es.length:=(List.getElem?_eq_some_iff.mp he).1;obtain⟨⟨k,u,v,q'⟩,hd,eu,ev⟩:=hE e (mem_of_getElem? he);have eu:u=(e.2.1:Int):=eu;have ev:v=(e.2.2:Int):=ev;subst eu;subst ev;obtain⟨y,z,ey,rw0,fz⟩:=Rb.at hd;have rw2:=rw0.same s2;obtain⟨dx,hx2⟩:=id rw2;have at_:atI xs (e.1:Int)=some (.ref y):=cL ey;have ly:ys.length<=es.length:=by
   have h1:=S2.length;have h2:(stF (es.take i) p).length<=(es.take i).length:=length_filterMap_le _ _;rw[length_take] at h2;lia
  refine⟨_,rfl,_,rfl,a,xs,_,_,rfl,rfl,s2.seq hA,at_,?_⟩;refine⟨_,rfl,y,CK _,_,_,_,rfl,hx2,T.cl _,T.nS _,dF _ _ _,_,rfl,rfl,_,rfl,?_⟩
  by_cases c1:e.2.1=p
  ·have tk:stF (es.take (i+1)) p=stF (es.take i) p++[((e.1,1),e.2.2)]:=by
    unfold stF;rw[take_add_one,he,filterMap_append];show _++[e].filterMap _=_;rw[filterMap_cons,if_pos c1];rfl
   refine ifT (decide_eq_true (by rw[c1])) ?_;refine⟨_,rfl,.inl ⟨rfl,_,SqL.of e2⟩,_,rfl,zl9 2,fun u hu'=>?_⟩;have su:=aI hu' (.tup [.int (e.1:Int),.int (1)]);have eu:SqT K (upd H2 u (.tup [.int (e.1:Int),.int (1)])) u [.int (e.1:Int),.int (1)]:=SqT.of aC;generalize upd H2 u (.tup [.int (e.1:Int),.int (1)])=H3 at su eu ⊢;obtain⟨dx3,hx3⟩:=id (rw2.same su);refine⟨_,rfl,y,CK _,_,_,_,rfl,hx3,T.cl _,T.nG _,dS _ _ _,zl9 2,fun t ht=>?_⟩;rw[show (k,(e.2.1:Int),(e.2.2:Int),q').2.2.1=(e.2.2:Int) from rfl];have st:=aI ht (.tup [.ref u,.int (e.2.2:Int)]);have et:SqT K (upd H3 t (.tup [.ref u,.int (e.2.2:Int)])) t [.ref u,.int (e.2.2:Int)]:=SqT.of aC;generalize upd H3 t (.tup [.ref u,.int (e.2.2:Int)])=H4 at st et ⊢;have s24:=su.trans st;have e4:=s24 _ _ e2;refine⟨l,_,_,rfl,rfl,e4,bO (by lia),⟨(s2.trans s24).change hl,_,_,_,rfl,aC,?_⟩⟩;rw[tk];exact Sds.upd e4 ((S2.same s24).app (.cons et (st.seqT eu) .nil))
  ·refine ifF (decide_eq_false (fun z=>c1 (by have:(e.2.1:Int)=(p:Int):=(by injection z);lia))) ?_;refine⟨_,rfl,y,CK _,_,_,_,rfl,hx2,T.cl _,T.nG _,dS _ _ _,_,rfl,rfl,_,rfl,?_⟩
   by_cases c2:e.2.2=p
   ·have tk:stF (es.take (i+1)) p=stF (es.take i) p++[((e.1,-1),e.2.1)]:=by
     unfold stF;rw[take_add_one,he,filterMap_append];show _++[e].filterMap _=_;rw[filterMap_cons,if_neg c1,if_pos c2];rfl
    refine ifT (decide_eq_true (by rw[c2])) ?_;refine⟨_,rfl,.inl ⟨rfl,_,SqL.of e2⟩,_,rfl,_,rfl,zl9 2,fun u hu'=>?_⟩;have su:=aI hu' (.tup [.int (e.1:Int),.int (-1)]);have eu:SqT K (upd H2 u (.tup [.int (e.1:Int),.int (-1)])) u [.int (e.1:Int),.int (-1)]:=SqT.of aC;generalize upd H2 u (.tup [.int (e.1:Int),.int (-1)])=H3 at su eu ⊢;obtain⟨dx3,hx3⟩:=id (rw2.same su);refine⟨_,rfl,y,CK _,_,_,_,rfl,hx3,T.cl _,T.nS _,dF _ _ _,zl9 2,fun t ht=>?_⟩;rw[show (k,(e.2.1:Int),(e.2.2:Int),q').2.1=(e.2.1:Int) from rfl];have st:=aI ht (.tup [.ref u,.int (e.2.1:Int)]);have et:SqT K (upd H3 t (.tup [.ref u,.int (e.2.1:Int)])) t [.ref u,.int (e.2.1:Int)]:=SqT.of aC;generalize upd H3 t (.tup [.ref u,.int (e.2.1:Int)])=H4 at st et ⊢;have s24:=su.trans st;have e4:=s24 _ _ e2;refine⟨l,_,_,rfl,rfl,e4,bO (by lia),⟨(s2.trans s24).change hl,_,_,_,rfl,aC,?_⟩⟩;rw[tk];exact Sds.upd e4 ((S2.same s24).app (.cons et (st.seqT eu) .nil))
   ·have tk:stF (es.take (i+1)) p=stF (es.take i) p:=by
     unfold stF;rw[take_add_one,he,filterMap_append];show _++[e].filterMap _=_;rw[filterMap_cons,if_neg c1,if_neg c2];simp
    refine ifF (decide_eq_false (fun z=>c2 (by have:(e.2.2:Int)=(p:Int):=(by injection z);lia))) ⟨s2,ys,_,_,rfl,e2,?_⟩;rw[tk];exact S2
 rintro σ H2 ⟨s2,ys,z4,z5,rfl,e2,S2⟩;rw[length_map,take_length] at S2;exact⟨_,rfl,q l ys H2 s2 hl e2 S2⟩
theorem Vn {m:Nat}{es:List Br}{b:Nat}(hm:Ptm m es)(hb:b < m)(h20:m<=20){w:WS}(nd:(cF w).Nodup)(pt:∀x st,(x,st)∈w->∃pts,Pt es b st x pts/\∀y∈pts,y∈cF w){st:List Stp}{x:Nat}{pts:List Nat}(p:Pt es b st x pts)(k:∀y∈pts,y∈cF w):st.length<=20:=by
 have l:pts.length=st.length+1:=by
  induction p with
  |nil=>rfl
  |snoc h g n ih=>rw[length_append,length_append,ih fun y hy=>k y (mem_append_left _ hy)];rfl
 have nd':pts.Nodup:=by
  clear k l
  induction p with
  |nil=>simp
  |snoc h g n ih=>
   rw[nodup_append];refine⟨ih,by simp,fun x hx y hy z=>n ?_⟩;rw[mem_singleton] at hy;rw[<- hy,<- z];exact hx
 have:=Ip nd' fun y hy=>zP hm hb pt y (k y hy);lia
theorem Yx {es:List Br}{b p m j:Nat}{T:List (Stp × Nat)}{s:WS × List Nat}(hm:Ptm m es)(hb:b < m)(h20:m<=20)(h:WJ es b p [] s)(g:∀t∈T,oJ es t.1 p t.2):((T.take j).foldl (inF p) s).2.length<=muF s:=by
 have:=Ah hm hb h20 (T.take j) [] h fun t ht=>g t (mem_of_mem_take ht);unfold muF at this ⊢;lia
def muW (σ:St)(H:Hp):Nat:=match σ with
 | [_,_,_,_,some (.ref D),some (.ref W),_,_]=>match H D,H W with
  |some (.dK kvs),some (.lst q)=>2*(20 - kvs.length)+q.length
  |_,_=>0
 |_=>0
theorem Pd {H:Hp}{D W:Addr}{kvs:List (Key × V)}{q:List V}{a b c d e f:Option V}(h:H D=some (.dK kvs))(g:H W=some (.lst q)):muW [a,b,c,d,some (.ref D),some (.ref W),e,f] H=2*(20 - kvs.length)+q.length:=by
 show (match H D,H W with | some (.dK kvs),some (.lst q)=>2*(20 - kvs.length)+q.length | _,_=>0)=_;rw[h,g]
theorem Nb {q:List Nat}(h:q≠[]):(q.map fun (p:Nat)=>V.int (p:Int))[((q.map fun (p:Nat)=>V.int (p:Int))).length - 1]?=some (.int ((q.getLastD 0:Nat):Int))/\(q.map fun (p:Nat)=>V.int (p:Int)).dropLast=(q.dropLast.map fun (p:Nat)=>V.int (p:Int)):=by
 obtain⟨_,e⟩:=Gy h;generalize q.getLastD 0=x at e;generalize q.dropLast=r at e;subst e;rw[map_append];simp
abbrev Jc:Stmt:=top 31
theorem Ce:aT ["rows","numbers","begin","end","ways","waiting","point","step"] ["rows","numbers","begin","end"] (aD Jc):=sK9
theorem Xv {dV:Value}(F:bZ K "way_along" "way_along" Jc dV f fd)(ml:mg "len"=none)(G1:aP P w K mg base CX0 1 g1 gd1 ["rows","numbers","point"] (Hj K CK))(b1:aQ K gd1 ["rows","numbers","point"] [])(k1:kI9 K g1)(m1:mI9 mg "steps_from" g1) :
  aP P w K mg base CX 2 f fd ["rows","numbers","begin","end"] (Uw K CK):=by
 refine F.ok Ce (fun vs H Q E h=>?_) fun _ A _ s H vs Q E hr h=>?_
 ·obtain⟨_,_,_,_,_,_,_,_,rfl,_⟩:=h;rfl
 obtain⟨a,b,xs,ds,es,m,f,t,rfl,hA,Rb,hB,hE,h100,hm,h20,hf,qN,qS⟩:=h;refine⟨_,(aB (aV (i:=4) Ce.nd rfl (Or.inl rfl) (Im (kT (pv 2) (cU aE) Ha) rfl rfl (by simp) (by decide)))
  (aB (aV (i:=5) Ce.nd rfl (Or.inl rfl) (cU (aA (pv 2) aE)))
  (aB (vD PassesOwn.never (bF Id (cI bV rfl ml PySem.boot_len (aA (pv 5) aE)) aF (bG _))
   (aB (aV (i:=6) Ce.nd rfl (Or.inl rfl) (Nf PySem.F.plainAttrs_list PySem.F.slot_list_pop PySem.F.type_list_pop Xd (pv 5)))
   (aG (fU PassesOwn.never rfl (dM (aH G1 hr rfl m1 k1 b1 .nil aK (aA (pv 0) (aA (pv 1) (aA (pv 6) aE))))) (bU (i:=7) Ce.nd rfl (Or.inl rfl))
    (aG (cD (Av (Jh (Do hr) (aW bA (pv 7) aF (fun _ _=>rfl)) (pv 4)))
     (aB (Ta (Do hr) (pv 4) (aW bA (pv 7) aF (fun _ _=>rfl)) (aZ uV (sQ (Do hr) (pv 4) (pv 6) (fun _ _=>rfl)) (cU (aA (aW bA (pv 7) aF (fun _ _=>rfl)) aE))) rfl)
     (aG (bY (lQ PySem.F.plainAttrs_list PySem.F.slot_list_append PySem.F.type_list_append eY (pv 5) (aA (aW bA (pv 7) aF (fun _ _=>rfl)) aE)))))
     bH))))))
  (aG (aX (Lz (Do hr) (pv 4) (pv 3) ⟨rfl,rfl,rfl,rfl⟩)))))),?_⟩
 refine fun D hD=>?_;have sD:=aI hD (.dK []);have eD:upd H D (.dK []) D=some (.dK []):=aC;generalize upd H D (.dK [])=H1 at sD eD ⊢;refine⟨_,rfl,zl9 0,fun L hL=>?_⟩;have nLD:L≠D:=Ne.symm (aL eD hL);have nL:H L=none:=sD.free hL;have sL:=aI hL (.lst []);have eL:upd H1 L (.lst []) L=some (.lst []):=aC;generalize upd H1 L (.lst [])=H2 at sL eL ⊢;refine⟨sL _ _ eD,[((Sum.inl (f:Int):Key),V.ref L)],rfl,by show 1<=15;decide,?_⟩;have s3:bC H (upd H2 D (.dK (jK [] [((Sum.inl (f:Int):Key),V.ref L)]))):=(sD.trans sL).change hD;have e3:upd H2 D (.dK (jK [] [((Sum.inl (f:Int):Key),V.ref L)])) D=some (.dK [((Sum.inl (f:Int):Key),V.ref L)]):=aC;have eL3:upd H2 D (.dK (jK [] [((Sum.inl (f:Int):Key),V.ref L)])) L=some (.lst []):=by rw[aY nLD];exact eL
 generalize upd H2 D (.dK (jK [] [((Sum.inl (f:Int):Key),V.ref L)]))=H3 at s3 e3 eL3 ⊢;refine⟨_,rfl,zl9 1,fun W hW=>?_⟩;have nLW:L≠W:=aL eL3 hW;have nDW:D≠W:=aL e3 hW;have nW:H W=none:=s3.free hW;have sW:=aI hW (.lst [.int (f:Int)]);have eW:upd H3 W (.lst [.int (f:Int)]) W=some (.lst [.int (f:Int)]):=aC;generalize upd H3 W (.lst [.int (f:Int)])=H4 at sW eW ⊢;have s4:=s3.trans sW;have w4:Wys K H W H4 [((Sum.inl (f:Int):Key),V.ref L)] (cG es f 0).1:=.cons nL nLW (sW _ _ eL3) .nil .nil;refine uO (fun σ H'=>bC H H'/\∃(i:Nat) (kvs:List (Key × V)) (z6 z7:Option V),σ=[some (.ref a),some (.ref b),some (.int (f:Int)),some (.int (t:Int)),some (.ref D),some (.ref W),z6,z7]/\H' D=some (.dK kvs)/\H' W=some (.lst ((cG es f i).2.map fun (p:Nat)=>V.int (p:Int)))/\Wys K H W H' kvs (cG es f i).1/\i<=40) muW ⟨s4,0,_,none,none,rfl,sW _ _ e3,eW,w4,by lia⟩ ?_ ?_
 ·rintro σ H5 ⟨s5,i,kvs,z6,z7,rfl,e5,q5,w5,hi⟩;have lk:=w5.length;have wi:=jZ es f i;have le20:=Nz hm hf wi.nd wi.pt;refine⟨_,rfl,W,_,rfl,.inl (SqL.of q5),_,_,rfl,rfl,_,rfl,?_⟩
  by_cases hq:(cG es f i).2=[]
  ·-- it ends
   rw[hq] at q5;refine ifF (by rw[hq];rfl) ?_;have e60:=Rk hq (by lia);refine⟨_,rfl,D,rfl,.inl ⟨kvs,.inl e5⟩,_,rfl,_,jM.k (k:=Sum.inl (t:Int)) e5,?_⟩
   by_cases c:t∈cF (cG es f i).1
   ·obtain⟨l,ys,st,ev,eg,nl,_,hl,f'⟩:=w5.some_ c;rw[ev];refine qS st ?_ l ys H5 s5 nl hl f';unfold tY;rw[e60];exact eg
   ·rw[(w5.none_ c).1];refine qN ?_ H5 s5;unfold tY;rw[e60];exact pQ c
  ·have mu0:=Pd (a:=some (.ref a)) (b:=some (.ref b)) (c:=some (.int (f:Int))) (d:=some (.int (t:Int))) (e:=z6) (f:=z7) e5 q5;have hi39:i+muF (cG es f i)<=39:=by
    rcases pX hm hf h20 i with z | z
    ·exact absurd z hq
    ·exact z
   have stp:cG es f (i+1)=(stF es ((cG es f i).2.getLastD 0)).foldl (inF ((cG es f i).2.getLastD 0)) ((cG es f i).1,(cG es f i).2.dropLast):=by
    show kI es (cG es f i)=_;unfold kI;rw[if_neg hq]
   have jB:=Go hm hf h20 wi hq;have jB:muF (cG es f (i+1))+1<=muF (cG es f i):=jB;have wj0:=uK wi hq;have pk:=wj0.kp;obtain⟨ml1,ml2⟩:=Nb hq;generalize hp:(cG es f i).2.getLastD 0=p at *
   have ll:0 < ((cG es f i).2.map fun (p:Nat)=>V.int (p:Int)).length:=by rw[length_map];exact length_pos_iff.mpr hq
   refine ifT (by show decide (0 < ((((cG es f i).2.map fun (p:Nat)=>V.int (p:Int)).length:Nat):Int))=true;exact decide_eq_true (by lia)) ?_;refine⟨_,rfl,.inl ⟨rfl,_,SqL.of q5⟩,W,_,_,rfl,rfl,q5,ml1,?_⟩;rw[ml2];have s6:bC H (upd H5 W (.lst ((cG es f i).2.dropLast.map fun (p:Nat)=>V.int (p:Int)))):=s5.change nW;have e6:upd H5 W (.lst ((cG es f i).2.dropLast.map fun (p:Nat)=>V.int (p:Int))) D=some (.dK kvs):=by rw[aY nDW];exact e5
   have q6:upd H5 W (.lst ((cG es f i).2.dropLast.map fun (p:Nat)=>V.int (p:Int))) W=some (.lst ((cG es f i).2.dropLast.map fun (p:Nat)=>V.int (p:Int))):=aC;have w6:=w5.updW (o:=.lst ((cG es f i).2.dropLast.map fun (p:Nat)=>V.int (p:Int))) q5;generalize upd H5 W (.lst ((cG es f i).2.dropLast.map fun (p:Nat)=>V.int (p:Int)))=H6 at s6 e6 q6 w6 ⊢;refine⟨_,rfl,_,rfl,_,rfl,a,b,xs,ds,es,p,rfl,s6.seq hA,Rb.same s6,s6.seq hB,hE,h100,fun l ys H7 s7 nl el S7=>?_⟩;have s07:=s6.trans s7;have nlW:l≠W:=Ne.symm (aL q6 nl);have nlD:l≠D:=Ne.symm (aL e6 nl);have nlH:H l=none:=s6.free nl;have lys:=S7.length;refine⟨l,rfl,⟨_,SqL.of el⟩,?_⟩;refine gH (xs:=ys) (fun j σ H'=>bC H H'/\H' l=some (.lst ys)/\Sds K H' ys (stF es p)/\∃(kvs:List (Key × V)) (z7:Option V),σ=[some (.ref a),some (.ref b),some (.int (f:Int)),some (.int (t:Int)),some (.ref D),some (.ref W),some (.int (p:Int)),z7]/\H' D=some (.dK kvs)/\H' W=some (.lst ((((stF es p).take j).foldl (inF p) ((cG es f i).1,(cG es f i).2.dropLast)).2.map fun (p:Nat)=>V.int (p:Int)))/\Wys K H W H' kvs (((stF es p).take j).foldl (inF p) ((cG es f i).1,(cG es f i).2.dropLast)).1) ⟨s07,el,S7,kvs,z7,rfl,s7 _ _ e6,s7 _ _ q6,w6.same s7⟩ (fun j σ H' _ h=>SqL.of h.2.1) ?_ ?_
   ·rintro j x σ H8 hx ⟨s8,el8,S8,kv8,z7',rfl,e8,q8,w8⟩;obtain⟨tt,u,s,rfl,es',hT,hU⟩:=S8.get hx;have hj:j < (stF es p).length:=(List.getElem?_eq_some_iff.mp es').1;have gs:oJ es s.1 p s.2:=kS (mem_of_getElem? es');have wj:=zM ((stF es p).take j) [] wj0 fun z hz=>kS (mem_of_mem_take hz);have fold1:((stF es p).take (j+1)).foldl (inF p) ((cG es f i).1,(cG es f i).2.dropLast)=inF p (((stF es p).take j).foldl (inF p) ((cG es f i).1,(cG es f i).2.dropLast)) s:=by
     rw[take_add_one,es',foldl_append];rfl
    rw[fold1];have wj':=Iq wj gs;have le8:=Nz hm hf wj.nd wj.pt;have lS:=Yx hm hf h20 wj0 (j:=j) (T:=stF es p) (fun z hz=>kS hz);have mb:=Dm hq;generalize ((stF es p).take j).foldl (inF p) ((cG es f i).1,(cG es f i).2.dropLast)=S at q8 w8 wj wj' le8 lS ⊢;have lS2:S.2.length<=100:=by lia
    have lk8:=w8.length;obtain⟨⟨sn,sw⟩,sx⟩:=s;have hT:SqT K H8 tt [.ref u,.int (sx:Int)]:=hT;refine⟨_,rfl,tt,_,1,_,rfl,rfl,hT,rfl,_,rfl,D,_,rfl,jM.k (k:=Sum.inl (sx:Int)) e8,_,rfl,?_⟩
    by_cases c:sx∈cF S.1
    ·refine ifF (by rw[w8.isSome,decide_eq_true c];rfl) ⟨s8,el8,S8,kv8,_,rfl,e8,?_,?_⟩
     ·show H8 W=some (.lst ((inF p S ((sn,sw),sx)).2.map fun (p:Nat)=>V.int (p:Int)));unfold inF;rw[if_pos c];exact q8
     ·show Wys K H W H8 kv8 (inF p S ((sn,sw),sx)).1;unfold inF;rw[if_pos c];exact w8
    ·refine ifT (by rw[w8.isSome,decide_eq_false c];rfl) ?_;obtain⟨ap,xp,sp,ev,eg,nap,nwp,hap,fp⟩:=w8.some_ wj.kp;have lsp:=fp.length;have lsp2:sp.length<=20:=by
      obtain⟨pts,pt1,pt2⟩:=wj.pt p sp (gX eg);exact Vn hm hf h20 wj.nd wj.pt pt1 pt2
     refine⟨_,rfl,_,rfl,D,.ref ap,rfl,(by have:=jM.k (k:=Sum.inl (p:Int)) e8;rw[ev] at this;exact this),?_⟩;refine⟨_,rfl,tt,_,0,_,rfl,rfl,hT,rfl,zl9 1,fun L1 hL1=>?_⟩;have s9:=aI hL1 (.lst [.ref u]);have e9:upd H8 L1 (.lst [.ref u]) L1=some (.lst [.ref u]):=aC;generalize upd H8 L1 (.lst [.ref u])=H9 at s9 e9 ⊢;refine⟨ap,L1,_,_,rfl,rfl,s9 _ _ hap,e9,by rw[sizeLine_eq];simp only[length_cons,length_nil];lia,fun C hC=>?_⟩;have nC8:H8 C=none:=s9.free hC;have sA:=aI hC (.lst (xp++[.ref u]));have eA:upd H9 C (.lst (xp++[.ref u])) C=some (.lst (xp++[.ref u])):=aC;generalize upd H9 C (.lst (xp++[.ref u]))=HA at sA eA ⊢;have s8A:=s9.trans sA;have nCW:C≠W:=Ne.symm (aL q8 nC8);have nCD:C≠D:=Ne.symm (aL e8 nC8);have eDA:=s8A _ _ e8;refine⟨_,rfl,_,rfl,tt,_,1,_,rfl,rfl,s8A.seqT hT,rfl,D,_,rfl,Om.k (k:=Sum.inl (sx:Int)) eDA (by rw[sizeLine_eq];lia),?_⟩;have put:lL kv8 (Sum.inl (sx:Int)) (.ref C)=kv8++[(Sum.inl (sx:Int),.ref C)]:=by unfold lL;rw[if_neg (by rw[(w8.none_ c).2];simp)]
     rw[put];have eB:upd HA D (.dK (kv8++[(Sum.inl (sx:Int),.ref C)])) D=some (.dK (kv8++[(Sum.inl (sx:Int),.ref C)])):=aC;have qB:upd HA D (.dK (kv8++[(Sum.inl (sx:Int),.ref C)])) W=some (.lst (S.2.map fun (p:Nat)=>V.int (p:Int))):=by rw[aY (Ne.symm nDW)];exact s8A _ _ q8
     have sB:bC H (upd HA D (.dK (kv8++[(Sum.inl (sx:Int),.ref C)]))):=(s8.trans s8A).change hD;have wB:Wys K H W (upd HA D (.dK (kv8++[(Sum.inl (sx:Int),.ref C)]))) (kv8++[(Sum.inl (sx:Int),.ref C)]) (S.1++[(sx,sp++[(sn,sw)])]):=
      Wys.snoc (s8.free nC8) nCW (by rw[aY nCD];exact eA) (((fp.same s8A).app (.cons (s8A.seqT hU) .nil)).updD eDA) ((w8.same s8A).updD eDA)
     have elB:upd HA D (.dK (kv8++[(Sum.inl (sx:Int),.ref C)])) l=some (.lst ys):=by rw[aY nlD];exact s8A _ _ el8
     have SB:=(S8.same s8A).updD (o:=.dK (kv8++[(Sum.inl (sx:Int),.ref C)])) eDA;have hTB:=SqT.updD (o:=.dK (kv8++[(Sum.inl (sx:Int),.ref C)])) (s8A.seqT hT) eDA;generalize upd HA D (.dK (kv8++[(Sum.inl (sx:Int),.ref C)]))=HB at eB qB sB wB elB SB hTB ⊢;refine⟨_,rfl,.inl ⟨rfl,_,SqL.of qB⟩,_,rfl,tt,_,1,_,rfl,rfl,hTB,rfl,W,_,_,rfl,rfl,qB,bO (by rw[length_map];lia),?_⟩;have inE:inF p S ((sn,sw),sx)=(S.1++[(sx,sp++[(sn,sw)])],S.2++[sx]):=by
      unfold inF;rw[if_neg c,eg];rfl
     rw[inE];refine⟨sB.change nW,by rw[aY nlW];exact elB,SB.upd qB,_,_,rfl,by rw[aY nDW];exact eB,?_,wB.updW qB⟩;rw[aC,map_append];rfl
   ·rintro σ H8 ⟨s8,el8,S8,kv8,z7',rfl,e8,q8,w8⟩;rw[lys,take_length,<- stp] at q8 w8;have lk8:=w8.length;refine⟨⟨s8,i+1,kv8,_,_,rfl,e8,q8,w8,by lia⟩,?_⟩;rw[mu0,Pd e8 q8,length_map,length_map,lk,lk8];unfold muF at jB;lia
 ·rintro σ H Q Q' mono ⟨v,h1,p',ys,h2,h3,i,j,h4,h5,k,h6,h7⟩;exact⟨v,h1,p',ys,h2,h3,i,j,h4,h5,k,h6,mono _ _ h7⟩
theorem Vi {ds:List RD}{i:Nat}{d:RD}(h:ds[i]?=some d):(skl ds)[i]?=some (d.1,d.2.1.toNat,d.2.2.1.toNat):=by unfold skl;rw[getElem?_map,h];rfl
theorem Mz (ds:List RD):(skl ds).length=ds.length:=by unfold skl;rw[length_map]
theorem Zk {m:Nat}{ds:List RD}(pt:∀d∈ds,dC (m:Int) d.2.1 d.2.2.1):∀d∈skl ds,d.2.1 < m/\d.2.2 < m:=fun d hd=>by
 obtain⟨e,he,rfl⟩:=mem_map.mp hd;obtain⟨i0,i1,j0,j1⟩:=pt e he;exact⟨by show e.2.1.toNat < m;lia,by show e.2.2.1.toNat < m;lia⟩
theorem Uk {W:Kd->Bool}{m n:Nat}{ds:List RD}{s:RS}(pt:∀d∈ds,dC (m:Int) d.2.1 d.2.2.1)(h:RI W (skl ds) m n s):Yl ds s.1:=fun e he=>by
 obtain⟨k,hk⟩:=h.at_ e he;have hl:e.1 < ds.length:=by have:=(List.getElem?_eq_some_iff.mp hk).1;rwa [Mz] at this
 have hd:ds[e.1]?=some ds[e.1]:=getElem?_eq_getElem hl;rw[Vi hd] at hk;obtain⟨i0,i1,j0,j1⟩:=pt _ (mem_of_getElem? hd);refine⟨_,hd,?_,?_⟩
 ·have:ds[e.1].2.1.toNat=e.2.1:=by injection hk with z;injection z with _ z;injection z
  lia
 ·have:ds[e.1].2.2.1.toNat=e.2.2:=by injection hk with z;injection z with _ z;injection z
  lia
theorem Pl {W:Kd->Bool}{sk:List Sk}:∀n,(fA W sk n).1.length<=n
 |0=>Nat.le_refl _
 |n+1=>by
  have ih:=Pl (W:=W) (sk:=sk) n
  cases h:sk[n]? with
  |none=>show (match sk[n]? with | none=>fA W sk n | some d=>jA W (fA W sk n) n d).1.length<=n+1;rw[h];show (fA W sk n).1.length<=n+1;lia
  |some d=>
   rw[iV h];generalize fA W sk n=s at ih;unfold jA;split
   ·split
    ·show (s.1++[(n,d.2.1,d.2.2)]).length<=n+1;rw[length_append];simp only[length_cons,length_nil];lia
    ·show s.1.length<=n+1;lia
   ·lia
def WdA (K:Frag)(H:Hp)(v:V)(W:Kd->Bool):Prop:=∃(p:Addr) (ws:List V),v=.ref p/\(SqL K H p ws\/SqT K H p ws)/\ws.all nH=true/\∀k:Kd,inV (.str k.wd) ws=W k
theorem WdA.same {K:Frag}{H H':Hp}{v:V}{W:Kd->Bool}(e:bC H H')(h:WdA K H v W):WdA K H' v W:=by
 obtain⟨p,ws,h1,h2,h3⟩:=h;refine⟨p,ws,h1,?_,h3⟩;rcases h2 with z | z
 ·exact .inl (e.seq z)
 ·exact .inr (e.seqT z)
theorem Zm (k:Kd):inV (.str k.wd) [.str "piece",.str "hold"]=decide (k≠.pu):=by cases k<;>decide
abbrev iI:Stmt:=top 30
theorem jG:aT ["net","words","wanted","rows","branches","found","number","row","back"] ["net","words"] (aD iI):=sK9
theorem Pn {dV:Value}(F:bZ K "rings" "rings" iI dV f fd){CN aJ:Addr}(NTx:NT K mg CN)(T:RT K mg CR CK)(men:mg "enumerate"=none)(fJ:∀H,SqT K H aJ [.str "piece",.str "hold"])(mJO:mI9 mg "JOINING_WORDS" aJ)(GW:∀k,aP P w K mg base CX0 1 (fW k) (fdW k) ["self"] (jE k))(bW:∀k,aQ K (fdW k) ["self"] [])(mW:∀k,dX K (CK k) "word" (fW k)){gRo:Addr}{gdRo:FuncData}(GRo:aP P w K mg base CX0 4 gRo gdRo ["self"] (lK CN K CK))(bRo:aQ K gdRo ["self"] [])(mRo:dX K CN "rows" gRo)(G1:aP P w K mg base CX0 2 g1 gd1 ["rows","numbers","begin","end"] (Uw K CK))(b1:aQ K gd1 ["rows","numbers","begin","end"] [])(k1:kI9 K g1)(m1:mI9 mg "way_along" g1) :
  aP P w K mg base CX 5 f fd ["net","words"] (He CN K):=by
 refine F.ok jG (fun vs H Q E h=>?_) fun _ A _ s H vs Q E hr h=>?_
 ·obtain⟨_,_,_,_,_,_,rfl,_⟩:=h;rfl
 obtain⟨n,l,v,m,ds,W,rfl,nt,pt,h20,h40,hW,q⟩:=h;have r1:=hr.mono (show 1<=4 by lia);have r2:=hr.mono (show 2<=4 by lia);refine⟨_,(aB (aV (i:=2) jG.nd rfl (Or.inl rfl) (uS (Av (Ei (pv 1))) (cT (v:=.ref aJ) rfl mJO rfl) (pv 1)))
  (aB (aV (i:=3) jG.nd rfl (Or.inl rfl) (cC (pv 0) NTx.cl mRo GRo hr bRo .nil aK))
  (aB (aV (i:=4) jG.nd rfl (Or.inl rfl) (cU aE))
  (aB (aV (i:=5) jG.nd rfl (Or.inl rfl) (cU aE))
  (aB (fU PassesOwn.never rfl (Ad rfl men rfl (aA (pv 3) aE)) (nT rfl (eP (bU (i:=6) jG.nd rfl (Or.inl rfl)) (eP (bU (i:=7) jG.nd rfl (Or.inl rfl)) kE)))
   (aG (cD (bF La (dZ (pv 7) T.cl mW GW r1 bW .nil aK) (pv 2) rfl) (aB (aV (i:=8) jG.nd rfl (Or.inl rfl) (aH G1 r2 rfl m1 k1 b1 .nil aK (aA (pv 3) (aA (pv 4) (aA (bL (pv 7) rfl) (aA (bL (pv 7) rfl) aE))))))
  (aG (cD (Av (Ei (pv 8))) (aG (bY (lQ PySem.F.plainAttrs_list PySem.F.slot_list_append PySem.F.type_list_append eY (pv 4) (aA (pv 6) aE)))) (aG (bY (lQ PySem.F.plainAttrs_list PySem.F.slot_list_append PySem.F.type_list_append eY (pv 5) (aA (aZ uV (cU (aA (dI (aA (pv 6) (aA aF aE))) aE)) (pv 8)) aE))))))) bH)))
  (aG (aX (pv 5)))))))),?_⟩
 refine pE (fun σ' H'=>H'=H/\∃wv,σ'=[some (.ref n),some v,some wv,none,none,none,none,none,none]/\WdA K H wv W) (fun X hX=>?_) ?_
 ·cases hW with
  |non=>exact⟨_,rfl,_,rfl,ifT rfl (hX _ _ ⟨rfl,_,rfl,aJ,_,rfl,.inr (fJ H),rfl,Zm⟩)⟩
  | @seq a ws h f=>exact⟨_,rfl,_,rfl,ifF rfl ⟨_,rfl,hX _ _ ⟨rfl,_,rfl,a,_,rfl,.inl h,f,fun _=>rfl⟩⟩⟩
 rintro σ' H' ⟨hH',wv,rfl,hw⟩;subst hH';obtain⟨dx,hn⟩:=nt.ob;refine⟨_,rfl,n,dx,_,rfl,hn,cX _ _ (by decide +kernel) (by decide +kernel),n,l,_,ds,rfl,nt,by lia,fun a xs H1 s1 na ea Rb=>?_⟩;have lxs:=Rb.length;refine⟨zl9 0,fun B hB=>?_⟩;have nB:H' B=none:=s1.free hB;have sB:=aI hB (.lst []);have eB:upd H1 B (.lst []) B=some (.lst []):=aC;generalize upd H1 B (.lst [])=H2 at sB eB ⊢;refine⟨zl9 0,fun F hF=>?_⟩;have nF:H' F=none:=(s1.trans sB).free hF;have nBF:B≠F:=aL eB hF;have sF:=aI hF (.lst []);have eF:upd H2 F (.lst []) F=some (.lst []):=aC;generalize upd H2 F (.lst [])=H3 at sF eF ⊢;have s3:=s1.trans (sB.trans sF);have ea3:=(sB.trans sF) _ _ ea;have naB:a≠B:=aL ea hB;have naF:a≠F:=aL (sB _ _ ea) hF;have sk:=Mz ds;have slt:=Zk pt;have s13:=sB.trans sF;refine⟨_,rfl,a,rfl,⟨_,SqL.of ea3⟩,?_⟩;have nB1:H1 B=none:=hB;have nF1:H1 F=none:=sB.free hF;refine Oa (xs:=xs) (fun i σ HH=>bC H1 HH/\∃(us:List V) (z6 z7 z8:Option V),σ=[some (.ref n),some v,some wv,some (.ref a),some (.ref B),some (.ref F),z6,z7,z8]/\HH B=some (.lst ((fA W (skl ds) i).1.map fun (e:Br)=>V.int ((e.1:Nat):Int)))/\HH F=some (.lst us)/\Rgs K H' HH us ((fA W (skl ds) i).2.map (·.2))/\∀x∈us,x≠.ref F/\x≠.ref B) ⟨s13,[],none,none,none,rfl,sF _ _ eB,eF,.nil,fun x hx=>(by cases hx)⟩ (fun i σ HH _ h=>h.1.seq (SqL.of ea)) ?_ ?_
 ·rintro i x σ H4 T2 hx ⟨s4,us,z6,z7,z8,rfl,eB4,eF4,G4,nx4⟩ hT;have hi:i < ds.length:=by
   have:=(List.getElem?_eq_some_iff.mp hx).1;lia
  obtain⟨⟨k0,u,v0,p0⟩,hd⟩:∃d,ds[i]?=some d:=⟨_,getElem?_eq_getElem hi⟩
  obtain⟨y,z,ey,rw0,fz0⟩:=Rb.at hd;have ex:x=.ref y:=by rw[ey] at hx;exact(Option.some.inj hx).symm
  subst ex;obtain⟨u0,u1,v1,v2⟩:dC (m:Int) u v0:=pt _ (mem_of_getElem? hd);obtain⟨uN,rfl⟩:∃n:Nat,u=(n:Int):=⟨u.toNat,by lia⟩
  obtain⟨vN,rfl⟩:∃n:Nat,v0=(n:Int):=⟨v0.toNat,by lia⟩
  have skd:(skl ds)[i]?=some (k0,uN,vN):=by
   have:=Vi hd
   rwa [show ((k0,(uN:Int),(vN:Int),p0):RD).2.1.toNat=uN from Int.toNat_natCast uN,show ((k0,(uN:Int),(vN:Int),p0):RD).2.2.1.toNat=vN from Int.toNat_natCast vN] at this
  have ri:=uR (W:=W) slt i (by lia);have bo:=Uk pt ri;have bl':=Pl (W:=W) (sk:=skl ds) i;have gl:=G4.l;rw[length_map] at gl;have rl:=ri.rl;have succ:=iV (W:=W) skd;generalize fA W (skl ds) i=S at eB4 G4 ri bo bl' gl rl succ;have sT:=aI hT (.tup [.int (i:Int),.ref y]);refine⟨T2,_,rfl,SqT.of aC,rfl,_,_,rfl,_,_,rfl,rfl,?_⟩;have nT1:H1 T2=none:=s4.free hT;generalize upd H4 T2 (.tup [.int (i:Int),.ref y])=H5 at sT ⊢;have s5:=s4.trans sT;have eB5:=sT _ _ eB4;have eF5:=sT _ _ eF4;have G5:=G4.same sT;obtain⟨dr,hy⟩:=id (rw0.same s5);obtain⟨pw,ws,ew,hws,fl,hinv⟩:=hw.same (s1.trans s5);refine⟨_,rfl,k0,y,dr,_,rfl,hy,(cV _ _ _ (by decide +kernel) (by decide +kernel) (by decide +kernel)),_,rfl,_,rfl,pw,ws,ew,hws,rfl,fl,_,rfl,?_⟩;have hin:inV (.str k0.wd) ws=W k0:=hinv k0
  by_cases hk:W k0=true
  ·refine ifT (by show (if false=true then _ else inV (V.str k0.wd) ws)=true;rw[if_neg (by decide),hin];exact hk) ?_;refine⟨_,rfl,_,rfl,_,rfl,y,CK _,_,_,_,rfl,hy,T.cl _,T.nG _,dS _ _ _,_,rfl,y,CK _,_,_,_,rfl,hy,T.cl _,T.nS _,dF _ _ _,a,B,xs,ds,S.1,m,vN,uN,rfl,s5.seq (SqL.of ea),Rb.same s5,SqL.of eB5,bo,by lia,ri.pt,h20,by lia,fun hnone H6 s6=>?_,fun st hst l' ys H6 s6 nl el S6=>?_⟩
   ·refine⟨_,rfl,_,rfl,ifT rfl ?_⟩;have eB6:=s6 _ _ eB5;have s06:=s5.trans s6;refine⟨_,rfl,.inl ⟨rfl,_,SqL.of eB6⟩,_,rfl,B,_,_,rfl,rfl,eB6,bO (by rw[length_map];lia),?_⟩;have eS:jA W S i (k0,uN,vN)=(S.1++[(i,uN,vN)],S.2):=by
     unfold jA;rw[if_pos hk,hnone]
    rw[succ,eS];refine⟨s06.change nB1,us,_,_,_,rfl,?_,by rw[aY (Ne.symm nBF)];exact s6 _ _ eF5,(G5.same s6).updO eB6 (fun x hx=>(nx4 x hx).2),nx4⟩;rw[aC,map_append];rfl
   ·refine⟨_,rfl,_,rfl,ifF rfl ?_⟩;have eF6:=s6 _ _ eF5;have s06:=s5.trans s6;refine⟨_,rfl,.inl ⟨rfl,_,SqL.of eF6⟩,_,rfl,zl9 2,fun t ht=>?_⟩;have st7:=aI ht (.tup [.int (i:Int),.int 1]);have et:SqT K (upd H6 t (.tup [.int (i:Int),.int 1])) t [.int (i:Int),.int 1]:=SqT.of aC;generalize upd H6 t (.tup [.int (i:Int),.int 1])=H7 at st7 et ⊢;refine⟨zl9 1,fun L1 hL1=>?_⟩;have s8:=aI hL1 (.lst [.ref t]);have e8:upd H7 L1 (.lst [.ref t]) L1=some (.lst [.ref t]):=aC;generalize upd H7 L1 (.lst [.ref t])=H8 at s8 e8 ⊢;have lst':=yE ri.pt (show vN < m by lia) hst;have lys:=S6.length;refine⟨_,rfl,L1,l',_,_,rfl,rfl,e8,(st7.trans s8) _ _ el,by rw[sizeLine_eq];simp only[length_cons,length_nil];lia,fun C hC=>?_⟩;have nC8:H8 C=none:=hC;have s9:=aI hC (.lst ([.ref t]++ys));have e9:upd H8 C (.lst ([.ref t]++ys)) C=some (.lst ([.ref t]++ys)):=aC;generalize upd H8 C (.lst ([.ref t]++ys))=H9 at s9 e9 ⊢;have s69:=st7.trans (s8.trans s9);have eF9:=s69 _ _ eF6;have s09:=s06.trans s69;have nCF:C≠F:=Ne.symm (aL ((st7.trans s8) _ _ eF6) nC8);have nCB:C≠B:=Ne.symm (aL ((st7.trans s8) _ _ (s6 _ _ eB5)) nC8);refine⟨F,_,_,rfl,rfl,eF9,bO (by lia),?_⟩;have eS:jA W S i (k0,uN,vN)=(S.1,S.2++[(i,(i,1) :: st)]):=by
     unfold jA;rw[if_pos hk,hst]
    rw[succ,eS];have SC:Sts K H9 ([.ref t]++ys) ((i,1) :: st):=.cons ((s8.trans s9).seqT et) (S6.same s69);refine⟨s09.change nF1,us++[.ref C],_,_,_,rfl,by rw[aY nBF];exact s69 _ _ (s6 _ _ eB5),aC,?_,fun x hx=>?_⟩
    ·rw[map_append];have G9:=((G5.same s6).same s69).snoc (((s1.trans s06).trans (st7.trans s8)).free nC8) e9 SC;refine G9.updO eF9 fun x hx=>?_;rcases mem_append.mp hx with z | z
     ·exact(nx4 x z).1
     ·have:x=.ref C:=by simpa using z
      rw[this];exact fun z=>nCF (by injection z)
    ·rcases mem_append.mp hx with z | z
     ·exact nx4 x z
     ·have:x=.ref C:=by simpa using z
      rw[this];exact⟨fun z=>nCF (by injection z),fun z=>nCB (by injection z)⟩
  ·refine ifF (by show (if false=true then _ else inV (V.str k0.wd) ws)=false;rw[if_neg (by decide),hin];simpa using hk) ?_;have eS:jA W S i (k0,uN,vN)=S:=by
    unfold jA;rw[if_neg hk]
   rw[succ,eS];exact⟨s5,us,_,_,_,rfl,eB5,eF5,G5,nx4⟩
 rintro σ H4 ⟨s4,us,z6,z7,z8,rfl,eB4,eF4,G4,nx4⟩;rw[lxs] at G4;exact⟨_,rfl,q F us H4 (s1.trans s4) nF eF4 G4 fun x hx=>(nx4 x hx).1⟩
abbrev iP:Stmt:=cO (top 36) 1
theorem Fe:aT ["self"] ["self"] (aD iP):=sK9
theorem Cs {dV:Value}(F:bZ K "joins" "Piece.joins" iP dV f fd):aP P w K mg base CX 1 f fd ["self"] (pC .pc):=by
 refine F.ok Fe (fun vs H Q E h=>?_) fun _ A _ s H vs Q E hr h=>?_
 ·obtain⟨_,rfl,_⟩:=h;rfl
 obtain⟨x,rfl,q⟩:=h;exact⟨_,(aG (aX fV)),q⟩
abbrev iO:Stmt:=cO (top 37) 1
theorem Ez:aT ["self"] ["self"] (aD iO):=sK9
theorem Ed {dV:Value}(F:bZ K "joins" "Push.joins" iO dV f fd):aP P w K mg base CX 1 f fd ["self"] (pC .pu):=by
 refine F.ok Ez (fun vs H Q E h=>?_) fun _ A _ s H vs Q E hr h=>?_
 ·obtain⟨_,rfl,_⟩:=h;rfl
 obtain⟨x,rfl,q⟩:=h;exact⟨_,(aG (aX fV)),q⟩
abbrev iR:Stmt:=cO (top 38) 1
theorem Fw:aT ["self"] ["self"] (aD iR):=sK9
theorem Dr {dV:Value}(F:bZ K "joins" "Hold.joins" iR dV f fd):aP P w K mg base CX 1 f fd ["self"] (pC .ho):=by
 refine F.ok Fw (fun vs H Q E h=>?_) fun _ A _ s H vs Q E hr h=>?_
 ·obtain⟨_,rfl,_⟩:=h;rfl
 obtain⟨x,rfl,q⟩:=h;exact⟨_,(aG (aX fV)),q⟩
def Dn (K:Frag)(CK:Kd->Addr):Sp:=fun vs H Q _=>∃(a x:Addr) (ms:List Int) (k:Kd) (s g:Nat) (z:V),vs=[.ref a,.ref x]/\SqL K H a (ms.map V.int)/\Rw CK H x k (.int (s:Int)) (.int (g:Int)) z/\s < ms.length/\g < ms.length/\ms.length<=100/\∀l H',bC H H'->H l=none->H' l=some (.lst ((jn ms s g).map V.int))->Q (.ref l) H'
def Hl (CN:Addr)(K:Frag):Sp:=fun vs H Q _=>∃(n l:Addr) (m:Nat) (ds:List RD),vs=[.ref n]/\dH CN K H n l (m:Int) ds/\(∀d∈ds,dC (m:Int) d.2.1 d.2.2.1)/\m<=20/\ds.length<=100/\∀l' H',bC H H'->H l'=none->H' l'=some (.lst ((mks m ds).map V.int))->Q (.ref l') H'
def Kn (m:Nat)(ds:List RD):List Int:=((range m).filter fun p=>decide (mk m ds p≠mk m ds 0)).map fun (p:Nat)=>(p:Int)
def Ib (CN:Addr)(K:Frag):Sp:=fun vs H Q _=>∃(n l:Addr) (m:Nat) (ds:List RD),vs=[.ref n]/\dH CN K H n l (m:Int) ds/\(∀d∈ds,dC (m:Int) d.2.1 d.2.2.1)/\1<=m/\m<=20/\ds.length<=100/\∀l' H',bC H H'->H l'=none->H' l'=some (.lst ((Kn m ds).map V.int))->Q (.ref l') H'
theorem oG:(["mark","lost","kept"]:List Str).Nodup:=by decide +kernel
abbrev lZ:Stmt:=top 29
theorem uM:aT ["marks","row","kept","lost"] ["marks","row"] (aD lZ):=sK9
theorem Kb {dV:Value}(F:bZ K "joined" "joined" lZ dV f fd)(T:RT K mg CR CK) :
  aP P w K mg base CX 1 f fd ["marks","row"] (Dn K CK):=by
 refine F.ok uM (fun vs H Q E h=>?_) fun _ A _ s H vs Q E hr h=>?_
 ·obtain⟨_,_,_,_,_,_,_,rfl,_⟩:=h;rfl
 obtain⟨a,x,ms,k,s0,g0,z,rfl,hS,rw,hs,hg,h100,q⟩:=h;refine⟨_,(aB (aV (i:=2) uM.nd rfl (Or.inr rfl) (aW bX (pv 0) (bL (pv 1) rfl) (fun _ _=>rfl)))
  (aB (aV (i:=3) uM.nd rfl (Or.inr rfl) (aW bX (pv 0) (bL (pv 1) rfl) (fun _ _=>rfl)))
  (aG (aX (hZ (nl:=1) (fr:=[3,2]) (Nc:=["mark","lost","kept"]) (cl:=[("lost",s.heap.objs.size+2),("kept",s.heap.objs.size+1)]) rfl ⟨rfl,rfl,by decide +kernel,by decide +kernel,(fX rfl (fX rfl (rW))),gP rfl,rfl,fun i n h=>match i,h with | 0,h=>by cases h;exact⟨3,rfl,rfl,rfl,rfl,.inl rfl⟩ | 1,h=>by cases h;exact⟨2,rfl,rfl,rfl,rfl,.inl rfl⟩ | k+2,h=>by rw[show 1+(k+2)=k+3 by lia] at h;cases h⟩
    (dM (pv 0)) (fun C s3 H3 fp pins=>(bU (i:=0) oG rfl (Or.inl rfl))) (fun C s3 H3 fp pins=>gO)
    (fun C s3 H3 fp pins=>(uS (bF eZ (pv 0) (pv 1) (bG _)) (pv 2) (pv 0)))))))),?_⟩
 obtain⟨dx,hx⟩:=id rw;have gi:∀{j:Nat},j < ms.length->atI (ms.map V.int) (j:Int)=some (.int (ms.getD j 0)):=fun h=>cL (by rw[getElem?_map,getElem?_eq_getElem h,getD_eq_getElem?_getD,getElem?_eq_getElem h];rfl);refine⟨_,rfl,_,rfl,x,CK _,_,_,_,rfl,hx,T.cl _,T.nS _,dF _ _ _,a,_,_,_,rfl,rfl,hS,gi hs,?_⟩;refine⟨_,rfl,_,rfl,x,CK _,_,_,_,rfl,hx,T.cl _,T.nG _,dS _ _ _,a,_,_,_,rfl,rfl,hS,gi hg,?_⟩;refine⟨_,rfl,a,rfl,⟨_,hS⟩,fun D hD=>?_⟩;have sD:=aI hD (.lst []);refine gB (xs:=ms.map V.int) (fun i zs H'=>bC H H'/\H' D=some (.lst zs)/\zs=((jn ms s0 g0).take i).map V.int) ⟨sD,aC,rfl⟩ (fun i zs H' h=>h.2.1) (fun i zs H' _ h=>h.1.seq hS) ?_ ?_
 ·rintro i zs x H1 hx' ⟨s1,e1,rfl⟩ C hC;rw[getElem?_map] at hx';obtain⟨c,hc,rfl⟩:=Option.map_eq_some_iff.mp hx';have hi:i < ms.length:=(List.getElem?_eq_some_iff.mp hc).1;have ej:(jn ms s0 g0)[i]?=some (if c=ms.getD g0 0 then ms.getD s0 0 else c):=by unfold jn;rw[getElem?_map,hc];rfl
  have lj:(jn ms s0 g0).length=ms.length:=by unfold jn;rw[length_map]
  refine⟨gS.1,gS.2,gW ?_⟩;refine⟨_,rfl,_,rfl,rfl,_,rfl,?_⟩
  by_cases h:c=ms.getD g0 0
  ·rw[if_pos h] at ej;refine ifT (decide_eq_true (by rw[h])) ⟨_,rfl,e1,bO (by rw[length_map,length_take];lia),hC _ _ ⟨s1.change hD,aC,?_⟩⟩;rw[take_add_one,ej,map_append];rfl
  ·rw[if_neg h] at ej;refine ifF (decide_eq_false (fun z=>h (by injection z))) ⟨_,rfl,e1,bO (by rw[length_map,length_take];lia),hC _ _ ⟨s1.change hD,aC,?_⟩⟩;rw[take_add_one,ej,map_append];rfl
 ·rintro zs H1 ⟨s1,e1,rfl⟩;have lj:(jn ms s0 g0).length=ms.length:=by unfold jn;rw[length_map]
  rw[length_map,<- lj,take_length] at e1;exact q D H1 s1 hD e1
abbrev qO:Stmt:=top 28
theorem tG:aT ["net","marks","row"] ["net"] (aD qO):=sK9
theorem Mp {dV:Value}(F:bZ K "marks_of" "marks_of" qO dV f fd){CN:Addr}(mli:mg "list"=none)(mra:mg "range"=none)(NTx:NT K mg CN)(T:RT K mg CR CK){fJ:Kd->Addr}{fdJ:Kd->FuncData}(GJ:∀k,aP P w K mg base CX0 1 (fJ k) (fdJ k) ["self"] (pC k))(bJ:∀k,aQ K (fdJ k) ["self"] [])(mJ:∀k,dX K (CK k) "joins" (fJ k)){gMa:Addr}{gdMa:FuncData}(GMa:aP P w K mg base CX0 1 gMa gdMa ["self"] (qK CN K))(bMa:aQ K gdMa ["self"] [])(mMa:dX K CN "many" gMa){gRo:Addr}{gdRo:FuncData}(GRo:aP P w K mg base CX0 4 gRo gdRo ["self"] (lK CN K CK))(bRo:aQ K gdRo ["self"] [])(mRo:dX K CN "rows" gRo)(G1:aP P w K mg base CX0 1 g1 gd1 ["marks","row"] (Dn K CK))(b1:aQ K gd1 ["marks","row"] [])(k1:kI9 K g1)(m1:mI9 mg "joined" g1) :
  aP P w K mg base CX 5 f fd ["net"] (Hl CN K):=by
 refine F.ok tG (fun vs H Q E h=>?_) fun _ A _ s H vs Q E hr h=>?_
 ·obtain⟨_,_,_,_,rfl,_⟩:=h;rfl
 obtain⟨n,l,m,ds,rfl,nt,pt,hm,h100,q⟩:=h;have r1:=hr.mono (show 1<=4 by lia);refine⟨_,(aB (aV (i:=1) tG.nd rfl (Or.inl rfl) (Bb rfl rfl mli rfl mra (aA (cC (pv 0) NTx.cl mMa GMa r1 bMa .nil aK) aE)))
  (aB (fU PassesOwn.never rfl (dM (cC (pv 0) NTx.cl mRo GRo hr bRo .nil aK)) (bU (i:=2) tG.nd rfl (Or.inl rfl))
   (aG (cD (dY (dZ (pv 2) T.cl mJ GJ r1 bJ .nil aK)) (aG (aV (i:=1) tG.nd rfl (Or.inl rfl) (aH G1 r1 rfl m1 k1 b1 .nil aK (aA (pv 1) (aA (pv 2) aE))))) bH)))
  (aG (aX (pv 1))))),?_⟩
 obtain⟨dx,hn⟩:=nt.ob;refine⟨_,rfl,n,dx,_,rfl,hn,cX _ _ (by decide +kernel) (by decide +kernel),n,l,_,ds,rfl,nt,m,rfl,by lia,fun D hD=>?_⟩;have sD:=aI hD (.lst ((range m).map fun (i:Nat)=>V.int (i:Int)));have eD:upd H D (.lst ((range m).map fun (i:Nat)=>V.int (i:Int))) D=some (.lst ((mks m (ds.take 0)).map V.int)):=by
  rw[aC];show some (HO.lst _)=some (HO.lst ((Jr m).map V.int));unfold Jr;rw[map_map];rfl
 generalize upd H D (.lst ((range m).map fun (i:Nat)=>V.int (i:Int)))=H1 at sD eD ⊢;refine⟨_,rfl,n,dx,_,rfl,sD _ _ hn,cX _ _ (by decide +kernel) (by decide +kernel),n,l,_,ds,rfl,nt.same sD,h100,fun a xs H2 s2 na ea Rb=>?_⟩;have lxs:=Rb.length;refine⟨a,rfl,⟨_,SqL.of ea⟩,?_⟩;refine gH (xs:=xs) (fun i σ H'=>bC H2 H'/\∃(c:Addr) (z:Option V),σ=[some (.ref n),some (.ref c),z]/\H c=none/\H' c=some (.lst ((mks m (ds.take i)).map V.int))) ⟨bC.refl _,D,none,rfl,hD,s2 _ _ eD⟩ (fun i σ H' _ h=>h.1.seq (SqL.of ea)) ?_ ?_
 ·rintro i x σ H3 hx ⟨s3,c,z,rfl,nc,ec⟩;have hi:i < ds.length:=by
   have:=(List.getElem?_eq_some_iff.mp hx).1;lia
  obtain⟨⟨k,u,v,p⟩,hd⟩:∃d,ds[i]?=some d:=⟨_,getElem?_eq_getElem hi⟩
  obtain⟨y,z',ey,rw,fz⟩:=Rb.at hd;have ex:x=.ref y:=by rw[ey] at hx;exact(Option.some.inj hx).symm
  subst ex;have rw3:=rw.same s3;obtain⟨dr,hy⟩:=id rw3;have et:ds.take (i+1)=ds.take i++[(k,u,v,p)]:=by rw[take_add_one,hd];rfl
  obtain⟨u0,u1,v0,v1⟩:dC (m:Int) u v:=pt _ (mem_of_getElem? hd);refine⟨_,rfl,k,y,dr,_,rfl,hy,(cV _ _ _ (by decide +kernel) (by decide +kernel) (by decide +kernel)),_,rfl,_,rfl,?_⟩
  by_cases hk:k=.pu
  ·refine ifF (decide_eq_false (fun z=>z hk)) ⟨s3,c,_,rfl,nc,?_⟩;rw[et,oM];unfold jB;rw[if_pos hk];exact ec
  ·refine ifT (decide_eq_true hk) ⟨_,rfl,_,rfl,c,y,mks m (ds.take i),k,u.toNat,v.toNat,.ref z',rfl,SqL.of ec,?_,by rw[oX];lia,by rw[oX];lia,by rw[oX];lia,fun c' H4 s4 nc' ec'=>⟨s3.trans s4,c',_,rfl,?_,?_⟩⟩
   ·rw[show ((u.toNat:Nat):Int)=u by lia,show ((v.toNat:Nat):Int)=v by lia];exact rw3
   ·exact((sD.trans s2).trans s3).free nc'
   ·rw[et,oM];unfold jB;rw[if_neg hk];exact ec'
 ·rintro σ H3 ⟨s3,c,z,rfl,nc,ec⟩;rw[show ds.take xs.length=ds by rw[lxs,take_length]] at ec;exact⟨_,rfl,q c H3 ((sD.trans s2).trans s3) nc ec⟩
theorem iK:(["point","mark","marks"]:List Str).Nodup:=by decide +kernel
abbrev pW:Stmt:=top 27
theorem Ij:aT ["net","marks"] ["net"] (aD pW):=sK9
theorem Pp {dV:Value}(F:bZ K "floating" "floating" pW dV f fd){CN:Addr}(men:mg "enumerate"=none)(G1:aP P w K mg base CX0 5 g1 gd1 ["net"] (Hl CN K))(b1:aQ K gd1 ["net"] [])(k1:kI9 K g1)(m1:mI9 mg "marks_of" g1) :
  aP P w K mg base CX 6 f fd ["net"] (Ib CN K):=by
 refine F.ok Ij (fun vs H Q E h=>?_) fun _ A _ s H vs Q E hr h=>?_
 ·obtain⟨_,_,_,_,rfl,_⟩:=h;rfl
 obtain⟨n,l,m,ds,rfl,nt,pt,h1,hm,h100,q⟩:=h;refine⟨_,(aB (aV (i:=1) Ij.nd rfl (Or.inr rfl) (aH G1 hr rfl m1 k1 b1 .nil aK (aA (pv 0) aE)))
  (aG (aX (hZ (nl:=2) (fr:=[1]) (Nc:=["point","mark","marks"]) (cl:=[("marks",s.heap.objs.size+1)]) (g:=(Kz K 2 (kP (jQ 0) (kP (jQ 1) Ll)))) rfl ⟨rfl,rfl,by decide +kernel,by decide +kernel,fun x c h=>h,gP rfl,rfl,fun i n h=>match i,h with | 0,h=>by cases h;exact⟨1,rfl,rfl,rfl,rfl,.inl rfl⟩ | k+1,h=>by rw[show 2+(k+1)=k+3 by lia] at h;cases h⟩
    (Ad rfl men rfl (aA (pv 1) aE)) (fun C s3 H3 fp pins=>(nT rfl (eP (bU (i:=0) iK rfl (Or.inl rfl)) (eP (bU (i:=1) iK rfl (Or.inl rfl)) kE)))) (fun C s3 H3 fp pins=>(zH (bF rG (pv 1) (aW (uE (K:=K) rfl) (pv 2) aF (fun _ _=>rfl)) (bG _))))
    (fun C s3 H3 fp pins=>(pv 0)))))),?_⟩
 refine⟨_,rfl,n,l,m,ds,rfl,nt,pt,hm,h100,fun M H1 s1 nM eM=>?_⟩;have mlen:=oX m ds;have hS:SqL K H1 M ((mks m ds).map V.int):=SqL.of eM;refine⟨_,rfl,M,rfl,⟨_,hS⟩,fun D hD=>?_⟩;have sD:=aI hD (.lst []);refine xQ (xs:=(mks m ds).map V.int) (fun i zs H'=>bC H1 H'/\H' D=some (.lst zs)/\zs=(((range i).filter fun p=>decide (mk m ds p≠mk m ds 0)).map fun (p:Nat)=>V.int (p:Int))) ⟨sD,aC,rfl⟩ (fun i zs H' h=>h.2.1) (fun i zs H' _ h=>h.1.seq hS) ?_ ?_
 ·rintro i zs x H2 T2 hx ⟨s2,e2,rfl⟩ hT C hC;rw[getElem?_map] at hx;obtain⟨c,hc,rfl⟩:=Option.map_eq_some_iff.mp hx;have hi:i < m:=by have:=(List.getElem?_eq_some_iff.mp hc).1;lia
  have ec:c=mk m ds i:=by unfold mk;rw[getD_eq_getElem?_getD,hc];rfl
  have g0:atI ((mks m ds).map V.int) 0=some (.int (mk m ds 0)):=cL (j:=0) (by unfold mk;rw[getElem?_map,getElem?_eq_getElem (by lia),getD_eq_getElem?_getD,getElem?_eq_getElem (by lia)];rfl);have ll:(((range i).filter fun p=>decide (mk m ds p≠mk m ds 0)).map fun (p:Nat)=>V.int (p:Int)).length<=20:=by
   rw[length_map];have:=length_filter_le (fun p=>decide (mk m ds p≠mk m ds 0)) (range i);rw[length_range] at this;lia
  have sT:=aI hT (.tup [.int (i:Int),.int c]);refine⟨T2,_,rfl,SqT.of aC,rfl,_,_,rfl,_,_,rfl,rfl,mX.1,mX.2,?_⟩;generalize upd H2 T2 (.tup [.int (i:Int),.int c])=H3 at sT ⊢;have s3:=s2.trans sT;have e3:=sT _ _ e2;refine⟨_,rfl,_,rfl,M,_,_,_,rfl,rfl,s3.seq hS,g0,rfl,_,rfl,?_⟩;subst ec
  by_cases h:mk m ds i=mk m ds 0
  ·refine ifF (by rw[h];simp) (hC _ _ ⟨s3,e3,?_⟩);rw[range_succ,filter_append,filter_cons_of_neg (by simp[h])];simp
  ·refine ifT (by simp[h]) ⟨_,rfl,e3,bO (by lia),hC _ _ ⟨s3.change hD,aC,?_⟩⟩;rw[range_succ,filter_append,filter_cons_of_pos (by simp[h]),map_append];rfl
 ·rintro zs H2 ⟨s2,e2,rfl⟩;refine q D H2 (s1.trans s2) (s1.free hD) ?_;rw[length_map,mlen] at e2;rw[e2];unfold Kn;rw[map_map];rfl
open Shp
theorem wC:(["one","bottom"]:List Str).Nodup:=by decide +kernel
abbrev sIW:Stmt:=top 52
theorem Sj:aT ["some","bottom","one"] ["some"] (aD sIW):=sK9
theorem qb3 {dV:Value}(F:bZ K "in_wholes" "in_wholes" sIW dV f fd)(G1:aP P w K mg base CX0 1 g1 gd1 ["one","other"] Ra)(b1:aQ K gd1 ["one","other"] [])(k1:kI9 K g1)(m1:mI9 mg "greatest_common" g1) :
  aP P w K mg base CX 2 f fd ["some"] (Vb K):=by
 refine F.ok Sj (fun vs H Q E h=>?_) fun _ A _ s H vs Q E hr h=>?_
 ·obtain⟨_,_,_,_,rfl,_⟩:=h;rfl
 obtain⟨a,xs,ps,n,rfl,hS,hF,hP,hB,h100,hn,q⟩:=h;refine⟨_,(aB (aV (i:=1) Sj.nd rfl (Or.inr rfl) aF)
  (aB (fU PassesOwn.never rfl (dM (pv 0)) (bU (i:=2) Sj.nd rfl (Or.inl rfl))
   (aG (aV (i:=1) Sj.nd rfl (Or.inr rfl) (aZ dB (aZ iZ (pv 1) (aH G1 hr rfl m1 k1 b1 .nil aK (aA (pv 1) (aA (aW bA (pv 2) aF (fun _ _=>rfl)) aE)))) (aW bA (pv 2) aF (fun _ _=>rfl))))))
  (aG (aX (dI (aA (hZ (nl:=1) (fr:=[1]) (Nc:=["one","bottom"]) (cl:=[("bottom",s.heap.objs.size+1)]) rfl ⟨rfl,rfl,by decide +kernel,by decide +kernel,fun x c h=>h,gP rfl,rfl,fun i n h=>match i,h with | 0,h=>by cases h;exact⟨1,rfl,rfl,rfl,rfl,.inl rfl⟩ | k+1,h=>by rw[show 1+(k+1)=k+2 by lia] at h;cases h⟩
    (dM (pv 0)) (fun C s3 H3 fp pins=>(bU (i:=0) wC rfl (Or.inl rfl))) (fun C s3 H3 fp pins=>gO)
    (fun C s3 H3 fp pins=>(aZ dB (aW (tF (K:=K) rfl) (pv 0) aF (fun _ _=>rfl)) (aZ iZ (pv 1) (aW (tF (K:=K) rfl) (pv 0) aF (fun _ _=>rfl)))))) (aA (pv 1) aE))))))),?_⟩
 have lx:=hF.length;refine⟨_,rfl,a,rfl,⟨_,hS⟩,?_⟩;refine gH (xs:=xs) (fun i σ H'=>H'=H/\i<=ps.length/\∃z,σ=[some (.ref a),some (.int (eI (ps.take i))),z]) ⟨rfl,Nat.zero_le _,none,rfl⟩ (fun i σ H' _ h=>by rw[h.1];exact hS) ?_ ?_
 ·rintro i x σ H' hx ⟨rfl,hi,z,rfl⟩;obtain⟨u,p,rfl,ep,fu⟩:=hF.get hx;have hi':i < ps.length:=(List.getElem?_eq_some_iff.mp ep).1;obtain⟨f1,f2,_⟩:=oE hP hB i hi;have mono:=Nat.mul_le_mul_left n hi;have hp:=hP p (mem_of_getElem? ep);have pb:=(hB p (mem_of_getElem? ep)).b;have g0:gc (eI (ps.take i)) p.2≠0:=by have:=Mq.vU (a:=eI (ps.take i)) (show p.2≠0 by lia);lia
  have gb:Mq.B n (gc (eI (ps.take i)) p.2):=by
   have:=Et (t:=eI (ps.take i)) (show p.2≠0 by lia);rw[Ru (by lia)] at this;exact pb.le this
  have qb:Mq.B (1+n*i) (Int.fdiv (eI (ps.take i)) (gc (eI (ps.take i)) p.2)):=by
   have d1:gc (eI (ps.take i)) p.2 ∣ eI (ps.take i):=by unfold gc;exact Int.gcd_dvd_left ..
   obtain⟨k,hk⟩:=d1;have:=Mq.iS g0 hk;rw[fG g0 hk];exact f2.le this
  refine⟨_,rfl,_,rfl,cY rfl fu ⟨_,_,rfl,fQ g0 gb (by lia) (cY rfl fu (dA qb pb (by lia) (by lia) ?_))⟩⟩;refine⟨rfl,hi',some (.ref u),?_⟩;rw[Mq.mE ep];rfl
 rintro σ H' ⟨rfl,_,z,rfl⟩;rw[lx,take_length];obtain⟨f1,f2,f3⟩:=oE hP hB ps.length (Nat.le_refl _);rw[take_length] at f1 f2 f3;refine⟨_,rfl,a,rfl,⟨_,hS⟩,fun D hD=>?_⟩;have sD:=aI hD (.lst []);refine gB (xs:=xs) (fun i zs H1=>bC H' H1/\H1 D=some (.lst zs)/\zs=((ps.take i).map (Cy (eI ps))).map V.int) ⟨sD,aC,rfl⟩ (fun i zs H1 h=>h.2.1) (fun i zs H1 _ h=>h.1.seq hS) ?_ ?_
 ·rintro i zs x H1 hx ⟨s1,e1,rfl⟩ C hC;obtain⟨u,p,rfl,ep,fu⟩:=hF.get hx;have hi':i < ps.length:=(List.getElem?_eq_some_iff.mp ep).1;have mem:=mem_of_getElem? ep;have hp:=hP p mem;obtain⟨k,hk⟩:=f3 p mem;have fu1:=s1.fq fu;have kb:Mq.B (1+n*ps.length) (Int.fdiv (eI ps) p.2):=by
   have e:=fG (show p.2≠0 by lia) (show eI ps=p.2*k by rw[hk,Int.mul_comm]);rw[e];refine f2.le ?_;rw[hk,Int.natAbs_mul];exact Nat.le_mul_of_pos_right _ (by lia)
  refine⟨gS.1,gS.2,gW ?_⟩;refine fC rfl fu1 ⟨_,rfl,cY rfl fu1 (fQ (show p.2≠0 by lia) (hB p mem).b (by lia) (dA (hB p mem).a kb (by lia) (by lia) ?_))⟩;refine⟨e1,bO (by rw[length_map,length_map,length_take];lia),hC _ _ ⟨s1.change hD,aC,?_⟩⟩;rw[take_add_one,ep,map_append,map_append];rfl
 rintro zs H1 ⟨s1,e1,rfl⟩;rw[lx,take_length] at e1;refine⟨_,rfl,zl9 2,fun t ht=>?_⟩;have s2:=aI ht (.tup [.ref D,.int (eI ps)]);exact q t D _ (s1.trans s2) hD (SqT.of aC) (s2 _ _ e1)
abbrev Jw:Stmt:=top 56
theorem Vh:aT ["rows","rank","column","place"] ["rows","rank","column"] (aD Jw):=sK9
theorem Wz {dV:Value}(F:bZ K "pivot_place" "pivot_place" Jw dV f fd)(ml:mg "len"=none)(mr:mg "range"=none) :
  aP P w K mg base CX 1 f fd ["rows","rank","column"] (Uu K):=by
 refine F.ok Vh (fun vs H Q E h=>?_) fun _ A _ s H vs Q E hr h=>?_
 ·obtain⟨_,_,_,_,_,_,_,_,rfl,_⟩:=h;rfl
 obtain⟨l,D,zs,R,r,c,m,w',rfl,hS,hI,hm,hw,hc,hr',h100,q1,q2⟩:=h;refine⟨_,(aB (fU PassesOwn.never rfl (yQ rfl mr (aA (pv 1) (aA (cI bV rfl ml PySem.boot_len (aA (pv 0) aE)) aE))) (bU (i:=3) Vh.nd rfl (Or.inl rfl))
   (aG (cD (bF rG (aW bX (aW bX (pv 0) (pv 3) (fun _ _=>rfl)) (pv 2) (fun _ _=>rfl)) aF (bG _)) (aG (aX (pv 3))) bH)))
  (aG (aX Wr))),?_⟩
 have lz:=hI.length;obtain⟨k,hk⟩:∃k,m=r+k:=⟨m - r,by lia⟩
 refine⟨_,rfl,_,rfl,l,zs,rfl,.inl hS,(r:Int),(zs.length:Int),rfl,⟨by lia,by lia,by lia,by lia⟩,?_⟩;rw[show ((zs.length:Int) - (r:Int)).toNat=k by lia];refine jR (lo:=(r:Int)) (n:=k) (fun i σ H'=>H'=H/\(∀j,r<=j->j < r+i->ent R j c=0)/\∃z,σ=[some (.ref l),some (.int (r:Int)),some (.int (c:Int)),z]) ⟨rfl,fun j h1 h2=>absurd h1 (by lia),none,rfl⟩ ?_ ?_
 ·rintro i σ H' hi ⟨rfl,hz,z,rfl⟩;obtain⟨u,eu,nu,hu⟩:=hI.at (i:=r+i) (by lia);have eu':atI zs ((r:Int)+(i:Int))=some (.ref u):=by have:=cL eu;rwa [Int.natCast_add] at this
  have ec:=cL (kF (l:=R.getD (r+i) []) (i:=c) (by rw[hw _ (by lia)];exact hc));refine⟨_,rfl,_,rfl,l,zs,_,_,rfl,rfl,hS,eu',_,rfl,u,_,_,_,rfl,rfl,SqL.of hu,ec,rfl,_,rfl,rK (fun e=>?_) (fun e=>?_)⟩
  ·refine⟨_,rfl,?_⟩;have ne:ent R (r+i) c≠0:=fun z=>by
    have z':(R.getD (r+i) []).getD c 0=0:=z;rw[z'] at e;simp at e
   have:=q1 (r+i) (by lia) (by lia) ne
   rwa [Int.natCast_add] at this
  ·refine⟨rfl,fun j h1 h2=>?_,_,rfl⟩
   by_cases hj:j=r+i
   ·rw[hj];simp at e;exact e
   ·exact hz j h1 (by lia)
 ·rintro σ H' ⟨rfl,hz,z,rfl⟩;exact q2 fun i h1 h2=>hz i h1 (by lia)
theorem eV:(["here","above","own","other","divisor"]:List Str).Nodup:=by decide +kernel
abbrev Kv:Stmt:=top 58
theorem Op:aT ["row","upper","column","divisor","own","other"] ["row","upper","column","divisor"] (aD Kv):=sK9
theorem Wi {dV:Value}(F:bZ K "cleared" "cleared" Kv dV f fd)(mz:mg "zip"=none) :
  aP P w K mg base CX 1 f fd ["row","upper","column","divisor"] (yA K):=by
 refine F.ok Op (fun vs H Q E h=>?_) fun _ A _ s H vs Q E hr h=>?_
 ·obtain⟨_,_,_,_,_,_,_,rfl,_⟩:=h;rfl
 obtain⟨u,v,row,upper,c,n,dv,rfl,hu,hv,hl,h100,hc,hd,b1,b2,bd,hn,q⟩:=h;refine⟨_,(aB (aV (i:=4) Op.nd rfl (Or.inr rfl) (aW bX (pv 1) (pv 2) (fun _ _=>rfl)))
  (aB (aV (i:=5) Op.nd rfl (Or.inr rfl) (aW bX (pv 0) (pv 2) (fun _ _=>rfl)))
  (aG (aX (hZ (nl:=2) (fr:=[4,5,3]) (Nc:=["here","above","own","other","divisor"]) (cl:=[("own",s.heap.objs.size+2),("other",s.heap.objs.size+3),("divisor",s.heap.objs.size+1)]) (g:=(Kz K 2 (kP (jQ 0) (kP (jQ 1) Ll)))) rfl ⟨rfl,rfl,by decide +kernel,by decide +kernel,(fX rfl (fX rfl (fX rfl (rW)))),gP rfl,rfl,fun i n h=>match i,h with | 0,h=>by cases h;exact⟨4,rfl,rfl,rfl,rfl,.inl rfl⟩ | 1,h=>by cases h;exact⟨5,rfl,rfl,rfl,rfl,.inl rfl⟩ | 2,h=>by cases h;exact⟨3,rfl,rfl,rfl,rfl,.inl rfl⟩ | k+3,h=>by rw[show 2+(k+3)=k+5 by lia] at h;cases h⟩
    (Nv rfl mz rfl (aA (pv 0) (aA (pv 1) aE))) (fun C s3 H3 fp pins=>(nT rfl (eP (bU (i:=0) eV rfl (Or.inl rfl)) (eP (bU (i:=1) eV rfl (Or.inl rfl)) kE)))) (fun C s3 H3 fp pins=>gO)
    (fun C s3 H3 fp pins=>(aZ iZ (aZ iF (aZ dB (pv 2) (pv 0)) (aZ dB (pv 3) (pv 1))) (pv 4)))))))),?_⟩
 have e1:=cL (kF (l:=upper) (i:=c) (by lia));have e2:=cL (kF (l:=row) (i:=c) (by lia));refine⟨_,rfl,_,rfl,v,_,_,_,rfl,rfl,hv,e1,?_⟩;refine⟨_,rfl,_,rfl,u,_,_,_,rfl,rfl,hu,e2,?_⟩;refine⟨_,rfl,_,rfl,u,v,rfl,⟨_,hu⟩,⟨_,hv⟩,fun D hD=>?_⟩;have sD:=aI hD (.lst []);refine Cu (xs:=row.map V.int) (ys:=upper.map V.int) (fun i zs H'=>bC H H'/\H' D=some (.lst zs)/\zs=((gN upper row c dv).take i).map V.int) ⟨sD,aC,rfl⟩ (fun i zs H' h=>h.2.1) (fun i zs H' _ h=>⟨h.1.seq hu,h.1.seq hv⟩) ?_ ?_
 ·rintro i zs x y H1 T1 ex ey ⟨s1,e1',rfl⟩ hT C hC;have hi:i < row.length:=by have:=(List.getElem?_eq_some_iff.mp ex).1;simpa using this
  have ex':x=.int (row.getD i 0):=by rw[kF hi] at ex;cases ex;rfl
  have ey':y=.int (upper.getD i 0):=by rw[kF (by lia)] at ey;cases ey;rfl
  subst ex' ey';have sT:=aI hT (.tup [.int (row.getD i 0),.int (upper.getD i 0)]);refine⟨T1,_,rfl,SqT.of aC,rfl,_,_,rfl,_,_,rfl,rfl,mX.1,mX.2,gW ?_⟩;have mm:Mq.B (n+n+1) (upper.getD c 0*row.getD i 0 - row.getD c 0*upper.getD i 0):=Mq.B.sub ((b2 c).mul (b1 i)) ((b1 c).mul (b2 i));refine⟨_,rfl,_,rfl,dA (b2 c) (b1 i) (by lia) (by lia) ⟨_,rfl,_,rfl,dA (b1 c) (b2 i) (by lia) (by lia) ⟨_,_,rfl,rfl,_,rfl,fQ hd bd (by lia) ?_⟩⟩⟩;have ll:(gN upper row c dv).length=row.length:=by unfold gN;rw[length_zipWith];lia
  have eA:=sT _ _ e1';refine⟨eA,bO (by rw[length_map,length_take];lia),hC _ _ ⟨(s1.trans sT).change hD,aC,?_⟩⟩;have eg:(gN upper row c dv)[i]?=some (Int.fdiv (upper.getD c 0*row.getD i 0 - row.getD c 0*upper.getD i 0) dv):=by
   unfold gN;rw[getElem?_zipWith,lF hi,lF (show i < upper.length by lia)]
  rw[take_add_one,eg,map_append];rfl
 rintro zs H1 ⟨s1,e1',rfl⟩;have ll:(gN upper row c dv).length=row.length:=by unfold gN;rw[length_zipWith];lia
 rw[length_map,length_map,take_of_length_le (by rw[ll];lia)] at e1';exact q D H1 s1 hD e1'
theorem dE:(["place","row","upper","rank","divisor","column"]:List Str).Nodup:=by decide +kernel
abbrev jP:Stmt:=top 57
theorem xF:aT ["rows","rank","column","divisor","upper"] ["rows","rank","column","divisor"] (aD jP):=sK9
theorem Fi {dV:Value}(F:bZ K "cleared_rows" "cleared_rows" jP dV f fd)(men:mg "enumerate"=none)(G1:aP P w K mg base CX0 1 g1 gd1 ["row","upper","column","divisor"] (yA K))(b1:aQ K gd1 ["row","upper","column","divisor"] [])(k1:kI9 K g1)(m1:mI9 mg "cleared" g1) :
  aP P w K mg base CX 2 f fd ["rows","rank","column","divisor"] (wX K):=by
 refine F.ok xF (fun vs H Q E h=>?_) fun _ A _ s H vs Q E hr h=>?_
 ·obtain⟨_,_,_,_,_,_,_,_,_,_,rfl,_⟩:=h;rfl
 obtain⟨l,D0,zs,R,r,c,m,w',n,dv,rfl,hS,hI,hm,hw,hc,hw100,hr',h100,hd,hB,bd,hn,q⟩:=h;refine⟨_,(aB (aV (i:=4) xF.nd rfl (Or.inr rfl) (aW bX (pv 0) (pv 1) (fun _ _=>rfl)))
  (aG (aX (hZ (nl:=2) (fr:=[4,1,3,2]) (Nc:=["place","row","upper","rank","divisor","column"]) (cl:=[("upper",s.heap.objs.size+4),("rank",s.heap.objs.size+1),("divisor",s.heap.objs.size+3),("column",s.heap.objs.size+2)]) (g:=(Kz K 2 (kP (jQ 0) (kP (jQ 1) Ll)))) rfl ⟨rfl,rfl,by decide +kernel,by decide +kernel,(fX rfl (fX rfl (fX rfl (fX rfl (rW))))),gP rfl,rfl,fun i n h=>match i,h with | 0,h=>by cases h;exact⟨4,rfl,rfl,rfl,rfl,.inl rfl⟩ | 1,h=>by cases h;exact⟨1,rfl,rfl,rfl,rfl,.inl rfl⟩ | 2,h=>by cases h;exact⟨3,rfl,rfl,rfl,rfl,.inl rfl⟩ | 3,h=>by cases h;exact⟨2,rfl,rfl,rfl,rfl,.inl rfl⟩ | k+4,h=>by rw[show 2+(k+4)=k+6 by lia] at h;cases h⟩
    (Ad rfl men rfl (aA (pv 0) aE)) (fun C s3 H3 fp pins=>(nT rfl (eP (bU (i:=0) dE rfl (Or.inl rfl)) (eP (bU (i:=1) dE rfl (Or.inl rfl)) kE)))) (fun C s3 H3 fp pins=>gO)
    (fun C s3 H3 fp pins=>(uS (bF eZ (pv 0) (pv 3) (bG _)) (pv 1) (aH G1 hr rfl m1 k1 b1 .nil aK (aA (pv 1) (aA (pv 2) (aA (pv 5) (aA (pv 4) aE))))))))))),?_⟩
 have lz:=hI.length;obtain⟨v,ev,nv,hv⟩:=hI.at (i:=r) (by lia);refine⟨_,rfl,_,rfl,l,zs,_,_,rfl,rfl,hS,cL ev,?_⟩;refine⟨_,rfl,l,rfl,⟨_,hS⟩,fun D hD=>?_⟩;have sD:=aI hD (.lst []);have ll:=Mq.Gz R r c dv;refine xQ (xs:=zs) (fun i ys H'=>bC H H'/\H' D=some (.lst ys)/\Imx D H' ys ((cN R r c dv).take i)) ⟨sD,aC,.nil⟩ (fun i ys H' h=>h.2.1) (fun i ys H' _ h=>h.1.seq hS) ?_ ?_
 ·rintro i ys x H1 T1 ex ⟨s1,e1,I1⟩ hT C hC;have hi:i < m:=by have:=(List.getElem?_eq_some_iff.mp ex).1;lia
  obtain⟨u,eu,nu,hu⟩:=hI.at (i:=i) (by lia);have exu:x=.ref u:=by rw[eu] at ex;cases ex;rfl
  subst exu;have lI:=I1.length;rw[length_take] at lI;have cg:=oY (R:=R) (i:=i) (by lia) r c dv;have cs:(cN R r c dv).take (i+1)=(cN R r c dv).take i++[(cN R r c dv).getD i []]:=by
   rw[take_add_one,getD_eq_getElem?_getD,getElem?_eq_getElem (show i < (cN R r c dv).length by lia)];rfl
  have sT:=aI hT (.tup [.int (i:Int),.ref u]);have uD:∀{x:Addr} {o:HO},H x=some o->x≠D:=fun h z=>by rw[z,hD] at h;cases h
  refine⟨T1,_,rfl,SqT.of aC,rfl,_,_,rfl,_,_,rfl,rfl,mX.1,mX.2,gW ?_⟩;generalize upd H1 T1 (.tup [.int (i:Int),.ref u])=H2 at sT ⊢;have sA:=s1.trans sT;have eA:=sT _ _ e1;refine⟨_,rfl,_,rfl,rfl,_,rfl,rK (fun e=>?_) (fun e=>?_)⟩
  ·have ei:i=r:=by simp at e;lia
   refine⟨_,rfl,eA,bO (by lia),hC _ _ ⟨sA.change hD,aC,?_⟩⟩;rw[cs,cg,if_pos ei];exact((I1.same sT).app (.cons (uD hu) (sA _ _ hu) .nil)).upd
  ·have ei:i≠r:=by simp at e;lia
   refine⟨_,rfl,_,rfl,_,rfl,_,rfl,u,v,R.getD i [],R.getD r [],c,n,dv,rfl,SqL.of (sA _ _ hu),SqL.of (sA _ _ hv),by rw[hw i hi,hw r hr'],by rw[hw i hi];exact hw100,by rw[hw i hi];exact hc,hd,fun j=>hB i j,fun j=>hB r j,bd,hn,fun l3 H3 s3 n3 e3=>?_⟩;have eB:=s3 _ _ eA;have n3':l3≠D:=fun z=>by rw[z,eA] at n3;cases n3
   refine⟨eB,bO (by lia),hC _ _ ⟨(sA.trans s3).change hD,aC,?_⟩⟩;rw[cs,cg,if_neg ei];exact((I1.same (sT.trans s3)).app (.cons n3' e3 .nil)).upd
 rintro ys H1 ⟨s1,e1,I1⟩;rw[lz,take_of_length_le (by lia)] at I1;exact q D ys H1 s1 hD e1 I1
abbrev yB:Stmt:=top 55
theorem iG:aT ["rows","width","rank","pivot","sign","column","place","lifted"] ["rows","width"] (aD yB):=sK9
theorem Th {dV:Value}(F:bZ K "eliminated" "eliminated" yB dV f fd)(mr:mg "range"=none)(mli:mg "list"=none)(G1:aP P w K mg base CX0 1 g1 gd1 ["rows","rank","column"] (Uu K))(b1:aQ K gd1 ["rows","rank","column"] [])(k1:kI9 K g1)(m1:mI9 mg "pivot_place" g1)(G2:aP P w K mg base CX0 2 g2 gd2 ["rows","rank","column","divisor"] (wX K))(b2:aQ K gd2 ["rows","rank","column","divisor"] [])(k2:kI9 K g2)(m2:mI9 mg "cleared_rows" g2) :
  aP P w K mg base CX 3 f fd ["rows","width"] (Io K):=by
 refine F.ok iG (fun vs H Q E h=>?_) fun _ A _ s H vs Q E hr h=>?_
 ·obtain⟨_,_,_,_,_,_,_,_,rfl,_⟩:=h;rfl
 obtain⟨l,D0,zs,R,m,w',n,Pr,rfl,hS,hI,hm,hw,hmw,hw100,hB,hn1,hn,hm31,hPr,hSt,q⟩:=h;have r1:=hr.mono (show 1<=2 by lia);refine⟨_,(aB (aV (i:=0) iG.nd rfl (Or.inl rfl) (gA dP rfl mli PyProof.Rows.boot_list (aA (pv 0) aE)))
  (aB (aV (i:=2) iG.nd rfl (Or.inl rfl) aF)
  (aB (aV (i:=3) iG.nd rfl (Or.inl rfl) aF)
  (aB (aV (i:=4) iG.nd rfl (Or.inl rfl) aF)
  (aB (fU PassesOwn.never rfl (mC rfl mr (aA (pv 1) aE)) (bU (i:=5) iG.nd rfl (Or.inl rfl))
   (aB (aV (i:=6) iG.nd rfl (Or.inl rfl) (aH G1 r1 rfl m1 k1 b1 .nil aK (aA (pv 0) (aA (pv 2) (aA (pv 5) aE)))))
  (aB (cD (Av (Ei (pv 6))) (aG Dj) bH)
  (aB (cD (bF rG (pv 6) (pv 2) (bG _)) (aB (aV (i:=7) iG.nd rfl (Or.inl rfl) (aW bX (pv 0) (pv 6) (fun _ _=>rfl)))
  (aB (oC (aW bX (pv 0) (pv 2) (fun _ _=>rfl)) (nU (pv 0) (pv 6) jC))
  (aB (oC (pv 7) (nU (pv 0) (pv 2) jC))
  (aG (aV (i:=4) iG.nd rfl (Or.inl rfl) (Dh uZ (pv 4))))))) bH)
  (aB (aV (i:=0) iG.nd rfl (Or.inl rfl) (aH G2 hr rfl m2 k2 b2 .nil aK (aA (pv 0) (aA (pv 2) (aA (pv 5) (aA (pv 3) aE))))))
  (aB (aV (i:=3) iG.nd rfl (Or.inl rfl) (aW bX (aW bX (pv 0) (pv 2) (fun _ _=>rfl)) (pv 5) (fun _ _=>rfl)))
  (aG (Gb (i:=2) iG.nd rfl (Or.inl rfl) aF Gc))))))))
  (aG (aX (Im (kT cQ (pv 0) (kT cQ (pv 2) (kT cQ (pv 3) (kT cQ (pv 4) Ha)))) rfl rfl (by simp) (by decide))))))))),?_⟩
 refine⟨_,rfl,l,zs,rfl,.inl hS,fun l0 hl0=>?_⟩;have s0:=aI hl0 (.lst zs);have e0:upd H l0 (.lst zs) l0=some (.lst zs):=aC;generalize upd H l0 (.lst zs)=H0 at s0 e0 ⊢;refine⟨_,rfl,(m:Int),rfl,by lia,by lia,?_⟩;rw[Int.toNat_natCast];have b1:Mq.B n 1:=by
  show 1 < 2 ^ n;exact Nat.one_lt_two_pow (by lia)
 refine jR (lo:=0) (n:=m) (fun i σ H'=>bC H H'/\∃(lR:Addr) (zs':List V) (R':List (List Int)) (rank:Nat) (pivot sign:Int) (z5 z6 z7:Option V),σ=[some (.ref lR),some (.int (m:Int)),some (.int (rank:Int)),some (.int pivot),some (.int sign),z5,z6,z7]/\H lR=none/\H' lR=some (.lst zs')/\Imx lR H' zs' R'/\SI m w' (Mq.at2 R) R' rank i pivot sign/\Mq.SB n m R' rank i pivot/\Pr R') ⟨s0,l0,zs,R,0,1,1,none,none,none,rfl,hl0,e0,(hI.other hl0).same s0,.start hm hw,.start hB,hPr⟩ ?_ ?_
 ·rintro i σ H1 hi ⟨s1,lR,zs',R',rank,pivot,sign,z5,z6,z7,rfl,nR,eR,I1,S1,sb,p1⟩;rw[Int.zero_add];obtain⟨bR,bP⟩:=sb.bd5 S1 hm31;obtain⟨A1,c1,B1,_⟩:=S1.bar;have rm:=B1.rm;have rc:=B1.rc;have dn:pivot≠0:=fun z=>B1.dne (by rw[z];simp);clear B1;refine⟨_,rfl,_,rfl,_,rfl,lR,lR,zs',R',rank,i,m,w',rfl,SqL.of eR,I1,S1.len,S1.wid,by lia,rm,by lia,fun p h1 h2 ne=>?_,fun hz=>?_⟩
  ·refine⟨_,rfl,_,rfl,gK ?_⟩;have hrm:rank < m:=by lia
   refine(fun (hrest:∀(sg:Int) (z:Option V) (Hx:Hp) (zs2:List V) (R2:List (List Int)),bC H Hx->Hx lR=some (.lst zs2)->Imx lR Hx zs2 R2->SI m w' (Mq.at2 R) R2 rank i pivot sg->ent R2 rank i≠0->Mq.SB n m R2 rank i pivot->Pr R2->W.KIN.Hid ((?T:Int->Option V->Hp->Prop) sg z Hx))=>?main) ?rest
   case main=>
    refine⟨_,rfl,_,rfl,rfl,_,rfl,rK (fun e=>?c1) (fun e=>?c2)⟩
    case c1=>
     have npr:p≠rank:=by simp at e;lia
     obtain⟨up,eup,nup,hup⟩:=I1.at (i:=p) (by rw[S1.len];lia);obtain⟨ur,eur,nur,hur⟩:=I1.at (i:=rank) (by rw[S1.len];lia);have lz:zs'.length=m:=I1.length.trans S1.len;refine⟨_,rfl,_,rfl,lR,zs',_,_,rfl,rfl,SqL.of eR,cL eup,?_⟩;refine⟨_,rfl,_,rfl,lR,zs',_,_,rfl,rfl,SqL.of eR,cL eur,_,rfl,_,rfl,lR,zs',_,p,rfl,rfl,eR,jX (by lia),?_⟩;have e2:upd H1 lR (.lst (zs'.set p (.ref ur))) lR=some (.lst (zs'.set p (.ref ur))):=aC;have I2:=(Imx.set nur hur p I1).upd (o:=.lst (zs'.set p (.ref ur)));have s2:bC H (upd H1 lR (.lst (zs'.set p (.ref ur)))):=s1.change nR;have hup2:upd H1 lR (.lst (zs'.set p (.ref ur))) up=some (.lst ((R'.getD p []).map V.int)):=by rw[aY nup];exact hup
     generalize upd H1 lR (.lst (zs'.set p (.ref ur)))=H2 at e2 I2 s2 hup2 ⊢;refine⟨_,rfl,_,rfl,_,rfl,lR,_,_,rank,rfl,rfl,e2,jX (by rw[length_set];lia),?_⟩;have e3:upd H2 lR (.lst ((zs'.set p (.ref ur)).set rank (.ref up))) lR=some (.lst ((zs'.set p (.ref ur)).set rank (.ref up))):=aC;have I3:=(Imx.set nup hup2 rank I2).upd (o:=.lst ((zs'.set p (.ref ur)).set rank (.ref up)));have s3:bC H (upd H2 lR (.lst ((zs'.set p (.ref ur)).set rank (.ref up)))):=s2.change nR;generalize upd H2 lR (.lst ((zs'.set p (.ref ur)).set rank (.ref up)))=H3 at e3 I3 s3 ⊢;refine⟨_,rfl,_,rfl,?_⟩;show gF _ _ _ [some (.ref lR),some (.int (m:Int)),some (.int (rank:Int)),some (.int pivot),some (.int (-sign)),some (.int (i:Int)),some (.int (p:Int)),some (.ref up)] H3;have S3:=S1.swap (p:=p) (by lia) h2;have bR3:=sb.swap S1 (p:=p) (by lia) h2;have ne3:ent (fD R' p rank) rank i≠0:=by
      unfold ent;rw[Bq (by rw[S1.len];lia) (by rw[S1.len];lia)];have:Mq.sw p rank rank=p:=by unfold Mq.sw;rw[if_pos rfl]
      rw[this];exact ne
     have I3':Imx lR H3 ((zs'.set p (.ref ur)).set rank (.ref up)) (fD R' p rank):=I3;clear I3 hup2;have p3:=hSt.sw _ _ _ _ _ _ S1 (show rank < p by lia) h2 p1;generalize -sign=sg at S3 ⊢;generalize some (V.ref up)=zz at ⊢;exact(hrest sg zz H3 _ _ s3 e3 I3' S3 ne3 bR3 p3).out
    case c2=>
     have epr:p=rank:=by simp at e;lia
     show gF _ _ _ [some (.ref lR),some (.int (m:Int)),some (.int (rank:Int)),some (.int pivot),some (.int sign),some (.int (i:Int)),some (.int (p:Int)),z7] H1;exact(hrest sign z7 H1 _ _ s1 eR I1 S1 (by rw[<- epr];exact ne) sb p1).out
   case rest=>
   intro sg z Hx zs2 R2 sx ex Ix Sx nx bx px;refine⟨?_⟩;have bxx:=bx.bd5 Sx hm31;refine⟨_,rfl,_,rfl,_,rfl,_,rfl,lR,lR,zs2,R2,rank,i,m,w',bw n m,pivot,rfl,SqL.of ex,Ix,Sx.len,Sx.wid,by lia,hw100,hrm,by lia,dn,bxx.1,bxx.2,hn,fun l3 zs3 H3 s3 n3 e3 I3=>?_⟩;have S3:=Sx.clear hrm (by lia) nx;have b3:=bx.clear Sx hrm (by lia) nx;obtain⟨u,eu,nu,hu⟩:=I3.at (i:=rank) (by rw[S3.len];lia);have ec:=cL (kF (l:=(cN R2 rank i pivot).getD rank []) (i:=i) (by rw[S3.wid _ hrm];lia));refine⟨_,rfl,_,rfl,l3,zs3,_,_,rfl,rfl,SqL.of e3,cL eu,_,rfl,u,_,_,_,rfl,rfl,SqL.of hu,ec,?_⟩;refine⟨_,rfl,_,_,rfl,rfl,?_⟩;have ev:((cN R2 rank i pivot).getD rank []).getD i 0=ent R2 rank i:=by rw[oY (by rw[Sx.len];lia),if_pos rfl];rfl
   refine⟨sx.trans s3,l3,zs3,_,rank+1,ent R2 rank i,sg,some (.int (i:Int)),some (.int (p:Int)),z,?_,sx.free n3,e3,I3,S3,b3,hSt.cl _ _ _ _ _ Sx hrm (by lia) nx px⟩;rw[ev];rfl
  ·refine⟨_,rfl,_,rfl,gW ?_⟩;exact⟨s1,lR,zs',R',rank,pivot,sign,_,_,_,rfl,nR,eR,I1,S1.skip hz,sb.skip hz,p1⟩
 ·rintro σ H1 ⟨s1,lR,zs',R',rank,pivot,sign,z5,z6,z7,rfl,nR,eR,I1,S1,sb,p1⟩;obtain⟨bR,bP⟩:=sb.bd5 S1 hm31;obtain⟨A1,c1,B1,_⟩:=S1.bar;have rm:=B1.rm;intro d hd;have nd:lR≠d:=fun z=>by rw[z,hd] at eR;cases eR
  refine⟨_,rfl,_,rfl,_,rfl,_,rfl,aC,[(.inr "rows",.ref lR),(.inr "rank",.int (rank:Int)),(.inr "pivot",.int pivot),(.inr "sign",.int sign)],rfl,by show 4<=15;decide,?_⟩;have sd:bC H1 (upd (upd H1 d (.dK [])) d (Qn lR rank pivot sign)):=(aI hd _).change hd;exact q d lR zs' R' rank pivot sign _ (s1.trans sd) (s1.free hd) nR aC (sd _ _ eR) (I1.same sd) S1 bR bP p1
theorem rJ:(["row","side"]:List Str).Nodup:=by decide +kernel
theorem rL:(["row","many","end"]:List Str).Nodup:=by decide +kernel
abbrev mQ:Stmt:=top 51
theorem oR:aT ["matrix","right","many","rows","end"] ["matrix","right"] (aD mQ):=sK9
theorem Ld {dV:Value}(F:bZ K "solved" "solved" mQ dV f fd)(ml:mg "len"=none)(mz:mg "zip"=none)(G1:aP P w K mg base CX0 2 g1 gd1 ["some"] (Vb K))(b1:aQ K gd1 ["some"] [])(k1:kI9 K g1)(m1:mI9 mg "in_wholes" g1)(G2:aP P w K mg base CX0 3 g2 gd2 ["rows","width"] (Io K))(b2:aQ K gd2 ["rows","width"] [])(k2:kI9 K g2)(m2:mI9 mg "eliminated" g2)(G3:aP P w K mg base CX0 2 g3 gd3 ["top","bottom"] iW)(b3:aQ K gd3 ["top","bottom"] [])(k3:kI9 K g3)(m3:mI9 mg "fraction" g3) :
  aP P w K mg base CX 5 f fd ["matrix","right"] (qQ K):=by
 refine F.ok oR (fun vs H Q E h=>?_) fun _ A _ s H vs Q E hr h=>?_
 ·obtain⟨_,_,_,_,_,_,_,_,_,_,rfl,_⟩:=h;rfl
 obtain⟨g,bR,D0,H00,us,bs,X,qs,k,n,rfl,hU,hX,hB,hQ,ql,qL,qB,xP,xB,x4,hk,hBd,hn1,hnb,hz0,q⟩:=h;have hu:=Do hr;have r3:=hr.mono (show 3<=4 by lia);have r2:=hr.mono (show 2<=4 by lia);refine⟨_,(aB (aV (i:=2) oR.nd rfl (Or.inr rfl) (cI bV rfl ml PySem.boot_len (aA (pv 0) aE)))
  (aB (rY (i:=3) (nl:=2) (fr:=[]) (Nc:=["row","side"]) (cl:=[]) (g:=(Kz K 2 (kP (jQ 0) (kP (jQ 1) Ll)))) oR.nd rfl rfl rfl ⟨rfl,rfl,by decide +kernel,by decide +kernel,fun x c h=>(by cases h),gP rfl,rfl,fun i n h=>(by simp at h)⟩
    (Nv rfl mz rfl (aA (pv 0) (aA (pv 1) aE))) (fun C s3 H3 fp pins=>(nT rfl (eP (bU (i:=0) rJ rfl (Or.inl rfl)) (eP (bU (i:=1) rJ rfl (Or.inl rfl)) kE)))) (fun C s3 H3 fp pins=>gO)
    (fun C s3 H3 fp pins=>(aW (tF (K:=K) rfl) (aH G1 r2 rfl m1 k1 b1 .nil aK (aA (aZ uV (pv 0) (cU (aA (pv 1) aE))) aE)) aF (fun _ _=>rfl))) rfl)
  (aB (aV (i:=4) oR.nd rfl (Or.inr rfl) (aH G2 r3 rfl m2 k2 b2 .nil aK (aA (pv 3) (aA (pv 2) aE))))
  (aB (cD (bF yG (sQ hu (pv 4) cQ (fun _ _=>rfl)) (pv 2) (bG _)) (aG fH) bH)
  (aG (aX (hZ (nl:=1) (fr:=[2,4]) (Nc:=["row","many","end"]) (cl:=[("many",s.heap.objs.size+1),("end",s.heap.objs.size+2)]) rfl ⟨rfl,rfl,by decide +kernel,by decide +kernel,(fX rfl (fX rfl (rW))),gP rfl,rfl,fun i n h=>match i,h with | 0,h=>by cases h;exact⟨2,rfl,rfl,rfl,rfl,.inl rfl⟩ | 1,h=>by cases h;exact⟨4,rfl,rfl,rfl,rfl,.inl rfl⟩ | k+2,h=>by rw[show 1+(k+2)=k+3 by lia] at h;cases h⟩
    (dM (sQ hu (pv 4) cQ (fun _ _=>rfl))) (fun C s3 H3 fp pins=>(bU (i:=0) rL rfl (Or.inl rfl))) (fun C s3 H3 fp pins=>gO)
    (fun C s3 H3 fp pins=>(aH G3 r2 rfl m3 k3 b3 .nil aK (aA (aW (uE (K:=K) rfl) (pv 0) (pv 1) (fun _ _=>rfl)) (aA (sQ hu (pv 2) cQ (fun _ _=>rfl)) aE))))))))))),?_⟩
 have lu:=hX.length;have lb:=hQ.length;have hw:∀row∈X,row.length=X.length:=fun row h=>(xB row h).2;have qP:=qL.pos;have lA:=By ql;refine⟨_,rfl,g,us,rfl,.inl hU,?_⟩;refine⟨_,rfl,_,rfl,g,bR,rfl,⟨_,hU⟩,⟨_,hB⟩,fun D hD=>?_⟩;have sD:=aI hD (.lst []);refine Cu (xs:=us) (ys:=bs) (fun i zs H'=>bC H H'/\H' D=some (.lst zs)/\Imx D H' zs ((iH X qs).take i)) ⟨sD,aC,.nil⟩ (fun i zs H' h=>h.2.1) (fun i zs H' _ h=>⟨h.1.seq hU,h.1.seq hB⟩) ?_ ?_
 ·rintro i zs x y H1 T1 ex ey ⟨s1,e1,I1⟩ hT C hC;obtain⟨u,ys,row,rfl,er,_,_,hu',fu⟩:=hX.get ex;obtain⟨v,qv,rfl,eq,fv⟩:=hQ.get ey;have hi:i < X.length:=(List.getElem?_eq_some_iff.mp er).1;have mem:=mem_of_getElem? er;have memq:=mem_of_getElem? eq;obtain⟨rb,rl⟩:=xB row mem;have lys:=fu.length;have sT:=aI hT (.tup [.ref u,.ref v]);refine⟨T1,_,rfl,SqT.of aC,rfl,_,_,rfl,_,_,rfl,rfl,mX.1,mX.2,gW ?_⟩;generalize upd H1 T1 (.tup [.ref u,.ref v])=H2 at sT ⊢;have s2:=s1.trans sT;refine⟨_,rfl,_,rfl,zl9 1,fun lo hlo=>?_⟩;have s3:=aI hlo (.lst [.ref v]);have e3:upd H2 lo (.lst [.ref v]) lo=some (.lst [.ref v]):=aC;generalize upd H2 lo (.lst [.ref v])=H3 at s3 e3 ⊢;have s03:=s2.trans s3;refine⟨u,lo,_,_,rfl,rfl,s03 _ _ hu',e3,Nat.le_of_lt (bO (by simp only[length_cons,length_nil];lia)),fun p hp=>?_⟩;have s4:=aI hp (.lst (ys++[.ref v]));have e4:upd H3 p (.lst (ys++[.ref v])) p=some (.lst (ys++[.ref v])):=aC;generalize upd H3 p (.lst (ys++[.ref v]))=H4 at s4 e4 ⊢;have s04:=s03.trans s4;have s14:=sT.trans (s3.trans s4);refine⟨p,_,row++[qv],k,rfl,SqL.of e4,(fu.same s04).app (.cons (s04.fq fv) .nil),fun z hz=>?_,fun z hz=>?_,by rw[length_append];simp only[length_cons,length_nil];lia,by rw[length_append,rl];simp only[length_cons,length_nil];rw[show X.length+(0+1)=X.length+1 by lia];lia,fun t l H5 s5 nl ht hl=>?_⟩
  ·rcases mem_append.mp hz with z1 | z1
   ·exact xP row mem z z1
   ·have:z=qv:=by simpa using z1
    rw[this];exact qP qv memq
  ·rcases mem_append.mp hz with z1 | z1
   ·exact rb z z1
   ·have:z=qv:=by simpa using z1
    rw[this];exact qB qv memq
  have s15:=s14.trans s5;have e5:=s15 _ _ e1;have ne:l≠D:=fun z=>by rw[z,s14 _ _ e1] at nl;cases nl
  have lz:=I1.length;rw[length_take,lA] at lz;refine⟨t,_,_,_,rfl,rfl,ht,rfl,e5,bO (by lia),hC _ _ ⟨(s1.trans s15).change hD,aC,?_⟩⟩;have ee:(iH X qs).take (i+1)=(iH X qs).take i++[iw (row++[qv])]:=by
   rw[take_add_one];unfold iH kX;rw[getElem?_map,getElem?_zipWith,er,eq];rfl
  rw[ee];exact((I1.same s15).app (.cons ne hl .nil)).upd
 rintro zs H1 ⟨s1,e1,I1⟩;rw[show min us.length bs.length=(iH X qs).length by lia,take_length] at I1;have bits4:bw n X.length<=9000:=Nat.le_trans hnb (by decide);have wA:∀i,i < X.length->((iH X qs).getD i []).length=X.length+1:=fun i hi=>by
  rw[uT ql hi,tW,length_append,hw _ (mem_of_getElem? (wG hi))];rfl
 refine⟨_,rfl,_,rfl,D,D,zs,iH X qs,X.length,X.length+1,n,fun R=>Mq.KI X.length (Mq.at2 (iH X qs)) R/\Mq.KJ X.length (Mq.at2 (iH X qs)) R,by rw[lu];rfl,SqL.of e1,I1,lA,wA,by lia,by lia,hBd,hn1,by lia,by lia,⟨fun Φ _ hz=>hz,fun Φ _ hz=>hz⟩,Pu,fun d lE zE R' rank pivot sign H2 s2 nd nlE ed el IE SE bE bp LE=>?_⟩;obtain⟨g1',g2',g3',g4'⟩:=Co ed;have s02:=s1.trans s2;have wr:=Os xP qP ql hw SE;refine⟨_,rfl,d,_,rfl,g2',_,rfl,_,_,rfl,rfl,_,rfl,rK (fun e=>?_) (fun e=>?_)⟩
 ·-- lame
  have hr':rank < X.length:=by simp at e;lia
  have hz:wgt X=0:=by
   rcases wr with z | z
   ·exact z.2
   ·lia
  exact absurd hz hz0
 ·-- whole
  have hr':rank=X.length:=by
   rcases wr with z | z
   ·simp at e;lia
   ·exact z.1
  have hz:wgt X≠0:=by
   rcases wr with z | z
   ·lia
   ·exact z.2
  subst hr';have dn:=SE.dne;have pn:pivot≠0:=fun z=>dn (by rw[z];simp);have lzE:=IE.length;rw[SE.len] at lzE;refine⟨_,rfl,d,_,rfl,g1',lE,rfl,⟨_,SqL.of el⟩,fun D2 hD2=>?_⟩;have sD2:=aI hD2 (.lst []);refine gB (xs:=zE) (fun i ws H'=>bC H2 H'/\H' D2=some (.lst ws)/\Fqs K H' ws ((range i).map fun i=>red (ent R' i X.length) pivot)) ⟨sD2,aC,.nil⟩ (fun i ws H' h=>h.2.1) (fun i ws H' _ h=>h.1.seq (SqL.of el)) ?_ ?_
  ·rintro i ws x H3 hx ⟨s3,e3,F3⟩ C hC;have hi:i < X.length:=by have:=(List.getElem?_eq_some_iff.mp hx).1;lia
   obtain⟨u,eu,nu,hu2⟩:=IE.at (i:=i) (by rw[SE.len];exact hi);have exu:x=.ref u:=by rw[eu] at hx;cases hx;rfl
   subst exu;have wid:=SE.wid i hi;have lz:=F3.length;rw[length_map,length_range] at lz;have ea:=cL (kF (l:=R'.getD i []) (i:=X.length) (by lia));rw[<- lu] at ea;refine⟨gS.1,gS.2,gW ?_⟩;refine⟨_,rfl,_,rfl,u,_,_,_,rfl,rfl,SqL.of (s3 _ _ hu2),ea,?_⟩;rw[lu];refine⟨_,rfl,d,_,rfl,Co (s3 _ _ ed) |>.2.2.1,_,_,bw n X.length,rfl,pn,bp,bits4,fun r H4 s4 e4=>?_⟩;have eD:=s4 _ _ e3;refine⟨eD,bO (by lia),hC _ _ ⟨(s3.trans s4).change hD2,aC,?_⟩⟩;rw[range_succ,map_append];exact((F3.same s4).app (.cons (Fq.of e4) .nil)).upd eD
  rintro ws H3 ⟨s3,e3,F3⟩;rw[lzE] at F3;have gd:∀j,j < X.length->((range X.length).map fun i=>red (ent R' i X.length) pivot).getD j Mq.z0=red (ent R' j X.length) pivot:=fun j hj=>by
   rw[getD_eq_getElem?_getD,getElem?_map,getElem?_range hj];rfl
  refine q D2 ws _ H3 (s02.trans s3) (s02.free hD2) e3 F3 ⟨⟨by simp,fun p hp=>?_,fun p hp=>?_,fun i hi=>?_⟩,fun v hv j hj=>?_⟩ (Sn pn bp fun p hp=>by obtain⟨i,hi,rfl⟩:=mem_map.mp hp;exact⟨_,bE i X.length,rfl⟩)
  ·obtain⟨i,_,rfl⟩:=mem_map.mp hp;exact iA pn
  ·obtain⟨i,hi,rfl⟩:=mem_map.mp hp;have le:=kW (t:=ent R' i X.length) pn;exact⟨((bE i X.length).le le.1).mono bits4,(bp.le le.2).mono bits4⟩
  ·rw[<- Wu xP qP ql hw LE.1 SE hi];refine aS fun j hj=>?_;rw[gd j hj,jW pn];rfl
  ·rw[gd j hj,jW pn,<- Wd xP qP ql hw LE.2 SE hv hj];rfl
abbrev wHo:Kd->Bool:=fun k=>inV (.str k.wd) [.str "hold"]
def Mg (CN:Addr)(K:Frag):Sp:=fun vs H Q _=>∃(n l:Addr) (m:Nat) (ds:List RD),vs=[.ref n]/\dH CN K H n l (m:Int) ds/\(∀d∈ds,dC (m:Int) d.2.1 d.2.2.1)/\1<=m/\m<=20/\ds.length<=40/\(fA wHo (skl ds) ds.length).2=[]/\Kn m ds=[]/\∀H',bC H H'->Q .non H'
abbrev Le:Stmt:=top 67
theorem Lw:aT ["net","held","points"] ["net"] (aD Le):=sK9
theorem Yy {dV:Value}(F:bZ K "refuse_unanswered" "refuse_unanswered" Le dV f fd){CN:Addr}(ml:mg "len"=none)(G1:aP P w K mg base CX0 5 g1 gd1 ["net","words"] (He CN K))(b1:aQ K gd1 ["net","words"] [])(k1:kI9 K g1)(m1:mI9 mg "rings" g1)(G2:aP P w K mg base CX0 6 g2 gd2 ["net"] (Ib CN K))(b2:aQ K gd2 ["net"] [])(k2:kI9 K g2)(m2:mI9 mg "floating" g2) :
  aP P w K mg base CX 7 f fd ["net"] (Mg CN K):=by
 refine F.ok Lw (fun vs H Q E h=>?_) fun _ A _ s H vs Q E hr h=>?_
 ·obtain⟨_,_,_,_,rfl,_⟩:=h;rfl
 obtain⟨n,l,m,ds,rfl,nt,pt,mo,m20,h40,hR,hF,q⟩:=h;have r5:=hr.mono (show 5<=6 by lia);refine⟨_,(aB (aV (i:=1) Lw.nd rfl (Or.inl rfl) (aH G1 r5 rfl m1 k1 b1 .nil aK (aA (pv 0) (aA (cU (aA cQ aE)) aE))))
  (aB (cD (bF Id (cI bV rfl ml PySem.boot_len (aA (pv 1) aE)) aF (bG _)) (aG fH) bH)
  (aB (aV (i:=2) Lw.nd rfl (Or.inl rfl) (aH G2 hr rfl m2 k2 b2 .nil aK (aA (pv 0) aE)))
  (aG (cD (bF Id (cI bV rfl ml PySem.boot_len (aA (pv 2) aE)) aF (bG _)) (aG fH) bH))))),?_⟩
 refine⟨_,rfl,zl9 1,fun L hL=>?_⟩;have s1:=aI hL (.lst [.str "hold"]);have e1:upd H L (.lst [.str "hold"]) L=some (.lst [.str "hold"]):=aC;generalize upd H L (.lst [.str "hold"])=H1 at s1 e1 ⊢;refine⟨n,l,.ref L,m,ds,wHo,rfl,nt.same s1,pt,m20,h40,.seq (SqL.of e1) rfl,fun r us H2 s2 nr er G nx=>?_⟩;rw[hR] at G;have lu:us=[]:=eq_nil_of_length_eq_zero (by have:=G.l;simpa using this);subst lu;refine⟨_,rfl,r,_,rfl,.inl (SqL.of er),_,_,rfl,rfl,_,rfl,L2.ifF rfl ?_⟩;have s02:=s1.trans s2;refine⟨_,rfl,n,l,m,ds,rfl,nt.same s02,pt,mo,m20,by lia,fun l' H3 s3 nl e3=>?_⟩;rw[hF] at e3;refine⟨_,rfl,l',_,rfl,.inl (SqL.of e3),_,_,rfl,rfl,_,rfl,L2.ifF rfl ?_⟩;exact q H3 (s02.trans s3)
theorem sV {K:Frag}{H0 H:Hp}{D:Addr}:∀{us:List V} {X:List (List Q2)},Fms K H0 H us X->(∀x∈us,x≠.ref D)->Fmd K H0 D H us X
 | [],[],_,_=>.nil
 | [],_ :: _,h,_=>by have:=h.l;simp at this
 |_ :: _,[],h,_=>by have:=h.l;simp at this
 |x :: us,ps :: X,h,n=>by
  obtain⟨a,xs,rfl,n0,h1,h2⟩:=h.r 0 x ps rfl rfl;exact .cons n0 (fun z=>n _ (mem_cons_self ..) (by rw[z])) h1 h2 (sV ⟨by have:=h.l;simpa using this,fun i y qs e1 e2=>h.r (i+1) y qs (by simpa using e1) (by simpa using e2)⟩ fun y hy=>n y (mem_cons_of_mem _ hy))
theorem Eh (xs:List V)(k:Nat):kK xs none (some (k:Int))=xs.take k:=by
 unfold kK;have h1:HT.sIx xs.length 0 none=0:=rfl;have h2:HT.sIx xs.length xs.length (some (k:Int))=min k xs.length:=by simp[HT.sIx];lia
 rw[h1,h2,drop_zero,Nat.sub_zero,take_eq_take_iff];lia
theorem bQ.rtsI {K:Frag}{t C dx:Addr}{fs:List (Str × V)}{H H':Hp}(ht:H t=some (.ins C dx fs))(e:bQ t H H'):∀{xs:List V} {ds:List RD},Rts K H xs ds->Rts K H' xs ds
 |_,_,.nil=>.nil
 |_,_,.cons h f q=>.cons (bQ.seqTI ht e h) (bQ.seqTI ht e f) (bQ.rtsI ht e q)
theorem dH.xI {CN C dx:Addr}{K:Frag}{fs:List (Str × V)}{H H':Hp}{n l q:Addr}{m:Int}{ds:List RD}(hq:H q=some (.ins C dx fs))(e:bQ q H H')(ne:n≠q)(h:dH CN K H n l m ds):dH CN K H' n l m ds:=
 let ⟨⟨dx,a⟩,ts,b,c⟩:=h;⟨⟨dx,e _ _ a ne⟩,ts,e _ _ b (dD b hq (fun z=>by cases z)),bQ.rtsI hq e c⟩
theorem Xc {CN C dx:Addr}{K:Frag}{H:Hp}{n l q:Addr}{m:Int}{ds:List RD}(hq:H q=some (.ins C dx []))(h:dH CN K H n l m ds):n≠q:=fun z=>by
 obtain⟨dn,a⟩:=h.ob;rw[z,hq] at a;injection a with a
 injection a with _ _ a
 unfold gL at a;have:=bK ("kept":Str) "kept" (.ref l) (cP "point_count" (.int m) []);rw[<- a,if_pos rfl] at this
 cases this
theorem Fqs.drop {K:Frag}{H:Hp}:∀(k:Nat) {xs:List V} {ps:List Q2},Fqs K H xs ps->Fqs K H (xs.drop k) (ps.drop k)
 |0,_,_,h=>h
 |_+1,_,_,.nil=>.nil
 |k+1,_,_,.cons _ q=>Fqs.drop k q
theorem Fqs.take {K:Frag}{H:Hp}:∀(k:Nat) {xs:List V} {ps:List Q2},Fqs K H xs ps->Fqs K H (xs.take k) (ps.take k)
 |0,_,_,h=>.nil
 |_+1,_,_,.nil=>.nil
 |k+1,_,_,.cons f q=>.cons f (Fqs.take k q)
theorem zD (k:Kd):wHo k=true↔k=.ho:=by
 cases k
 ·exact⟨fun h=>absurd h (by decide +kernel),fun h=>by cases h⟩
 ·exact⟨fun h=>absurd h (by decide +kernel),fun h=>by cases h⟩
 ·exact⟨fun _=>rfl,fun _=>by decide +kernel⟩
theorem zX {m:Nat}{ds:List RD}(o:Nof m ds):Kn m ds=[]:=by
 unfold Kn;rw[filter_eq_nil_iff.mpr fun p hp=>?_]
 ·rfl
 ·have pm:=mem_range.mp hp;rw[(Pe o.pt pm (by have:=o.m1;lia)).mpr (o.cn p pm).symm];simp
theorem mB {H:Hp}{x dx C:Addr}(hx:H x=none)(hd:H dx=none):bC H (upd (upd H dx (.own x)) x (.ins C dx [])):=fun b o h=>by
 have n1:b≠x:=fun z=>by rw[z,hx] at h;cases h
 have n2:b≠dx:=fun z=>by rw[z,hd] at h;cases h
 rw[aY n1,aY n2];exact h
def Ef (CN:Addr)(K:Frag):Sp:=fun vs H Q _=>∃(n l g r D:Addr) (H0:Hp) (m b N:Nat) (L:Int) (ds:List RD) (us ys:List V) (X:List (List Q2)) (Y qs:List Q2),vs=[.ref n,.ref g,.ref r]/\dH CN K H n l (m:Int) ds/\SqL K H g us/\Fmd K H0 D H us X/\zI m ds N X Y/\EqB m b L ds/\SqL K H r ys/\Fqs K H ys qs/\qs.length=X.length/\(∀p∈qs,Q01 p)/\
 ∀t zs ps H',H t=none->bC H H'->H' t=some (.lst zs)->Fqs K H' zs (lvS m ps)->Wg X qs ps->Ovr (bw b (wd m ds)) ps->Q (.ref t) H'
def Mm (CN:Addr)(K:Frag):Sp:=fun vs H Q _=>∃(n l:Addr) (m b:Nat) (kb:Nat->Nat) (L:Int) (ds:List RD) (s g:Nat),vs=[.ref n,.int (s:Int),.int (g:Int)]/\Cr CN K H n l m b kb L ds/\s < m/\g < m/\
 ∀t zs hp v H',H t=none->bC H H'->H' t=some (.lst zs)->Fqs K H' zs hp->hp.length=m->gD hp->Ovr (bw b (wd m ds)) hp->wH m ds g s v->(∀p,p < m->val (hp.getD p (0,1))=v p)->Q (.ref t) H'
abbrev Ke:Stmt:=top 72
theorem qb1:aT ["net","matrix","right"] ["net","matrix","right"] (aD Ke):=sK9
theorem Vq {dV:Value}(F:bZ K "heights_by" "heights_by" Ke dV f fd){CN:Addr}(NTx:NT K mg CN){aN:Addr}(fN:∀H,Fq K H aN (0,1))(mNO:mI9 mg "NOUGHT" aN){gMa:Addr}{gdMa:FuncData}(GMa:aP P w K mg base CX0 1 gMa gdMa ["self"] (qK CN K))(bMa:aQ K gdMa ["self"] [])(mMa:dX K CN "many" gMa)(G1:aP P w K mg base CX0 5 g1 gd1 ["matrix","right"] (qQ K))(b1:aQ K gd1 ["matrix","right"] [])(k1:kI9 K g1)(m1:mI9 mg "solved" g1) :
  aP P w K mg base CX 6 f fd ["net","matrix","right"] (Ef CN K):=by
 refine F.ok qb1 (fun vs H Q E h=>?_) fun _ A _ s H vs Q E hr h=>?_
 ·obtain⟨_,_,_,_,_,_,_,_,_,_,_,_,_,_,_,_,rfl,_⟩:=h;rfl
 obtain⟨n,l,g,r,D,H0,m,b,N,L,ds,us,ys,X,Y,qs,rfl,nt,hg,FX,EO,EB,hr0,FQ,lq,h01,q⟩:=h;have r1:=hr.mono (show 1<=5 by lia);refine⟨_,(aG (aX (aZ uV (cU (aA (cT (v:=.ref aN) rfl mNO rfl) aE)) (fI iB (aH G1 hr rfl m1 k1 b1 .nil aK (aA (pv 1) (aA (pv 2) aE))) iM (fY (aZ iF (cC (pv 0) NTx.cl mMa GMa r1 bMa .nil aK) aF)))))),?_⟩;have lX:X.length=wd m ds:=EO.x.h;have lw:wd m ds=m - 1+bN ds:=rfl;have mo:=EB.o.m1;have w26:=EB.w26;refine⟨zl9 1,fun L1 hL1=>?_⟩;have s1:=aI hL1 (.lst [.ref aN]);have e1:upd H L1 (.lst [.ref aN]) L1=some (.lst [.ref aN]):=aC;generalize upd H L1 (.lst [.ref aN])=H1 at s1 e1 ⊢;refine⟨_,rfl,_,rfl,g,r,D,H0,us,ys,X,qs,b,b,rfl,s1.seq hg,FX.same s1,s1.seq hr0,FQ.same s1,lq,fun p hp=>(h01 p hp).1,fun p hp=>(h01 p hp).bd EB.b1,EqB.pos EO,fun row hr=>⟨fun p hp=>((EB.cell EO row hr).1 p hp).1,(EB.cell EO row hr).2⟩,by lia,by rw[lX];exact EB.hb,Ir (EqB.pos EO) (fun p hp=>(h01 p hp).1.pos) lq (fun row hr p hp=>((EB.cell EO row hr).1 p hp).2) (fun p hp=>(h01 p hp).ov EB.L1 EB.LB) EB.L1,EB.b1,by rw[lX];exact Nat.le_trans EB.hbw (by decide),EB.wgt EO,fun kn zk ps H2 s2 nkn ekn Fk SU OV=>?_⟩;rw[lX] at OV;have s02:=s1.trans s2;obtain⟨dn,hn⟩:=(nt.same s02).ob;have lps:ps.length=X.length:=SU.len;have lzk:=Fk.length;refine⟨_,rfl,n,dn,_,rfl,hn,cX _ _ (by decide +kernel) (by decide +kernel),n,l,_,ds,rfl,nt.same s02,_,_,rfl,rfl,?_⟩;have em:(m:Int) - 1=((m - 1:Nat):Int):=by lia
 refine⟨_,rfl,kn,zk,rfl,SqL.of ekn,fun S hS=>?_⟩;rw[em,Eh];have s3:=aI hS (.lst (zk.take (m - 1)));have e3:upd H2 S (.lst (zk.take (m - 1))) S=some (.lst (zk.take (m - 1))):=aC;generalize upd H2 S (.lst (zk.take (m - 1)))=H3 at s3 e3 ⊢;refine⟨L1,S,_,_,rfl,rfl,(s2.trans s3) _ _ e1,e3,Nat.le_of_lt (bO (by rw[length_take];simp only[length_cons,length_nil];lia)),fun V1 hV1=>?_⟩;have s4:=aI hV1 (.lst ([.ref aN]++zk.take (m - 1)));have e4:upd H3 V1 (.lst ([.ref aN]++zk.take (m - 1))) V1=some (.lst ([.ref aN]++zk.take (m - 1))):=aC;generalize upd H3 V1 (.lst ([.ref aN]++zk.take (m - 1)))=H4 at s4 e4 ⊢;exact q V1 _ ps H4 ((s02.trans s3).free hV1) (s02.trans (s3.trans s4)) e4 (.cons (fN _) (Fqs.take _ (Fk.same (s3.trans s4)))) SU OV
theorem qa5 (s g x:Nat):- dl s g x*val (1,1)=un g x - un s x:=by
 rw[Mq.uY];unfold dl un
 by_cases a:s=x<;>by_cases b:g=x
 ·rw[if_pos a,if_pos b,if_pos b.symm,if_pos a.symm];grind
 ·rw[if_pos a,if_neg b,if_neg (fun z=>b z.symm),if_pos a.symm];grind
 ·rw[if_neg a,if_pos b,if_pos b.symm,if_neg (fun z=>a z.symm)];grind
 ·rw[if_neg a,if_neg b,if_neg (fun z=>b z.symm),if_neg (fun z=>a z.symm)];grind
theorem Yd (g s x:Nat):∃a:Int,a.natAbs<=1/\un g x - un s x=(a:Rat) / ((1:Int):Rat):=by
 have one:((1:Int):Rat)=1:=rfl;unfold un
 by_cases a:x=g<;>by_cases b:x=s
 ·exact⟨0,by decide,by rw[if_pos a,if_pos b,one,show ((0:Int):Rat)=0 by rfl];grind⟩
 ·exact⟨1,by decide,by rw[if_pos a,if_neg b,one];grind⟩
 ·exact⟨-1,by decide,by rw[if_neg a,if_pos b,one,show ((-1:Int):Rat)=-1 by rfl];grind⟩
 ·exact⟨0,by decide,by rw[if_neg a,if_neg b,one,show ((0:Int):Rat)=0 by rfl];grind⟩
abbrev Kt:Stmt:=top 71
theorem Oz:aT ["net","start","goal","matrix","right"] ["net","start","goal"] (aD Kt):=sK9
theorem Wk {dV:Value}(F:bZ K "pushed_heights" "pushed_heights" Kt dV f fd){CN:Addr}(T:RT K mg CR CK)(ml:mg "len"=none){aN aO:Addr}(fN:∀H,Fq K H aN (0,1))(mNO:mI9 mg "NOUGHT" aN)(fO:∀H,Fq K H aO (1,1))(mON:mI9 mg "ONE" aO){gI:Addr}{gdI:FuncData}(GI:aP P w K mg base CX0 1 gI gdI ["self","start","goal","size"] (zN CK))(bI:aQ K gdI ["self","start","goal","size"] [])(MK:∀k,Mk K (CK k) gI)(G1:aP P w K mg base CX0 7 g1 gd1 ["net"] (Am CN K))(b1:aQ K gd1 ["net"] [])(k1:kI9 K g1)(m1:mI9 mg "equations" g1)(G2:aP P w K mg base CX0 5 g2 gd2 ["right","row"] (uL K CK))(b2:aQ K gd2 ["right","row"] [])(k2:kI9 K g2)(m2:mI9 mg "enter_push" g2)(G3:aP P w K mg base CX0 6 g3 gd3 ["net","matrix","right"] (Ef CN K))(b3:aQ K gd3 ["net","matrix","right"] [])(k3:kI9 K g3)(m3:mI9 mg "heights_by" g3) :
  aP P w K mg base CX 8 f fd ["net","start","goal"] (Mm CN K):=by
 refine F.ok Oz (fun vs H Q E h=>?_) fun _ A _ s H vs Q E hr h=>?_
 ·obtain⟨_,_,_,_,_,_,_,_,_,rfl,_⟩:=h;rfl
 obtain⟨n,l,m,b,kb,L,ds,s,g,rfl,NB,hs,hg,q⟩:=h;have r2:=hr.mono (show 2<=7 by lia);have r5:=hr.mono (show 5<=7 by lia);have r6:=hr.mono (show 6<=7 by lia);have r7:=hr;refine⟨_,(aB (aV (i:=3) Oz.nd rfl (Or.inl rfl) (aW bA (aH G1 r7 rfl m1 k1 b1 .nil aK (aA (pv 0) aE)) aF (fun _ _=>rfl)))
  (aB (aV (i:=4) Oz.nd rfl (Or.inl rfl) (aZ Ac (cU (aA (cT (v:=.ref aN) rfl mNO rfl) aE)) (aZ dR (cI bV rfl ml PySem.boot_len (aA (pv 3) aE)) aF)))
  (aB (bY (aH G2 r5 rfl m2 k2 b2 .nil aK (aA (pv 4) (aA (hV (MK .pu) GI r2 rfl (T.mK .pu) bI .nil aK (aA (pv 1) (aA (pv 2) (aA (cT (v:=.ref aO) rfl mON rfl) aE)))) aE))))
  (aG (aX (aH G3 r6 rfl m3 k3 b3 .nil aK (aA (pv 0) (aA (pv 3) (aA (fI iB (pv 4) (fY aF) iM) aE))))))))),?_⟩
 have EB:=NB.eb;have mo:=EB.o.m1;have w26:=EB.w26;refine⟨_,rfl,n,l,m,kb,ds,rfl,NB.nt,NB.ok,mo,NB.m20,NB.h40,NB.cu,fun tt p r us ys X Y H1 s1 et np nr ep er FM FY nx EO=>?_⟩;have lX:X.length=wd m ds:=EO.x.h;have lus:=FM.l;refine⟨tt,_,0,_,rfl,rfl,SqT.of et,rfl,?_⟩;obtain⟨W,hW⟩:∃W,W=wd m ds:=⟨_,rfl⟩
 rw[<- hW] at w26;have lusW:us.length=W:=by rw[lus,lX,hW]
 refine⟨zl9 1,fun l1 hl1=>?_⟩;have s2:=aI hl1 (.lst [.ref aN]);have e2:upd H1 l1 (.lst [.ref aN]) l1=some (.lst [.ref aN]):=aC;generalize upd H1 l1 (.lst [.ref aN])=H2 at s2 e2 ⊢;have eW:(us.length:Int)+1=((W+1:Nat):Int):=by lia
 refine⟨_,rfl,p,us,rfl,.inl (SqL.of (s2 _ _ ep)),_,_,rfl,rfl,l1,_,[.ref aN],rfl,rfl,e2,by lia,by lia,?_,fun Rr hR=>?_⟩
 ·rw[eW,Int.toNat_natCast,sizeLine_eq];simp only[length_cons,length_nil];lia
 rw[eW,Int.toNat_natCast,lT];have nR1:H1 Rr=none:=s2.free hR;have s3:=aI hR (.lst (replicate (W+1) (.ref aN)));have e3:upd H2 Rr (.lst (replicate (W+1) (.ref aN))) Rr=some (.lst (replicate (W+1) (.ref aN))):=aC;generalize upd H2 Rr (.lst (replicate (W+1) (.ref aN)))=H3 at s3 e3 ⊢;refine⟨_,rfl,_,rfl,_,rfl,fun x dx hx hdx nxd=>?_⟩;refine⟨x,dx,.pu,_,_,_,rfl,aC,rfl,?_⟩;have s4:bC H3 (upd (upd (upd H3 dx (.own x)) x (.ins (CK .pu) dx [])) x (.ins (CK .pu) dx (jN (.int (s:Int)) (.int (g:Int)) (.ref aO)))):=(mB (C:=CK .pu) hx hdx).change hx;have rw4:Rw CK (upd (upd (upd H3 dx (.own x)) x (.ins (CK .pu) dx [])) x (.ins (CK .pu) dx (jN (.int (s:Int)) (.int (g:Int)) (.ref aO)))) x .pu (.int (s:Int)) (.int (g:Int)) (.ref aO):=⟨dx,aC⟩
 generalize upd (upd (upd H3 dx (.own x)) x (.ins (CK .pu) dx [])) x (.ins (CK .pu) dx (jN (.int (s:Int)) (.int (g:Int)) (.ref aO)))=H4 at s4 rw4 ⊢;have ptW:dC ((W+1:Nat):Int) (s:Int) (g:Int):=by
  unfold wd at hW;exact⟨by lia,by lia,by lia,by lia⟩
 have ptm:dC (m:Int) (s:Int) (g:Int):=⟨by lia,by lia,by lia,by lia⟩
 refine⟨Rr,x,aO,_,replicate (W+1) (0,1),(.pu,(s:Int),(g:Int),(1,1)),W+1,1,1,rfl,s4 _ _ e3,lB (fN _) (W+1),Bs (W+1),rw4,fO _,ptW,gM,hG,by lia,fun ys' H5 sx5 eR5 F5=>?_⟩;obtain⟨lb5,v5⟩:=Vd (d:=(.pu,(s:Int),(g:Int),(1,1))) (h:=0) (m:=m) (Bs (W+1)) ptm (by unfold wd at hW;lia) rfl gM hG;have s15:bC H1 H5:=SX.same (s2.trans (s3.trans s4)) sx5 (fun c hc=>by rw[mem_singleton.mp hc];exact nR1);generalize pR (replicate (W+1) (0,1)) (.pu,(s:Int),(g:Int),(1,1))=rs at F5 lb5 v5;have v6:∀k,val (rs.getD k (0,1))=un g k - un s k:=fun k=>by
  rw[v5,qD,vB,<- qa5 s g k];show 0 + - dl ((s:Int)).toNat ((g:Int)).toNat k*val (1,1)=_;rw[Int.toNat_natCast,Int.toNat_natCast];grind
 have lrs:=lb5.w;refine⟨_,rfl,_,rfl,_,rfl,1,rfl,Rr,_,rfl,SqL.of eR5,fun S hS=>?_⟩;rw[Gw];have s6:=aI hS (.lst (ys'.drop 1));have e6:upd H5 S (.lst (ys'.drop 1)) S=some (.lst (ys'.drop 1)):=aC;generalize upd H5 S (.lst (ys'.drop 1))=H6 at s6 e6 ⊢;have s16:=s15.trans s6;have s06:=s1.trans s16;have gd:∀k,(rs.drop 1).getD k (0,1)=rs.getD (k+1) (0,1):=fun k=>by rw[getD_eq_getElem?_getD,getElem?_drop,Nat.add_comm,<- getD_eq_getElem?_getD]
 refine⟨n,l,p,S,p,H,m,b,_,L,ds,us,_,X,Y,rs.drop 1,rfl,NB.nt.same s06,SqL.of (s16 _ _ ep),(sV FM (fun x hx=>(nx x hx).1)).same s16,EO,EB,SqL.of e6,Fqs.drop1 (F5.same s6),by rw[length_drop,lrs,lX,<- hW];lia,fun pq hpq=>?_,fun t zs ps H7 nt7 s7 e7 F7 SU OV=>?_⟩
 ·obtain⟨k,hk⟩:=getElem?_of_mem hpq;rw[getElem?_drop] at hk;have lo:=(lb5.l pq (mem_of_getElem? hk)).1;have ev:=v6 (1+k);rw[getD_eq_getElem?_getD,hk] at ev;obtain⟨a0,ha0,ea⟩:=Yd g s (1+k);obtain⟨d1,t1⟩:=Eb lo (show (1:Int)<=1 by decide) (ev.trans ea);have:=Int.le_of_dvd (by decide) d1;have:=lo.pos;exact⟨lo,by lia,by lia⟩
 ·have lps:ps.length=X.length:=SU.len;have lm:m - 1<=ps.length:=by rw[lps,lX];unfold wd;lia
  refine q t zs (lvS m ps) (uP ps) H7 (s06.free nt7) (s06.trans s7) e7 F7 (Az mo lm) (Ao SU.low) (Em OV) (EqB.sol EO SU fun i hi=>?_) (fun k hk=>Ho lm hk);show val ((rs.drop 1).getD i (0,1))=_;rw[gd,v6]
def Uz (CN:Addr)(K:Frag):Sp:=fun vs H Q _=>∃(n l:Addr) (m b:Nat) (kb:Nat->Nat) (L:Int) (ds:List RD) (k:Nat) (d:RD),vs=[.ref n,.int (k:Int)]/\Cr CN K H n l m b kb L ds/\ds[k]?=some d/\d.1=.ho/\
 ∀t zs hp v H',H t=none->bC H H'->H' t=some (.lst zs)->Fqs K H' zs hp->hp.length=m->gD hp->Ovr (bw b (wd m ds)) hp->Sv m ds (un (m+bN (ds.take k))) v->(∀p,p < m->val (hp.getD p (0,1))=v p)->Q (.ref t) H'
def Gr (CN:Addr)(K:Frag):Sp:=fun vs H Q _=>∃(n l:Addr) (m b:Nat) (kb:Nat->Nat) (L:Int) (ds:List RD) (k:Nat) (d:RD),vs=[.ref n,.int (k:Int)]/\Cr CN K H n l m b kb L ds/\ds[k]?=some d/\
 ∀t zs hp v H',H t=none->bC H H'->H' t=some (.lst zs)->Fqs K H' zs hp->hp.length=m->gD hp->Ovr (bw b (wd m ds)) hp->Sv m ds (shR m ds k d) v->(∀p,p < m->val (hp.getD p (0,1))=v p)->Q (.ref t) H'
abbrev Kk:Stmt:=top 75
theorem Gj:aT ["net","k","matrix","right","ahead"] ["net","k"] (aD Kk):=sK9
theorem We {dV:Value}(F:bZ K "held_heights" "held_heights" Kk dV f fd){CN:Addr}(NTx:NT K mg CN)(T:RT K mg CR CK)(ml:mg "len"=none){aN aO:Addr}(fN:∀H,Fq K H aN (0,1))(mNO:mI9 mg "NOUGHT" aN)(fO:∀H,Fq K H aO (1,1))(mON:mI9 mg "ONE" aO)(GW:∀k,aP P w K mg base CX0 1 (fW k) (fdW k) ["self"] (jE k))(bW:∀k,aQ K (fdW k) ["self"] [])(mW:∀k,dX K (CK k) "word" (fW k)){gMa:Addr}{gdMa:FuncData}(GMa:aP P w K mg base CX0 1 gMa gdMa ["self"] (qK CN K))(bMa:aQ K gdMa ["self"] [])(mMa:dX K CN "many" gMa){gRo:Addr}{gdRo:FuncData}(GRo:aP P w K mg base CX0 4 gRo gdRo ["self"] (lK CN K CK))(bRo:aQ K gdRo ["self"] [])(mRo:dX K CN "rows" gRo)(G1:aP P w K mg base CX0 7 g1 gd1 ["net"] (Am CN K))(b1:aQ K gd1 ["net"] [])(k1:kI9 K g1)(m1:mI9 mg "equations" g1)(G3:aP P w K mg base CX0 6 g3 gd3 ["net","matrix","right"] (Ef CN K))(b3:aQ K gd3 ["net","matrix","right"] [])(k3:kI9 K g3)(m3:mI9 mg "heights_by" g3) :
  aP P w K mg base CX 8 f fd ["net","k"] (Uz CN K):=by
 refine F.ok Gj (fun vs H Q E h=>?_) fun _ A _ s H vs Q E hr h=>?_
 ·obtain⟨_,_,_,_,_,_,_,_,_,rfl,_⟩:=h;rfl
 obtain⟨n,l,m,b,kb,L,ds,k,d0,rfl,NB,hk,hd0,q⟩:=h;have r1:=hr.mono (show 1<=7 by lia);have r4:=hr.mono (show 4<=7 by lia);have r6:=hr.mono (show 6<=7 by lia);have r7:=hr;refine⟨_,(aB (aV (i:=2) Gj.nd rfl (Or.inl rfl) (aW bA (aH G1 r7 rfl m1 k1 b1 .nil aK (aA (pv 0) aE)) aF (fun _ _=>rfl)))
  (aB (aV (i:=3) Gj.nd rfl (Or.inl rfl) (aZ Ac (cU (aA (cT (v:=.ref aN) rfl mNO rfl) aE)) (cI bV rfl ml PySem.boot_len (aA (pv 2) aE))))
  (aB (rY (i:=4) (nl:=1) (fr:=[]) (Nc:=["row"]) (cl:=[]) Gj.nd rfl rfl rfl ⟨rfl,rfl,by decide +kernel,by decide +kernel,fun x c h=>(by cases h),gP rfl,rfl,fun i n h=>(by simp at h)⟩
    (dM (fI iB (cC (pv 0) NTx.cl mRo GRo r4 bRo .nil aK) iM (fY (pv 1)))) (fun C s3 H3 fp pins=>(bU (i:=0) Og rfl (Or.inl rfl))) (fun C s3 H3 fp pins=>(zH (bF eZ (dZ (pv 0) T.cl mW GW r1 bW .nil aK) cQ (bG _))))
    (fun C s3 H3 fp pins=>(pv 0)) rfl)
  (aB (oC (cT (v:=.ref aO) rfl mON rfl) (nU (pv 3) (aZ dR (aZ iF (cC (pv 0) NTx.cl mMa GMa r1 bMa .nil aK) aF) (cI bV rfl ml PySem.boot_len (aA (pv 4) aE))) jC))
  (aG (aX (aH G3 r6 rfl m3 k3 b3 .nil aK (aA (pv 0) (aA (pv 2) (aA (pv 3) aE)))))))))),?_⟩
 have EB:=NB.eb;have mo:=EB.o.m1;have w26:=EB.w26;have h40:=NB.h40;have hkl:=(List.getElem?_eq_some_iff.mp hk).1;have hcl:=Wc hk hd0;refine⟨_,rfl,n,l,m,kb,ds,rfl,NB.nt,NB.ok,mo,NB.m20,NB.h40,NB.cu,fun tt p r us ys X Y H1 s1 et np nr ep er FM FY nx EO=>?_⟩;have lX:X.length=wd m ds:=EO.x.h;have lus:=FM.l;refine⟨tt,_,0,_,rfl,rfl,SqT.of et,rfl,?_⟩;obtain⟨W,hW⟩:∃W,W=wd m ds:=⟨_,rfl⟩
 rw[<- hW] at w26;have lusW:us.length=W:=by rw[lus,lX,hW]
 refine⟨zl9 1,fun l1 hl1=>?_⟩;have s2:=aI hl1 (.lst [.ref aN]);have e2:upd H1 l1 (.lst [.ref aN]) l1=some (.lst [.ref aN]):=aC;generalize upd H1 l1 (.lst [.ref aN])=H2 at s2 e2 ⊢;have eW:(us.length:Int)=((W:Nat):Int):=by lia
 refine⟨_,rfl,p,us,rfl,.inl (SqL.of (s2 _ _ ep)),l1,_,[.ref aN],rfl,rfl,e2,by lia,by lia,?_,fun Rr hR=>?_⟩
 ·rw[eW,Int.toNat_natCast,sizeLine_eq];simp only[length_cons,length_nil];lia
 rw[eW,Int.toNat_natCast,lT];have nR1:H1 Rr=none:=s2.free hR;have s3:=aI hR (.lst (replicate W (.ref aN)));have e3:upd H2 Rr (.lst (replicate W (.ref aN))) Rr=some (.lst (replicate W (.ref aN))):=aC;generalize upd H2 Rr (.lst (replicate W (.ref aN)))=H3 at s3 e3 ⊢;have s13:=s2.trans s3;have s03:=s1.trans s13;obtain⟨dn,hn⟩:=(NB.nt.same s03).ob;refine⟨_,rfl,n,dn,_,rfl,hn,cX _ _ (by decide +kernel) (by decide +kernel),n,l,_,ds,rfl,NB.nt.same s03,by lia,fun ra xs H4 s4 na ea Rb=>?_⟩;have lxs:=Rb.length;refine⟨_,rfl,(k:Int),rfl,ra,xs,rfl,SqL.of ea,fun S hS=>?_⟩;rw[Eh];have s5:=aI hS (.lst (xs.take k));have e5:upd H4 S (.lst (xs.take k)) S=some (.lst (xs.take k)):=aC;generalize upd H4 S (.lst (xs.take k))=H5 at s5 e5 ⊢;refine⟨S,rfl,⟨_,SqL.of e5⟩,fun C0 hC0=>?_⟩;have sC0:=aI hC0 (.lst []);refine gB (xs:=xs.take k) (fun i zs H'=>bC H5 H'/\H' C0=some (.lst zs)/\zs.length=bN (ds.take i)) ⟨sC0,aC,rfl⟩ (fun i zs H' h=>h.2.1) (fun i zs H' _ h=>h.1.seq (SqL.of e5)) ?_ ?_
 ·rintro i zs x H6 hx ⟨s6,e6,lz⟩ C hC;have hi:i < ds.length:=by
   have:=(List.getElem?_eq_some_iff.mp hx).1;rw[length_take] at this;lia
  have ik:i < k:=by
   have:=(List.getElem?_eq_some_iff.mp hx).1;rw[length_take] at this;lia
  rw[getElem?_take_of_lt ik] at hx;obtain⟨⟨k0,u,v,p⟩,hd⟩:∃d,ds[i]?=some d:=⟨_,getElem?_eq_getElem hi⟩
  obtain⟨y,z,ey,rw,fz⟩:=Rb.at hd;have ex:x=.ref y:=by rw[ey] at hx;exact(Option.some.inj hx).symm
  subst ex;obtain⟨dr,hy⟩:=id (rw.same (s5.trans s6));have et:ds.take (i+1)=ds.take i++[(k0,u,v,p)]:=by rw[take_add_one,hd];rfl
  have lh:=Ev (ds:=ds) i;have lh2:bN ds<=ds.length:=length_filter_le _ _;refine⟨gS.1,gS.2,?_⟩;refine⟨_,rfl,k0,y,dr,_,rfl,hy,(cV _ _ _ (by decide +kernel) (by decide +kernel) (by decide +kernel)),_,rfl,rfl,_,rfl,?_⟩
  by_cases hk:k0=.ho
  ·refine L2.ifT (by show decide (V.str k0.wd=V.str Kd.ho.wd)=true;rw[cZ];exact decide_eq_true hk) ⟨_,rfl,e6,bO (by lia),hC _ _ ⟨s6.change hC0,aC,?_⟩⟩;rw[et,fK,length_append,lz];show _+1=_+cA k0;unfold cA;rw[if_pos hk]
  ·refine L2.ifF (by show decide (V.str k0.wd=V.str Kd.ho.wd)=false;rw[cZ];exact decide_eq_false hk) (hC _ _ ⟨s6,e6,?_⟩);rw[et,fK,lz];show _=_+cA k0;unfold cA;rw[if_neg hk];rfl
 ·rintro zs H6 ⟨s6,e6,lz⟩;have lz:zs.length=bN (ds.take k):=by rw[lz,length_take,show min k xs.length=k by lia]
  have s36:=s4.trans (s5.trans s6);have s06:=s03.trans s36;obtain⟨dn6,hn6⟩:=(NB.nt.same s06).ob;obtain⟨ix,hix⟩:∃ix,ix=m - 1+bN (ds.take k):=⟨_,rfl⟩
  have ixW:ix < W:=by unfold wd at hW;lia
  have eR6:=s36 _ _ e3;have eix:(m:Int) - 1+(zs.length:Int)=(ix:Int):=by lia
  refine⟨_,rfl,_,rfl,n,dn6,_,rfl,hn6,cX _ _ (by decide +kernel) (by decide +kernel),n,l,_,ds,rfl,NB.nt.same s06,_,_,rfl,rfl,_,rfl,C0,zs,rfl,.inl (SqL.of e6),_,_,rfl,rfl,?_⟩;refine⟨Rr,_,(ix:Int),ix,rfl,congrArg V.int eix,eR6,jX (by rw[length_replicate];exact ixW),?_⟩;have s17:bC H1 (upd H6 Rr (.lst ((replicate W (V.ref aN)).set ix (.ref aO)))):=(s13.trans s36).change nR1;have F6:Fqs K H6 ((replicate W (V.ref aN)).set ix (.ref aO)) ((replicate W (0,1)).set ix (1,1)):=Fqs.set (fO _) ix (lB (fN _) W);have F7:=Fqs.upd (o:=.lst ((replicate W (V.ref aN)).set ix (.ref aO))) eR6 F6;have e7:upd H6 Rr (.lst ((replicate W (V.ref aN)).set ix (.ref aO))) Rr=some (.lst ((replicate W (V.ref aN)).set ix (.ref aO))):=aC;generalize upd H6 Rr (.lst ((replicate W (V.ref aN)).set ix (.ref aO)))=H7 at s17 F7 e7 ⊢;have s07:=s1.trans s17;refine⟨_,rfl,_,rfl,_,rfl,n,l,p,Rr,p,H,m,b,_,L,ds,us,_,X,Y,(replicate W (0,1)).set ix (1,1),rfl,NB.nt.same s07,SqL.of (s17 _ _ ep),(sV FM (fun x hx=>(nx x hx).1)).same s17,EO,EB,SqL.of e7,F7,by rw[length_set,length_replicate,lX,hW],fun pq hpq=>?_,fun t zs ps H8 nt8 s8 e8 F8 SU OV=>?_⟩
  ·rcases mem_or_eq_of_mem_set hpq with z | z
   ·rw[eq_of_mem_replicate z];exact⟨⟨by decide,by decide⟩,rfl,by decide⟩
   ·rw[z];exact⟨gM,rfl,by decide⟩
  ·have lps:ps.length=X.length:=SU.len;have lm:m - 1<=ps.length:=by rw[lps,lX];unfold wd;lia
   refine q t zs (lvS m ps) (uP ps) H8 (s07.free nt8) (s07.trans s8) e8 F8 (Az mo lm) (Ao SU.low) (Em OV) (EqB.sol EO SU fun i hi=>?_) (fun k hk=>Ho lm hk);unfold un;rw[getD_eq_getElem?_getD,getElem?_set]
   by_cases c:ix=i
   ·rw[if_pos c,if_pos (by rw[length_replicate];exact ixW),if_pos (by lia)];exact Mq.uY
   ·rw[if_neg c,if_neg (by lia),getElem?_replicate,if_pos (by lia)];exact vB
abbrev qR:Stmt:=top 74
theorem Gp:aT ["net","k","row"] ["net","k"] (aD qR):=sK9
theorem Po {dV:Value}(F:bZ K "shape_of" "shape_of" qR dV f fd){CN:Addr}(NTx:NT K mg CN)(T:RT K mg CR CK)(GW:∀k,aP P w K mg base CX0 1 (fW k) (fdW k) ["self"] (jE k))(bW:∀k,aQ K (fdW k) ["self"] [])(mW:∀k,dX K (CK k) "word" (fW k)){gCo:Addr}{gdCo:FuncData}(GCo:aP P w K mg base CX0 1 gCo gdCo ["self"] (Ht CN K))(bCo:aQ K gdCo ["self"] [])(mCo:dX K CN "count" gCo){gRo:Addr}{gdRo:FuncData}(GRo:aP P w K mg base CX0 4 gRo gdRo ["self"] (lK CN K CK))(bRo:aQ K gdRo ["self"] [])(mRo:dX K CN "rows" gRo)(G1:aP P w K mg base CX0 3 g1 gd1 ["k","count"] Yj)(b1:aQ K gd1 ["k","count"] [])(k1:kI9 K g1)(m1:mI9 mg "refuse_number" g1)(G2:aP P w K mg base CX0 7 g2 gd2 ["net"] (Mg CN K))(b2:aQ K gd2 ["net"] [])(k2:kI9 K g2)(m2:mI9 mg "refuse_unanswered" g2)(G3:aP P w K mg base CX0 8 g3 gd3 ["net","k"] (Uz CN K))(b3:aQ K gd3 ["net","k"] [])(k3:kI9 K g3)(m3:mI9 mg "held_heights" g3)(G4:aP P w K mg base CX0 8 g4 gd4 ["net","start","goal"] (Mm CN K))(b4:aQ K gd4 ["net","start","goal"] [])(k4:kI9 K g4)(m4:mI9 mg "pushed_heights" g4) :
  aP P w K mg base CX 9 f fd ["net","k"] (Gr CN K):=by
 refine F.ok Gp (fun vs H Q E h=>?_) fun _ A _ s H vs Q E hr h=>?_
 ·obtain⟨_,_,_,_,_,_,_,_,_,rfl,_⟩:=h;rfl
 obtain⟨n,l,m,b,kb,L,ds,k,⟨kd,u,v,p⟩,rfl,NB,hk,q⟩:=h;have r1:=hr.mono (show 1<=8 by lia);have r3:=hr.mono (show 3<=8 by lia);have r4:=hr.mono (show 4<=8 by lia);have r7:=hr.mono (show 7<=8 by lia);refine⟨_,(aB (bY (aH G1 r3 rfl m1 k1 b1 .nil aK (aA (pv 1) (aA (cC (pv 0) NTx.cl mCo GCo r1 bCo .nil aK) aE))))
  (aB (bY (aH G2 r7 rfl m2 k2 b2 .nil aK (aA (pv 0) aE)))
  (aB (aV (i:=2) Gp.nd rfl (Or.inl rfl) (aW bX (cC (pv 0) NTx.cl mRo GRo r4 bRo .nil aK) (pv 1) (fun _ _=>rfl)))
  (aB (cD (bF eZ (dZ (pv 2) T.cl mW GW r1 bW .nil aK) cQ (bG _)) (aG (aX (aH G3 hr rfl m3 k3 b3 .nil aK (aA (pv 0) (aA (pv 1) aE))))) bH)
  (aG (aX (aH G4 hr rfl m4 k4 b4 .nil aK (aA (pv 0) (aA (bL (pv 2) rfl) (aA (bL (pv 2) rfl) aE)))))))))),?_⟩
 have EB:=NB.eb;have mo:=EB.o.m1;have m20:=NB.m20;have h40:=NB.h40;have hkl:=(List.getElem?_eq_some_iff.mp hk).1;obtain⟨u0,u1,v0,v1⟩:dC (m:Int) u v:=EB.o.pt _ (mem_of_getElem? hk);obtain⟨uN,rfl⟩:∃uN:Nat,u=(uN:Int):=⟨u.toNat,by lia⟩
 obtain⟨vN,rfl⟩:∃vN:Nat,v=(vN:Int):=⟨v.toNat,by lia⟩
 obtain⟨dn,hn⟩:=NB.nt.ob;refine⟨_,rfl,_,rfl,n,dn,_,rfl,hn,cX _ _ (by decide +kernel) (by decide +kernel),n,l,_,ds,rfl,NB.nt,(k:Int),(ds.length:Int),rfl,by lia,by lia,?_⟩;refine⟨_,rfl,n,l,m,ds,rfl,NB.nt,EB.o.pt,mo,m20,NB.h40,lV zD EB.o.pt m20 EB.o.fr _ (Nat.le_refl _),zX EB.o,fun H1 s1=>?_⟩;obtain⟨dn1,hn1⟩:=(NB.nt.same s1).ob;refine⟨_,rfl,n,dn1,_,rfl,hn1,cX _ _ (by decide +kernel) (by decide +kernel),n,l,_,ds,rfl,NB.nt.same s1,by lia,fun ra xs H2 s2 na ea Rb=>?_⟩;have s02:=s1.trans s2;obtain⟨y,z,ey,rw,fz⟩:=Rb.at hk;refine⟨_,rfl,ra,xs,_,_,rfl,rfl,SqL.of ea,cL ey,?_⟩;obtain⟨dy,hy⟩:=rw
 by_cases hh:kd=.ho
 ·refine⟨_,rfl,kd,y,dy,_,rfl,hy,(cV _ _ _ (by decide +kernel) (by decide +kernel) (by decide +kernel)),_,rfl,rfl,_,rfl,L2.ifT (by show decide (V.str kd.wd=V.str Kd.ho.wd)=true;rw[cZ];exact decide_eq_true hh) ?_⟩;refine⟨_,rfl,_,rfl,n,l,m,b,kb,L,ds,k,_,rfl,NB.same s02,hk,hh,fun t zs hp v H3 nt3 s3 e3 F3 lh lo OV SV hv=>?_⟩;exact q t zs hp v H3 (s02.free nt3) (s02.trans s3) e3 F3 lh lo OV (by rw[show shR m ds k (kd,(uN:Int),(vN:Int),p)=un (m+bN (ds.take k)) from funext fun x=>if_pos hh];exact SV) hv
 ·refine⟨_,rfl,kd,y,dy,_,rfl,hy,(cV _ _ _ (by decide +kernel) (by decide +kernel) (by decide +kernel)),_,rfl,rfl,_,rfl,L2.ifF (by show decide (V.str kd.wd=V.str Kd.ho.wd)=false;rw[cZ];exact decide_eq_false hh) ?_⟩;refine⟨_,rfl,_,rfl,y,CK _,_,_,_,rfl,hy,T.cl _,T.nG _,dS _ _ _,_,rfl,y,CK _,_,_,_,rfl,hy,T.cl _,T.nS _,dF _ _ _,?_⟩;refine⟨n,l,m,b,kb,L,ds,vN,uN,rfl,NB.same s02,by lia,by lia,fun t zs hp v H3 nt3 s3 e3 F3 lh lo OV SV hv=>?_⟩;exact q t zs hp v H3 (s02.free nt3) (s02.trans s3) e3 F3 lh lo OV (by rw[show shR m ds k (kd,(uN:Int),(vN:Int),p)=fun x=>un uN x - un vN x from funext fun x=>if_neg hh];exact SV) hv
def vC (K:Frag)(CK:Kd->Addr)(k:Kd):Sp:=fun vs H Q _=>∃(x z a h:Addr) (s g:V) (p u v:Q2) (n m:Nat),vs=[.ref x,.ref a,.ref h]/\Rw CK H x k s g (.ref z)/\Fq K H z p/\Fq K H a u/\Fq K H h v/\1<=p.2/\1<=u.2/\Bd n p/\Bd m u/\n+m+1<=9000/\(k=.pc->0 < p.1)/\
 ∀r H',bC H H'->Fq K H' r (Ks k u v p)->Q (.ref r) H'
abbrev hJ:Stmt:=cO (top 36) 3
theorem Cm:aT ["self","fall","held"] ["self","fall","held"] (aD hJ):=sK9
theorem Bo {dV:Value}(F:bZ K "stream" "Piece.stream" hJ dV f fd)(T:RT K mg CR CK)(G1:aP P w K mg base CX0 3 g1 gd1 ["one","other"] (zY K))(b1:aQ K gd1 ["one","other"] [])(k1:kI9 K g1)(m1:mI9 mg "over" g1):aP P w K mg base CX 4 f fd ["self","fall","held"] (vC K CK .pc):=by
 refine F.ok Cm (fun vs H Q E h=>?_) fun _ A _ s H vs Q E hr h=>?_
 ·obtain⟨_,_,_,_,_,_,_,_,_,_,_,rfl,_⟩:=h;rfl
 obtain⟨x,z,a,h,s,g,p,u,v,n,m,rfl,⟨dx,hx⟩,fz,fa,fh,hp,hu,bp,bu,hn,h0,q⟩:=h;refine⟨_,(aG (aX (aH G1 hr rfl m1 k1 b1 .nil aK (aA (pv 1) (aA (bL (pv 0) rfl) aE))))),?_⟩;exact⟨_,rfl,_,rfl,x,CK .pc,dx,_,_,rfl,hx,T.cl _,T.nZ _,eU _ _ _,a,z,u,p,m,n,rfl,fa,fz,hu,hp,h0 rfl,bu,bp,by lia,fun r H1 s1 e1=>q r H1 s1 (Fq.of e1)⟩
abbrev gU:Stmt:=cO (top 37) 3
theorem Cv:aT ["self","fall","held"] ["self","fall","held"] (aD gU):=sK9
theorem zR {dV : Value}(F : bZ K "stream" "Push.stream" gU dV f fd)(T : RT K mg CR CK)
     : aP P w K mg base CX 4 f fd ["self", "fall", "held"] (vC K CK .pu) := by
  refine F.ok Cv (fun vs H Q E h => ?_) (fun _ A _ s H vs Q E hr h => ?_)
  · obtain ⟨x, z, a, h, s, g, p, u, v, n, m, rfl, _⟩ := h
    rfl
  obtain ⟨x, z, a, h, s, g, p, u, v, n, m, rfl, ⟨dx, hx⟩, fz, fa, fh, hp, hu, bp, bu, hn, h0, q⟩ := h;refine ⟨_, (aG (aX (bL (pv 0) rfl))), ?_⟩;exact ⟨_, rfl, x, CK .pu, dx, _, _, rfl, hx, T.cl _, T.nZ _, eU _ _ _, q z H (bC.refl H) fz⟩
abbrev gV:Stmt:=cO (top 38) 3
theorem Dq:aT ["self","fall","held"] ["self","fall","held"] (aD gV):=sK9
theorem zF {dV : Value}(F : bZ K "stream" "Hold.stream" gV dV f fd)(T : RT K mg CR CK)
     : aP P w K mg base CX 4 f fd ["self", "fall", "held"] (vC K CK .ho) := by
  refine F.ok Dq (fun vs H Q E h => ?_) (fun _ A _ s H vs Q E hr h => ?_)
  · obtain ⟨x, z, a, h, s, g, p, u, v, n, m, rfl, _⟩ := h
    rfl
  obtain ⟨x, z, a, h, s, g, p, u, v, n, m, rfl, ⟨dx, hx⟩, fz, fa, fh, hp, hu, bp, bu, hn, h0, q⟩ := h;refine ⟨_, (aG (aX (pv 2))), ?_⟩;exact ⟨_, rfl, q h H (bC.refl H) fh⟩
abbrev yD:Stmt:=top 40
theorem Yo:aT ["row","heights"] ["row","heights"] (aD yD):=sK9
theorem Sa {dV:Value}(F:bZ K "fall_of" "fall_of" yD dV f fd)(T:RT K mg CR CK)(G1:aP P w K mg base CX0 3 g1 gd1 ["one","other"] (jF K Mq.minus))(b1:aQ K gd1 ["one","other"] [])(k1:kI9 K g1)(m1:mI9 mg "minus" g1) :
  aP P w K mg base CX 4 f fd ["row","heights"] (Bm K CK):=by
 refine F.ok Yo (fun vs H Q E h=>?_) fun _ A _ s H vs Q E hr h=>?_
 ·obtain⟨_,_,_,_,_,_,_,rfl,_⟩:=h;rfl
 obtain⟨x,a,⟨k,i,j,p⟩,z,xs,hp,n,rfl,rw,st,pt,q⟩:=h;refine⟨_,(aG (aX (aH G1 hr rfl m1 k1 b1 .nil aK (aA (aW bX (pv 1) (bL (pv 0) rfl) (fun _ _=>rfl)) (aA (aW bX (pv 1) (bL (pv 0) rfl) (fun _ _=>rfl)) aE))))),?_⟩;obtain⟨dx,hx⟩:=id rw;obtain⟨i0,i1,j0,j1⟩:dC (n:Int) i j:=pt;have hl:=st.l;have ai:=tK (ps:=hp) (j:=i.toNat) (by lia);have aj:=tK (ps:=hp) (j:=j.toNat) (by lia);obtain⟨u,eu,fu⟩:=st.f.at ai;obtain⟨v,ev,fv⟩:=st.f.at aj;have ti:atI xs i=some (.ref u):=by
  have:=cL eu
  rwa [show ((i.toNat:Nat):Int)=i by lia] at this
 have tj:atI xs j=some (.ref v):=by
  have:=cL ev
  rwa [show ((j.toNat:Nat):Int)=j by lia] at this
 refine⟨_,rfl,_,rfl,x,CK _,_,_,_,rfl,hx,T.cl _,T.nS _,dF _ _ _,a,xs,_,_,rfl,rfl,st.s,ti,?_⟩;refine⟨_,rfl,_,rfl,x,CK _,_,_,_,rfl,hx,T.cl _,T.nG _,dS _ _ _,a,xs,_,_,rfl,rfl,st.s,tj,?_⟩;have bi:=st.b _ (mem_of_getElem? ai);have bj:=st.b _ (mem_of_getElem? aj);exact⟨u,v,_,_,3900,3900,rfl,fu,fv,bi.1.pos,bj.1.pos,bi.2,bj.2,by lia,q⟩
def Gu (K:Frag)(CK:Kd->Addr):Sp:=fun vs H Q _=>∃(a b h:Addr) (xs ls ys:List V) (ds:List RD) (lv hs:List Q2) (m:Nat),vs=[.ref a,.ref b,.ref h]/\H a=some (.lst xs)/\gQ CK K H xs ds/\StB K H b ls lv m/\SqL K H h ys/\Fqs K H ys hs/\(∀p∈hs,Low p)/\(∀d∈ds,zS (m:Int) d)/\bN ds<=hs.length/\ds.length<=40/\∀l zs H',bC H H'->H l=none->H' l=some (.lst zs)->Fqs K H' zs (vA lv hs 0 ds)->Q (.ref l) H'
abbrev qY:Stmt:=top 69
theorem mP:aT ["rows","levels","held","flows","taken","row","fall"] ["rows","levels","held"] (aD qY):=sK9
theorem Ox {dV:Value}(F:bZ K "flows_of" "flows_of" qY dV f fd)(T:RT K mg CR CK){aN:Addr}(fN:∀H,Fq K H aN (0,1))(mNO:mI9 mg "NOUGHT" aN)(GW:∀k,aP P w K mg base CX0 1 (fW k) (fdW k) ["self"] (jE k))(bW:∀k,aQ K (fdW k) ["self"] [])(mW:∀k,dX K (CK k) "word" (fW k))(GS:∀k,aP P w K mg base CX0 4 (fS k) (fdS k) ["self","fall","held"] (vC K CK k))(bS:∀k,aQ K (fdS k) ["self","fall","held"] [])(mS:∀k,dX K (CK k) "stream" (fS k))(G1:aP P w K mg base CX0 4 g1 gd1 ["row","heights"] (Bm K CK))(b1:aQ K gd1 ["row","heights"] [])(k1:kI9 K g1)(m1:mI9 mg "fall_of" g1) :
  aP P w K mg base CX 5 f fd ["rows","levels","held"] (Gu K CK):=by
 refine F.ok mP (fun vs H Q E h=>?_) fun _ A _ s H vs Q E hr h=>?_
 ·obtain⟨_,_,_,_,_,_,_,_,_,_,rfl,_⟩:=h;rfl
 obtain⟨a,b,h,xs,ls,ys,ds,lv,hs,m,rfl,ea,Rb,SA,hS,hF,hlo,hK,hh,h40,q⟩:=h;have r1:=hr.mono (show 1<=4 by lia);refine⟨_,(aB (aV (i:=3) mP.nd rfl (Or.inl rfl) (cU aE))
  (aB (aV (i:=4) mP.nd rfl (Or.inl rfl) aF)
  (aB (fU PassesOwn.never rfl (dM (pv 0)) (bU (i:=5) mP.nd rfl (Or.inl rfl))
   (aB (aV (i:=6) mP.nd rfl (Or.inl rfl) (aH G1 hr rfl m1 k1 b1 .nil aK (aA (pv 5) (aA (pv 1) aE))))
  (aG (cD (bF eZ (dZ (pv 5) T.cl mW GW r1 bW .nil aK) cQ (bG _)) (aB (bY (lQ PySem.F.plainAttrs_list PySem.F.slot_list_append PySem.F.type_list_append eY (pv 3) (aA (Cp (pv 5) T.cl mS GS hr bS .nil aK (aA (pv 6) (aA (aW bX (pv 2) (pv 4) (fun _ _=>rfl)) aE))) aE)))
  (aG (Gb (i:=4) mP.nd rfl (Or.inl rfl) aF Gc))) (aG (bY (lQ PySem.F.plainAttrs_list PySem.F.slot_list_append PySem.F.type_list_append eY (pv 3) (aA (Cp (pv 5) T.cl mS GS hr bS .nil aK (aA (pv 6) (aA (cT (v:=.ref aN) rfl mNO rfl) aE))) aE))))))))
  (aG (aX (pv 3)))))),?_⟩
 have lxs:=Rb.length;have lys:=hF.length;refine⟨zl9 0,fun l hl=>?_⟩;have s1:=aI hl (.lst []);have e1:upd H l (.lst []) l=some (.lst []):=aC;generalize upd H l (.lst [])=H1 at s1 e1 ⊢;refine⟨_,rfl,a,rfl,⟨_,SqL.of (s1 _ _ ea)⟩,?_⟩;refine gH (xs:=xs) (fun i σ H'=>bC H H'/\∃(zs:List V) (ti:Int) (z5 z6:Option V),σ=[some (.ref a),some (.ref b),some (.ref h),some (.ref l),some (.int ti),z5,z6]/\ti=((bN (ds.take i):Nat):Int)/\H' l=some (.lst zs)/\Fqs K H' zs (vA lv hs 0 (ds.take i))) ⟨s1,[],0,none,none,rfl,rfl,e1,.nil⟩ (fun i σ H' _ h=>h.1.seq (SqL.of ea)) ?_ ?_
 ·rintro i x σ H2 hx ⟨s2,zs,ti,z5,z6,rfl,hti,e2,F2⟩;have hi:i < ds.length:=by have:=(List.getElem?_eq_some_iff.mp hx).1;lia
  obtain⟨⟨k0,u,v,p⟩,hd⟩:∃d,ds[i]?=some d:=⟨_,getElem?_eq_getElem hi⟩
  obtain⟨y,z,ey,rw0,fz0⟩:=Rb.at hd;have ex:x=.ref y:=by rw[ey] at hx;exact(Option.some.inj hx).symm
  subst ex;have rd:=hK _ (mem_of_getElem? hd);have pt:dC (m:Int) u v:=⟨rd.1,rd.2.1,rd.2.2.1,rd.2.2.2.1⟩
  have lp:Low p:=rd.2.2.2.2.1;have p0:k0=.pc->0 < p.1:=rd.2.2.2.2.2.1;have bp:Bd 1000 p:=rd.2.2.2.2.2.2;have et:ds.take (i+1)=ds.take i++[(k0,u,v,p)]:=by rw[take_add_one,hd];rfl
  have hcnt:bN (ds.take i)+cA k0+bN (ds.drop (i+1))=bN ds:=by
   have h1:ds=ds.take (i+1)++ds.drop (i+1):=(take_append_drop _ _).symm;have h2:bN ds=bN (ds.take (i+1))+bN (ds.drop (i+1)):=by
    unfold bN iU;rw[<- length_append,<- filter_append,take_append_drop]
   rw[h2,et,fK]
  have rw2:=rw0.same s2;obtain⟨dr,hy⟩:=id rw2;refine⟨_,rfl,_,rfl,y,b,(k0,u,v,p),.ref z,ls,lv,m,rfl,rw2,SA.same s2,pt,fun fa H3 s3 e3=>?_⟩;have flow:Low (flF lv (k0,u,v,p))/\Bd 7801 (flF lv (k0,u,v,p)):=by
   have hb:=SA.b;have hn:=SA.l;have g1:lv.getD u.toNat (0,1)∈lv:=mem_of_getElem? (Mq.Ly (by have:=pt.1;have:=pt.2.1;lia));have g2:lv.getD v.toNat (0,1)∈lv:=mem_of_getElem? (Mq.Ly (by have:=pt.2.2.1;have:=pt.2.2.2;lia));exact⟨iQ (hb _ g1).1.pos (hb _ g2).1.pos,(oQ (hb _ g1).2 (hb _ g2).2 (hb _ g1).1.pos (hb _ g2).1.pos).mono (by lia)⟩
  have fa3:Fq K H3 fa (flF lv (k0,u,v,p)):=Fq.of e3;have s23:=s2.trans s3;have rw3:=rw0.same s23;obtain⟨dr3,hy3⟩:=id rw3;have fz3:=s23.fq fz0;have e23:=s3 _ _ e2;have lzs:=F2.length;rw[Dc,length_take] at lzs;rw[et,xN,Nat.zero_add];refine⟨_,rfl,k0,y,dr3,_,rfl,hy3,(cV _ _ _ (by decide +kernel) (by decide +kernel) (by decide +kernel)),_,rfl,rfl,_,rfl,?_⟩
  by_cases hk:k0=.ho
  ·refine L2.ifT (by show decide (V.str k0.wd=V.str Kd.ho.wd)=true;rw[cZ];exact decide_eq_true hk) ?_;have hc:cA k0=1:=by unfold cA;rw[if_pos hk]
   obtain⟨w1,ew,fw⟩:=hF.at (Mq.Ly (show bN (ds.take i) < hs.length by lia));refine⟨_,rfl,.inl ⟨rfl,_,SqL.of e23⟩,_,rfl,k0,y,dr3,_,rfl,hy3,(cV _ _ _ (by decide +kernel) (by decide +kernel) (by decide +kernel)),?_⟩;refine⟨_,rfl,_,rfl,_,rfl,h,ys,_,_,rfl,rfl,s23.seq hS,by rw[hti];exact cL ew,y,z,fa,w1,.int u,.int v,p,_,_,1000,7801,rfl,rw3,fz3,fa3,s23.fq fw,lp.pos,flow.1.pos,bp,flow.2,by lia,p0,fun r H4 s4 f4=>?_⟩;have e4:=s4 _ _ e23;refine⟨l,_,_,rfl,rfl,e4,bO (by lia),?_⟩;refine⟨_,rfl,_,_,rfl,rfl,?_⟩;refine⟨(s23.trans s4).change hl,_,ti+1,_,_,rfl,by rw[fK,hti,hc];lia,aC,?_⟩;have fl:Tk lv hs (bN (ds.take i)) (k0,u,v,p)=Ks k0 (flF lv (k0,u,v,p)) (hs.getD (bN (ds.take i)) Mq.z0) p:=by
    show Ks k0 _ (if k0=.ho then _ else _) _=_;rw[if_pos hk]
   rw[fl];exact((F2.same (s3.trans s4)).app (.cons f4 .nil)).upd e4
  ·refine L2.ifF (by show decide (V.str k0.wd=V.str Kd.ho.wd)=false;rw[cZ];exact decide_eq_false hk) ?_;have hc:cA k0=0:=by unfold cA;rw[if_neg hk]
   refine⟨_,rfl,.inl ⟨rfl,_,SqL.of e23⟩,_,rfl,k0,y,dr3,_,rfl,hy3,(cV _ _ _ (by decide +kernel) (by decide +kernel) (by decide +kernel)),_,rfl,y,z,fa,aN,.int u,.int v,p,_,(0,1),1000,7801,rfl,rw3,fz3,fa3,fN _,lp.pos,flow.1.pos,bp,flow.2,by lia,p0,fun r H4 s4 f4=>?_⟩;have e4:=s4 _ _ e23;refine⟨l,_,_,rfl,rfl,e4,bO (by lia),?_⟩;refine⟨(s23.trans s4).change hl,_,ti,_,_,rfl,by rw[fK,hti,hc];rfl,aC,?_⟩;have fl:Tk lv hs (bN (ds.take i)) (k0,u,v,p)=Ks k0 (flF lv (k0,u,v,p)) (0,1) p:=by
    show Ks k0 _ (if k0=.ho then _ else _) _=_;rw[if_neg hk]
   rw[fl];exact((F2.same (s3.trans s4)).app (.cons f4 .nil)).upd e4
 rintro σ H2 ⟨s2,zs,ti,z5,z6,rfl,hti,e2,F2⟩;rw[lxs,take_length] at F2;exact⟨_,rfl,q l zs H2 s2 hl e2 F2⟩
abbrev yX:Stmt:=cO (top 68) 1
theorem Yg:aT ["self"] ["self"] (aD yX):=sK9
theorem Tf {dV:Value}{CA:Addr}(F:bZ K "heights" "Answer.heights" yX dV f fd)(ABx:AB K mg CA)(mli:mg "list"=none):aP P w K mg base CX 1 f fd ["self"] (qH CA K):=by
 refine F.ok Yg (fun vs H Q E h=>?_) fun _ A _ s H vs Q E hr h=>?_
 ·obtain⟨_,_,_,rfl,_⟩:=h;rfl
 obtain⟨a,lv,fl,rfl,⟨⟨dx,li,le,fo,xs,ys,ha,hle,Fle,hfo,Ffo⟩⟩,q⟩:=h;refine⟨_,(aG (aX (gA dP rfl mli PyProof.Rows.boot_list (aA (bL (pv 0) rfl) aE)))),?_⟩;refine⟨_,rfl,a,CA,_,_,_,rfl,ha,ABx.cl,ABx.nE,Re _ _ _,le,_,rfl,.inl hle,fun l hl=>?_⟩;have sl:=aI hl (.lst xs);exact q l _ _ sl hl aC (Fle.same sl)
abbrev wS:Stmt:=cO (top 68) 2
theorem Wf:aT ["self"] ["self"] (aD wS):=sK9
theorem Uh {dV:Value}{CA:Addr}(F:bZ K "streams" "Answer.streams" wS dV f fd)(ABx:AB K mg CA)(mli:mg "list"=none):aP P w K mg base CX 1 f fd ["self"] (wT CA K):=by
 refine F.ok Wf (fun vs H Q E h=>?_) fun _ A _ s H vs Q E hr h=>?_
 ·obtain⟨_,_,_,rfl,_⟩:=h;rfl
 obtain⟨a,lv,fl,rfl,⟨⟨dx,li,le,fo,xs,ys,ha,hle,Fle,hfo,Ffo⟩⟩,q⟩:=h;refine⟨_,(aG (aX (gA dP rfl mli PyProof.Rows.boot_list (aA (bL (pv 0) rfl) aE)))),?_⟩;refine⟨_,rfl,a,CA,_,_,_,rfl,ha,ABx.cl,ABx.nO,Ub _ _ _,fo,_,rfl,.inl hfo,fun l hl=>?_⟩;have sl:=aI hl (.lst ys);exact q l _ _ sl hl aC (Ffo.same sl)
def uC (CN CA:Addr)(K:Frag):Sp:=fun vs H Q _=>∃(x dx n l:Addr) (m b:Nat) (kb:Nat->Nat) (L:Int) (ds:List RD),vs=[.ref x,.ref n]/\H x=some (.ins CA dx [])/\Cr CN K H n l m b kb L ds/\bw b (wd m ds)<=3900/\(∀i,∃a:Int,Mq.B b a/\eqR m ds (i+1)=(a:Rat) / (L:Rat))/\(fA wHo (skl ds) ds.length).2=[]/\Kn m ds=[]/\
 ∀ps H',bQ x H H'->qe2 CA K H H' x (lvS m ps) (vA (lvS m ps) (ps.drop (m - 1)) 0 ds)->ps.length=wd m ds->gD ps->Ovr (bw b (wd m ds)) ps->Sv m ds (eqR m ds) (uP ps)->Q .non H'
abbrev qI:Stmt:=cO (top 68) 0
theorem rS:aT ["self","net","both","known","inner"] ["self","net"] (aD qI):=sK9
theorem Mc {dV:Value}{CA:Addr}(F:bZ K "__init__" "Answer.__init__" qI dV f fd)(ABx:AB K mg CA){CN:Addr}(NTx:NT K mg CN){aN:Addr}(fN:∀H,Fq K H aN (0,1))(mNO:mI9 mg "NOUGHT" aN){gRo:Addr}{gdRo:FuncData}(GRo:aP P w K mg base CX0 4 gRo gdRo ["self"] (lK CN K CK))(bRo:aQ K gdRo ["self"] [])(mRo:dX K CN "rows" gRo){gMa:Addr}{gdMa:FuncData}(GMa:aP P w K mg base CX0 1 gMa gdMa ["self"] (qK CN K))(bMa:aQ K gdMa ["self"] [])(mMa:dX K CN "many" gMa)(G1:aP P w K mg base CX0 7 g1 gd1 ["net"] (Mg CN K))(b1:aQ K gd1 ["net"] [])(k1:kI9 K g1)(m1:mI9 mg "refuse_unanswered" g1)(G2:aP P w K mg base CX0 7 g2 gd2 ["net"] (Am CN K))(b2:aQ K gd2 ["net"] [])(k2:kI9 K g2)(m2:mI9 mg "equations" g2)(G3:aP P w K mg base CX0 5 g3 gd3 ["matrix","right"] (qQ K))(b3:aQ K gd3 ["matrix","right"] [])(k3:kI9 K g3)(m3:mI9 mg "solved" g3)(G4:aP P w K mg base CX0 5 g4 gd4 ["rows","levels","held"] (Gu K CK))(b4:aQ K gd4 ["rows","levels","held"] [])(k4:kI9 K g4)(m4:mI9 mg "flows_of" g4):aP P w K mg base CX 8 f fd ["self","net"] (uC CN CA K):=by
 refine F.ok rS (fun vs H Q E h=>?_) fun _ A _ s H vs Q E hr h=>?_
 ·obtain⟨_,_,_,_,_,_,_,_,_,rfl,_⟩:=h;rfl
 obtain⟨x,dx,n,l,m,b,kb,L,ds,rfl,hx,NB,hw39,h01,hR,hF,q⟩:=h;have r1:=hr.mono (show 1<=7 by lia);have r4:=hr.mono (show 4<=7 by lia);have r5:=hr.mono (show 5<=7 by lia);have r7:=hr;refine⟨_,(aB (bY (aH G1 r7 rfl m1 k1 b1 .nil aK (aA (pv 1) aE)))
  (aB (aV (i:=2) rS.nd rfl (Or.inl rfl) (aH G2 r7 rfl m2 k2 b2 .nil aK (aA (pv 1) aE)))
  (aB (aV (i:=3) rS.nd rfl (Or.inl rfl) (aH G3 r5 rfl m3 k3 b3 .nil aK (aA (aW bA (pv 2) aF (fun _ _=>rfl)) (aA (aW bA (pv 2) aF (fun _ _=>rfl)) aE))))
  (aB (aV (i:=4) rS.nd rfl (Or.inl rfl) (aZ iF (cC (pv 1) NTx.cl mMa GMa r1 bMa .nil aK) aF))
  (aB (gY (pv 0) (aW bA (pv 2) aF (fun _ _=>rfl)) rfl)
  (aB (gY (pv 0) (aZ uV (cU (aA (cT (v:=.ref aN) rfl mNO rfl) aE)) (fI iB (pv 3) iM (fY (pv 4)))) rfl)
  (aG (gY (pv 0) (aH G4 r5 rfl m4 k4 b4 .nil aK (aA (cC (pv 1) NTx.cl mRo GRo r4 bRo .nil aK) (aA (bL (pv 0) rfl) (aA (fI iB (pv 3) (fY (pv 4)) iM) aE)))) rfl)))))))),?_⟩
 have nt:=NB.nt;have hK:=NB.ok;have m20:=NB.m20;have h40:=NB.h40;have hbig:=NB.cu;have EB:=NB.eb;have mo:=EB.o.m1;refine⟨_,rfl,n,l,m,ds,rfl,nt,EB.o.pt,mo,m20,h40,hR,hF,fun H1 s1=>?_⟩;refine⟨_,rfl,n,l,m,kb,ds,rfl,nt.same s1,hK,mo,m20,h40,hbig,fun tt p r us ys X Y H2 s2 et np nr ep er FM FY nx EO=>?_⟩;have s02:=s1.trans s2;have lX:X.length=m - 1+bN ds:=EO.x.h;have lY:Y.length=X.length:=by rw[EO.y.w,lX]
 have w26:=EB.w26;have lw:wd m ds=m - 1+bN ds:=rfl;have yq:∀p∈Y,(Bd b p/\p.2 ∣ L)/\∃a:Int,Mq.B b a/\val p=(a:Rat) / (L:Rat):=fun p hp=>by
  obtain⟨i,hi⟩:=getElem?_of_mem hp;have ep:p=Y.getD i (0,1):=by rw[getD_eq_getElem?_getD,hi];rfl
  obtain⟨z,hz,ez⟩:=h01 i;have hv:val p=(z:Rat) / (L:Rat):=by rw[ep,EO.vy,ez]
  exact⟨vF (EO.y.l p hp).1 EB.L1 EB.LB hz hv,z,hz,hv⟩
 refine⟨_,rfl,tt,_,0,_,rfl,rfl,SqT.of et,rfl,_,rfl,tt,_,1,_,rfl,rfl,SqT.of et,rfl,?_⟩;refine⟨p,r,p,H1,us,ys,X,Y,b,b,rfl,SqL.of ep,sV FM (fun x hx=>(nx x hx).1),SqL.of er,FY,lY,fun p hp=>(EO.y.l p hp).1,fun p hp=>(yq p hp).1.1,EqB.pos EO,fun row hr=>⟨fun p hp=>((EB.cell EO row hr).1 p hp).1,(EB.cell EO row hr).2⟩,by lia,by rw[lX];exact EB.hb,Ir (EqB.pos EO) (fun p hp=>(EO.y.l p hp).1.pos) lY (fun row hr p hp=>((EB.cell EO row hr).1 p hp).2) (fun p hp=>⟨(yq p hp).1.2,(yq p hp).2⟩) EB.L1,EB.b1,by rw[lX];exact Nat.le_trans EB.hbw (by decide),EB.wgt EO,fun kn zk ps H3 s3 nkn ekn Fk SU OV=>?_⟩;rw[lX] at OV;have lps:ps.length=wd m ds:=by rw[SU.len,lX]
 have lo:=SU.low;have b39:=Fd (n:=bw b (wd m ds)) OV lo hw39;have s03:=s02.trans s3;obtain⟨dn,hn⟩:=(nt.same s03).ob;refine⟨_,rfl,n,dn,_,rfl,hn,cX _ _ (by decide +kernel) (by decide +kernel),n,l,_,ds,rfl,nt.same s03,_,_,rfl,rfl,?_⟩;have et3:=s3 _ _ et;have hx3:=s03 _ _ hx;have em:(m:Int) - 1=((m - 1:Nat):Int):=by lia
 show gF _ _ _ [some (.ref x),some (.ref n),some (.ref tt),some (.ref kn),some (.int ((m:Int) - 1))] H3;rw[em];refine⟨_,rfl,tt,_,0,_,rfl,rfl,SqT.of et3,rfl,_,rfl,x,CA,dx,[],rfl,hx3,ABx.cl,ABx.nI,(by show 0 < 1000;decide),?_⟩;have x4:bQ x H (upd H3 x (.ins CA dx (cP "lines" (.ref p) []))):=fun b o h nb=>by rw[aY nb];exact s03 _ _ h
 have x34:bQ x H3 (upd H3 x (.ins CA dx (cP "lines" (.ref p) []))):=fun b o h nb=>by rw[aY nb];exact h
 have hx4:upd H3 x (.ins CA dx (cP "lines" (.ref p) [])) x=some (.ins CA dx (cP "lines" (.ref p) [])):=aC;have ek4:=bQ.seqI hx3 x34 (SqL.of (K:=K) ekn);have Fk4:=bQ.fqsI hx3 x34 Fk;generalize upd H3 x (.ins CA dx (cP "lines" (.ref p) []))=H4 at x4 x34 hx4 ek4 Fk4 ⊢;refine⟨zl9 1,fun L1 hL1=>?_⟩;have s5:=aI hL1 (.lst [.ref aN]);have e5:upd H4 L1 (.lst [.ref aN]) L1=some (.lst [.ref aN]):=aC;generalize upd H4 L1 (.lst [.ref aN])=H5 at s5 e5 ⊢;refine⟨_,rfl,_,rfl,_,rfl,kn,zk,rfl,s5.seq ek4,fun S hS=>?_⟩;rw[Eh];have s6:=aI hS (.lst (zk.take (m - 1)));have e6:upd H5 S (.lst (zk.take (m - 1))) S=some (.lst (zk.take (m - 1))):=aC;generalize upd H5 S (.lst (zk.take (m - 1)))=H6 at s6 e6 ⊢;have lzk:=Fk.length;refine⟨L1,S,_,_,rfl,rfl,s6 _ _ e5,e6,Nat.le_of_lt (bO (by rw[length_take];simp only[length_cons,length_nil];lia)),fun V1 hV1=>?_⟩;have s7:=aI hV1 (.lst ([.ref aN]++zk.take (m - 1)));have e7:upd H6 V1 (.lst ([.ref aN]++zk.take (m - 1))) V1=some (.lst ([.ref aN]++zk.take (m - 1))):=aC;generalize upd H6 V1 (.lst ([.ref aN]++zk.take (m - 1)))=H7 at s7 e7 ⊢;have s47:=s5.trans (s6.trans s7);have hx7:=s47 _ _ hx4;refine⟨_,rfl,x,CA,dx,_,rfl,hx7,ABx.cl,ABx.nE,(by have:=dQ ("lines":Str) (.ref p) [];simp only[length_nil] at this;lia),?_⟩;have x78:bQ x H7 (upd H7 x (.ins CA dx (cP "levels" (.ref V1) (cP "lines" (.ref p) [])))):=fun b o h nb=>by rw[aY nb];exact h
 have hx8:upd H7 x (.ins CA dx (cP "levels" (.ref V1) (cP "lines" (.ref p) []))) x=some (.ins CA dx (cP "levels" (.ref V1) (cP "lines" (.ref p) []))):=aC;generalize upd H7 x (.ins CA dx (cP "levels" (.ref V1) (cP "lines" (.ref p) [])))=H8 at x78 hx8 ⊢;have nn:=Xc hx nt;have nt4:=dH.xI hx3 x34 nn (nt.same s03);have nt8:=dH.xI hx7 x78 nn (nt4.same s47);have ek8:=bQ.seqI hx7 x78 (s47.seq ek4);have Fk8:=bQ.fqsI hx7 x78 (Fk4.same s47);have nV1x:V1≠x:=dD e7 hx7 (fun z=>by cases z);have ev8:=bQ.seqI hx7 x78 (SqL.of (K:=K) e7);have Fv8:Fqs K H8 ([.ref aN]++zk.take (m - 1)) (lvS m ps):=.cons (fN _) (Fqs.take _ Fk8);obtain⟨dn8,hn8⟩:=nt8.ob;refine⟨_,rfl,n,dn8,_,rfl,hn8,cX _ _ (by decide +kernel) (by decide +kernel),n,l,_,ds,rfl,nt8,by lia,fun ro xr H9 s9 nro ero Rb=>?_⟩;have hx9:=s9 _ _ hx8;have ek9:=s9.seq ek8;refine⟨_,rfl,x,CA,dx,_,_,rfl,hx9,ABx.cl,ABx.nE,(by rw[bK,if_pos rfl]),_,rfl,_,rfl,_,rfl,kn,zk,rfl,ek9,fun S2 hS2=>?_⟩;rw[yK];have s10:=aI hS2 (.lst (zk.drop (m - 1)));have e10:upd H9 S2 (.lst (zk.drop (m - 1))) S2=some (.lst (zk.drop (m - 1))):=aC;generalize upd H9 S2 (.lst (zk.drop (m - 1)))=H10 at s10 e10 ⊢;have s80:=s9.trans s10;have lLv:(lvS m ps).length=m:=by
  unfold lvS;rw[length_cons,length_take];lia
 refine⟨ro,V1,S2,xr,_,_,ds,lvS m ps,ps.drop (m - 1),m,rfl,s10 _ _ ero,Rb.same s10,⟨s80.seq ev8,Fv8.same s80,lLv,fun s hs=>?_⟩,SqL.of e10,Fqs.drop _ (Fk8.same s80),fun p hp=>lo p (mem_of_mem_drop hp),fun d hd=>?_,by rw[length_drop];lia,h40,fun fo zf H11 s11 nfo efo Ffo=>?_⟩
 ·rcases mem_cons.mp hs with z | z
  ·rw[z];exact⟨⟨by decide,by decide⟩,Ze (n:=3899)⟩
  ·exact b39 s (mem_of_mem_take z)
 ·obtain⟨i,hi⟩:=getElem?_of_mem hd;exact(hK i d hi).1
 have s81:=s80.trans s11;have hx11:=s81 _ _ hx8;refine⟨_,rfl,x,CA,dx,_,rfl,hx11,ABx.cl,ABx.nO,(by have:=dQ ("lines":Str) (.ref p) [];have:=dQ ("levels":Str) (.ref V1) (cP "lines" (.ref p) []);simp only[length_nil] at *;lia),?_⟩;have x12:bQ x H11 (upd H11 x (.ins CA dx (jD p V1 fo))):=fun b o h nb=>by rw[aY nb];exact h
 have hx12:upd H11 x (.ins CA dx (jD p V1 fo)) x=some (.ins CA dx (jD p V1 fo)):=aC;show Q .non (upd H11 x (.ins CA dx (jD p V1 fo)));generalize upd H11 x (.ins CA dx (jD p V1 fo))=H12 at x12 hx12 ⊢;refine q ps H12 (fun b o h nb=>x12 _ _ (s81 _ _ (x78 _ _ (s47 _ _ (x4 _ _ h nb)) nb)) nb) ⟨dx,p,V1,fo,_,zf,hx12,x12 _ _ (s81 _ _ (x78 _ _ e7 nV1x)) nV1x,bQ.fqsI hx11 x12 (Fv8.same s81),x12 _ _ efo (dD efo hx11 (fun z=>by cases z)),bQ.fqsI hx11 x12 Ffo,fun l0 o0 h0 n0=>⟨fun z=>?_,fun z=>?_⟩⟩ lps lo OV (EqB.sol EO SU fun i _=>EO.vy i)
 ·rw[z,(s5.trans s6) _ _ (x4 _ _ h0 n0)] at hV1;cases hV1
 ·rw[z,s80 _ _ (x78 _ _ (s47 _ _ (x4 _ _ h0 n0)) n0)] at nfo;cases nfo
abbrev xW:Stmt:=cO (top 45) 7
theorem Ps:aT ["self","made"] ["self"] (aD xW):=sK9
theorem Qv {dV:Value}{CN:Addr}(F:bZ K "copy" "Net.copy" xW dV f fd)(NTx:NT K mg CN)(mli:mg "list"=none){gNI:Addr}{gdNI:FuncData}(GNI:aP P w K mg base CX0 2 gNI gdNI ["self","many"] (Aw CN))(bNI:aQ K gdNI ["self","many"] [])(MN:Mk K CN gNI):aP P w K mg base CX 4 f fd ["self"] (Bh CN K):=by
 refine F.ok Ps (fun vs H Q E h=>?_) fun _ A _ s H vs Q E hr h=>?_
 ·obtain⟨_,_,_,_,rfl,_⟩:=h;rfl
 obtain⟨n,l,m,ds,rfl,⟨⟨dx,hn⟩,ts,hl,hR⟩,h1,h20,q⟩:=h;refine⟨_,(aB (aV (i:=1) Ps.nd rfl (Or.inl rfl) (hV MN GNI hr rfl NTx.mN bNI .nil aK (aA (bL (pv 0) rfl) aE)))
  (aB (gY (pv 1) (gA dP rfl mli PyProof.Rows.boot_list (aA (bL (pv 0) rfl) aE)) rfl)
  (aG (aX (pv 1))))),?_⟩
 refine⟨_,rfl,n,CN,dx,_,_,rfl,hn,NTx.cl,NTx.nP,vH _ _,fun x ex hx1 hx2 ne=>⟨x,ex,m,rfl,aC,h1,h20,fun l0 H1 nl0 keep hx hl0=>⟨rfl,?_⟩⟩⟩;have s1:bC H H1:=fun b o e=>keep b o (by rw[aY (aL e hx1),aY (aL e hx2)];exact e) (aL e hx1);have hn1:=s1 _ _ hn;have hl1:=s1 _ _ hl;refine⟨_,rfl,n,CN,dx,_,_,rfl,hn1,NTx.cl,NTx.nK,eT _ _,l,ts,rfl,.inl (SqL.of hl1),fun l2 hl2=>?_⟩;have s2:=aI hl2 (.lst ts);have el2:upd H1 l2 (.lst ts) l2=some (.lst ts):=aC;generalize upd H1 l2 (.lst ts)=H2 at s2 el2 ⊢;have hx2':=s2 _ _ hx;refine⟨_,rfl,x,CN,ex,_,rfl,hx2',NTx.cl,NTx.nK,Nat.lt_of_le_of_lt (Kj _ _) (by decide),?_⟩;have s12:=s1.trans s2;have sF:bC H (upd H2 x (.ins CN ex (cP "kept" (.ref l2) (gL m l0)))):=s12.change hx1;have nx:l2≠x:=dD el2 hx2' (fun z=>by cases z);refine⟨_,rfl,q x l2 _ sF hx1 (s1.free hl2) ⟨⟨ex,by rw[aC,Jp]⟩,ts,by rw[aY nx];exact el2,hR.same sF⟩⟩
theorem Kh:Bd 1 (1,1):=⟨by show (1:Nat) < 2 ^ 1;decide,by show (1:Nat) < 2 ^ 1;decide⟩
theorem uY:val (1,1)=1:=by unfold val;show ((1:Int):Rat) / ((1:Int):Rat)=1;rw[show ((1:Int):Rat)=1 by rfl];grind
theorem Vy {p:Q2}(l:1<=p.2)(h:0 < val p):0 < p.1:=by
 refine Decidable.byContradiction fun c=>?_;have c1:((p.1:Int):Rat)<=0:=by exact_mod_cast (show p.1<=0 by lia)
 have c2:(0:Rat) < ((p.2:Int):Rat):=by exact_mod_cast (show 0 < p.2 by lia)
 unfold val at h;rw[Rat.div_def] at h;have:=Rat.mul_le_mul_of_nonneg_right c1 (Rat.le_of_lt (Rat.inv_pos.mpr c2));rw[Rat.zero_mul] at this;exact absurd h (Rat.not_lt.mpr this)
theorem Uc {p:Q2}(l:1<=p.2)(h:0 < p.1):0 < val p:=by
 unfold val;rw[Rat.div_def];exact Rat.mul_pos (by exact_mod_cast h) (Rat.inv_pos.mpr (by exact_mod_cast (show 0 < p.2 by lia)))
theorem Ry {m k:Nat}{ds:List RD}{d:RD}{v:Nat->Rat}{p:Rat}(o:Nof m ds)(hd:ds[k]?=some d)(hk:d.1=.pc)(h:Sv m ds (shR m ds k d) v)(hp:0 < p):0 < 1+(1 / p - 1 / val d.2.2.2)*(v d.2.1.toNat - v d.2.2.1.toNat):=by
 have e:ds=ds.take k++d :: ds.drop (k+1):=by
  have:=take_append_drop k ds;rw[drop_eq_getElem_cons (List.getElem?_eq_some_iff.mp hd).1,(List.getElem?_eq_some_iff.mp hd).2] at this;exact this.symm
 have sh:shR m ds k d=fun x=>un d.2.1.toNat x - un d.2.2.1.toNat x:=funext fun x=>if_neg (by rw[hk];decide);rw[sh] at h;have sp:=o.pos d (mem_of_getElem? hd) hk;rw[e] at o h;obtain⟨a,b,_⟩:=Od o hk h;generalize v d.2.1.toNat - v d.2.2.1.toNat=R at a b;generalize val d.2.2.2=s at b sp;have hp1:0 < 1 / p:=by rw[Rat.div_def,Rat.one_mul];exact Rat.inv_pos.mpr hp
 by_cases c:R=0
 ·subst c;grind
 ·have R0:0 < R:=by
   rcases Rat.le_iff_lt_or_eq.mp a with z | z
   ·exact z
   ·exact absurd z.symm c
  have:=Rat.mul_pos hp1 R0;grind
def Vk (CN CA:Addr)(K:Frag):Sp:=fun vs H Q _=>∃(n l a z:Addr) (m k:Nat) (L:Int) (ds:List RD) (d:RD) (p:Q2) (lv fl:List Q2),vs=[.ref n,.ref a,.int (k:Int),.ref z]/\dH CN K H n l (m:Int) ds/\Dw m L ds/\wU CA K H a lv fl/\iE m ds lv fl/\ds[k]?=some d/\Fq K H z p/\SzW L d.1 p/\
 ∀r q H',bC H H'->Fq K H' r q->(d.1=.pu->q=Mq.minus d.2.2.2 p)->Q (.ref r) H'
abbrev Lh:Stmt:=top 77
theorem Ec:aT ["net","answer","k","size","row","more","fall","along_shape"] ["net","answer","k","size"] (aD Lh):=sK9
theorem Vw {dV:Value}(F:bZ K "factor_of" "factor_of" Lh dV f fd){CN CA aN aO:Addr}(NTx:NT K mg CN)(T:RT K mg CR CK)(ABx:AB K mg CA)(fN:∀H,Fq K H aN (0,1))(mNO:mI9 mg "NOUGHT" aN)(fO:∀H,Fq K H aO (1,1))(mON:mI9 mg "ONE" aO)(GW:∀k,aP P w K mg base CX0 1 (fW k) (fdW k) ["self"] (jE k))(bW:∀k,aQ K (fdW k) ["self"] [])(mW:∀k,dX K (CK k) "word" (fW k)){gRo:Addr}{gdRo:FuncData}(GRo:aP P w K mg base CX0 4 gRo gdRo ["self"] (lK CN K CK))(bRo:aQ K gdRo ["self"] [])(mRo:dX K CN "rows" gRo){gHt:Addr}{gdHt:FuncData}(GHt:aP P w K mg base CX0 1 gHt gdHt ["self"] (qH CA K))(bHt:aQ K gdHt ["self"] [])(mHt:dX K CA "heights" gHt)(G1:aP P w K mg base CX0 3 g1 gd1 ["one","other"] (jF K Mq.minus))(b1:aQ K gd1 ["one","other"] [])(k1:kI9 K g1)(m1:mI9 mg "minus" g1)(G2:aP P w K mg base CX0 3 g2 gd2 ["one","other"] (zY K))(b2:aQ K gd2 ["one","other"] [])(k2:kI9 K g2)(m2:mI9 mg "over" g2)(G3:aP P w K mg base CX0 4 g3 gd3 ["row","heights"] (Bm K CK))(b3:aQ K gd3 ["row","heights"] [])(k3:kI9 K g3)(m3:mI9 mg "fall_of" g3)(G4:aP P w K mg base CX0 9 g4 gd4 ["net","k"] (Gr CN K))(b4:aQ K gd4 ["net","k"] [])(k4:kI9 K g4)(m4:mI9 mg "shape_of" g4)(G5:aP P w K mg base CX0 3 g5 gd5 ["one","other"] (jF K mY))(b5:aQ K gd5 ["one","other"] [])(k5:kI9 K g5)(m5:mI9 mg "times" g5)(G6:aP P w K mg base CX0 3 g6 gd6 ["one","other"] (jF K oW))(b6:aQ K gd6 ["one","other"] [])(k6:kI9 K g6)(m6:mI9 mg "plus" g6) :
  aP P w K mg base CX 10 f fd ["net","answer","k","size"] (Vk CN CA K):=by
 refine F.ok Ec (fun vs H Q E h=>?_) fun _ A _ s H vs Q E hr h=>?_
 ·obtain⟨_,_,_,_,_,_,_,_,_,_,_,_,rfl,_⟩:=h;rfl
 obtain⟨n,l,a,z,m,k,L,ds,⟨kd,u,v,s0⟩,p,lv,fl,rfl,nt,DW,an,av,hk,fz,sz,q⟩:=h;have r1:=hr.mono (show 1<=9 by lia);have r3:=hr.mono (show 3<=9 by lia);have r4:=hr.mono (show 4<=9 by lia);refine⟨_,(aB (aV (i:=4) Ec.nd rfl (Or.inl rfl) (aW bX (cC (pv 0) NTx.cl mRo GRo r4 bRo .nil aK) (pv 2) (fun _ _=>rfl)))
  (aB (cD (bF eZ (dZ (pv 4) T.cl mW GW r1 bW .nil aK) cQ (bG _)) (aG (aX (aH G1 r3 rfl m1 k1 b1 .nil aK (aA (bL (pv 4) rfl) (aA (pv 3) aE))))) bH)
  (aB (cD (bF eZ (dZ (pv 4) T.cl mW GW r1 bW .nil aK) cQ (bG _)) (aG (aX (aH G1 r3 rfl m1 k1 b1 .nil aK (aA (pv 3) (aA (bL (pv 4) rfl) aE))))) bH)
  (aB (aV (i:=5) Ec.nd rfl (Or.inl rfl) (aH G1 r3 rfl m1 k1 b1 .nil aK (aA (aH G2 r3 rfl m2 k2 b2 .nil aK (aA (cT (v:=.ref aO) rfl mON rfl) (aA (pv 3) aE))) (aA (aH G2 r3 rfl m2 k2 b2 .nil aK (aA (cT (v:=.ref aO) rfl mON rfl) (aA (bL (pv 4) rfl) aE))) aE))))
  (aB (aV (i:=6) Ec.nd rfl (Or.inl rfl) (aH G3 r4 rfl m3 k3 b3 .nil aK (aA (pv 4) (aA (cC (pv 1) ABx.cl mHt GHt r1 bHt .nil aK) aE))))
  (aB (aV (i:=7) Ec.nd rfl (Or.inl rfl) (aH G3 r4 rfl m3 k3 b3 .nil aK (aA (pv 4) (aA (aH G4 hr rfl m4 k4 b4 .nil aK (aA (pv 0) (aA (pv 2) aE))) aE))))
  (aG (aX (aH G2 r3 rfl m2 k2 b2 .nil aK (aA (aH G1 r3 rfl m1 k1 b1 .nil aK (aA (cT (v:=.ref aN) rfl mNO rfl) (aA (aH G5 r3 rfl m5 k5 b5 .nil aK (aA (pv 5) (aA (pv 6) aE))) aE))) (aA (aH G6 r3 rfl m6 k6 b6 .nil aK (aA (cT (v:=.ref aO) rfl mON rfl) (aA (aH G5 r3 rfl m5 k5 b5 .nil aK (aA (pv 5) (aA (pv 7) aE))) aE))) aE))))))))))),?_⟩
 have o:=DW.o;have m5:=DW.m5;have md:=mem_of_getElem? hk;obtain⟨ro,so⟩:=DW.ok _ md;have ls:Low s0:=so.lo;have bs:Bd 31 s0:=so.bd;have sz':SzW L kd p:=sz;obtain⟨u0,u1,v0,v1⟩:dC (m:Int) u v:=o.pt _ md;obtain⟨dn,hn⟩:=nt.ob;have len:=DW.len;refine⟨_,rfl,n,dn,_,rfl,hn,cX _ _ (by decide +kernel) (by decide +kernel),n,l,_,ds,rfl,nt,by lia,fun ra xs H1 s1 na ea Rb=>?_⟩;obtain⟨y,zs,ey,rw,fzs⟩:=Rb.at hk;refine⟨_,rfl,ra,xs,_,_,rfl,rfl,SqL.of ea,cL ey,?_⟩;have rw0:=rw;obtain⟨dy,hy⟩:=rw;have fz1:=s1.fq fz
 by_cases hp:kd=.pu
 ·refine⟨_,rfl,kd,y,dy,_,rfl,hy,(cV _ _ _ (by decide +kernel) (by decide +kernel) (by decide +kernel)),_,rfl,rfl,_,rfl,L2.ifT (by show decide (V.str kd.wd=V.str Kd.pu.wd)=true;rw[cZ];exact decide_eq_true hp) ?_⟩;refine⟨_,rfl,y,CK _,_,_,_,rfl,hy,T.cl _,T.nZ _,eU _ _ _,_,rfl,zs,z,s0,p,31,31,rfl,fzs,fz1,ls.pos,sz'.lo.pos,bs,sz'.bd,by lia,fun r H2 s2 e2=>?_⟩;exact q r _ H2 (s1.trans s2) (Fq.of e2) (fun _=>rfl)
 refine⟨_,rfl,kd,y,dy,_,rfl,hy,(cV _ _ _ (by decide +kernel) (by decide +kernel) (by decide +kernel)),_,rfl,rfl,_,rfl,L2.ifF (by show decide (V.str kd.wd=V.str Kd.pu.wd)=false;rw[cZ];exact decide_eq_false hp) ?_⟩
 by_cases hh:kd=.ho
 ·refine⟨_,rfl,kd,y,dy,_,rfl,hy,(cV _ _ _ (by decide +kernel) (by decide +kernel) (by decide +kernel)),_,rfl,rfl,_,rfl,L2.ifT (by show decide (V.str kd.wd=V.str Kd.ho.wd)=true;rw[cZ];exact decide_eq_true hh) ?_⟩;refine⟨_,rfl,_,rfl,y,CK _,_,_,_,rfl,hy,T.cl _,T.nZ _,eU _ _ _,z,zs,p,s0,31,31,rfl,fz1,fzs,sz'.lo.pos,ls.pos,sz'.bd,bs,by lia,fun r H2 s2 e2=>?_⟩;exact q r _ H2 (s1.trans s2) (Fq.of e2) (fun c=>absurd c hp)
 refine⟨_,rfl,kd,y,dy,_,rfl,hy,(cV _ _ _ (by decide +kernel) (by decide +kernel) (by decide +kernel)),_,rfl,rfl,_,rfl,L2.ifF (by show decide (V.str kd.wd=V.str Kd.ho.wd)=false;rw[cZ];exact decide_eq_false hh) ?_⟩;have hc:kd=.pc:=by cases kd<;>first | rfl | exact absurd rfl hp | exact absurd rfl hh
 subst hc;obtain⟨p0,_,_⟩:=sz'.pc rfl;obtain⟨q0,_,_⟩:0 < s0.1/\s0.1 ∣ L/\s0.2.natAbs<=128:=so.pc rfl;have l11:(1:Int)<=((1,1):Q2).2:=by show (1:Int)<=1;decide
 refine⟨_,rfl,aO,z,(1,1),p,1,31,rfl,fO _,fz1,l11,sz'.lo.pos,p0,Kh,sz'.bd,by lia,fun w1 H2 s2 e2=>?_⟩;refine⟨_,rfl,y,CK _,_,_,_,rfl,s2 _ _ hy,T.cl _,T.nZ _,eU _ _ _,aO,zs,(1,1),s0,1,31,rfl,fO _,s2.fq fzs,l11,ls.pos,q0,Kh,bs,by lia,fun w2 H3 s3 e3=>?_⟩;have lo1:=tO (p:=(1,1)) (q:=p) l11 (by lia);have lo2:=tO (p:=(1,1)) (q:=s0) l11 (by lia);have bo1:=zT (n:=1) (m:=31) (p:=(1,1)) (q:=p) Kh sz'.bd l11 (by lia);have bo2:=zT (n:=1) (m:=31) (p:=(1,1)) (q:=s0) Kh bs l11 (by lia);have vo1:=vI (p:=(1,1)) (q:=p) l11 sz'.lo.pos (by lia);have vo2:=vI (p:=(1,1)) (q:=s0) l11 ls.pos (by lia);rw[uY] at vo1 vo2;have fw1:Fq K H2 w1 (kU (1,1) p):=Fq.of e2;have fw2:Fq K H3 w2 (kU (1,1) s0):=Fq.of e3;generalize kU (1,1) p=O1 at lo1 bo1 vo1 fw1;generalize kU (1,1) s0=O2 at lo2 bo2 vo2 fw2;refine⟨w1,w2,O1,O2,32,32,rfl,s3.fq fw1,fw2,lo1.pos,lo2.pos,bo1,bo2,by lia,fun w3 H4 s4 e4=>?_⟩;have lM:=iQ lo1.pos lo2.pos;have bM:=oQ bo1 bo2 lo1.pos lo2.pos;have vM:=mI lo1.pos lo2.pos;rw[vo1,vo2] at vM;have fM:Fq K H4 w3 (Mq.minus O1 O2):=Fq.of e4;generalize Mq.minus O1 O2=M at lM bM vM fM;have s24:=s2.trans (s3.trans s4);have s04:=s1.trans s24;obtain⟨ps,elv,_,lps,lops,OV,_⟩:=av.e;have bwl:=DW.bwle;have m1:=o.m1;have wl:wd m ds=m - 1+bN ds:=rfl;have lvl:lv.length=m:=by rw[elv];exact Az m1 (by lia)
 have lvo:gD lv:=by rw[elv];exact Ao lops
 have OVl:Ovr (bw 180 (wd m ds)) lv:=by rw[elv];exact Em OV
 have b39:=Fd OVl lvo (by lia);have flk:∀{hp:List Q2},hp.length=m->gD hp->Ovr (bw 180 (wd m ds)) hp->Low (flF hp (.pc,u,v,s0))/\Bd 1674 (flF hp (.pc,u,v,s0))/\val (flF hp (.pc,u,v,s0))=val (hp.getD u.toNat (0,1)) - val (hp.getD v.toNat (0,1)):=fun {hp} lh lo OV=>by
  have m1:=mem_of_getElem? (tK (ps:=hp) (j:=u.toNat) (by lia));have m2:=mem_of_getElem? (tK (ps:=hp) (j:=v.toNat) (by lia));obtain⟨b1,_,_⟩:=Ovr.minus OV lo m1 m2;exact⟨iQ (lo _ m1).pos (lo _ m2).pos,b1.mono (by lia),mI (lo _ m1).pos (lo _ m2).pos⟩
 obtain⟨dxa,li,le,fo,_,_,ha,_⟩:=(an.same s04).e;refine⟨_,rfl,_,rfl,a,dxa,_,rfl,ha,tT _ _ _ (by decide +kernel) (by decide +kernel) (by decide +kernel),a,lv,fl,rfl,an.same s04,fun lh xh H5 s5 nlh elh Fh=>?_⟩;refine⟨y,lh,(.pc,u,v,s0),_,xh,lv,m,rfl,⟨dy,(s24.trans s5) _ _ hy⟩,⟨SqL.of elh,Fh,lvl,b39⟩,⟨u0,u1,v0,v1⟩,fun f1 H6 s6 e6=>?_⟩;have ff1:Fq K H6 f1 (flF lv (.pc,u,v,s0)):=Fq.of e6;obtain⟨lf1,bf1,_⟩:=flk lvl lvo OVl;generalize flF lv (.pc,u,v,s0)=f1q at ff1 lf1 bf1;have s46:=s5.trans s6;have s06:=s04.trans s46;refine⟨_,rfl,_,rfl,_,rfl,n,l,m,180,_,L,ds,k,_,rfl,DW.net (nt.same s06),hk,fun t7 zs7 hp7 vv H7 nt7 s7 e7 F7 lh7 lo7 OV7 SV7 hv7=>?_⟩;refine⟨y,t7,(.pc,u,v,s0),_,zs7,hp7,m,rfl,⟨dy,(s24.trans (s46.trans s7)) _ _ hy⟩,⟨SqL.of e7,F7,lh7,Fd OV7 lo7 (by lia)⟩,⟨u0,u1,v0,v1⟩,fun f2 H8 s8 e8=>?_⟩;have ff2:Fq K H8 f2 (flF hp7 (.pc,u,v,s0)):=Fq.of e8;obtain⟨lf2,bf2,vf2⟩:=flk lh7 lo7 OV7;rw[hv7 _ (by lia),hv7 _ (by lia)] at vf2;generalize flF hp7 (.pc,u,v,s0)=f2q at ff2 lf2 bf2 vf2;have s68:=s7.trans s8;have s48:=s46.trans s68;refine⟨_,rfl,_,rfl,w3,f1,M,f1q,65,1674,rfl,s48.fq fM,s68.fq ff1,lM.pos,lf1.pos,bM,bf1,by lia,fun g1 H9 s9 e9=>?_⟩;have lt1:=xD lM.pos lf1.pos;have bt1:=Cf bM bf1 lM.pos lf1.pos;have fg1:Fq K H9 g1 (mY M f1q):=Fq.of e9;generalize mY M f1q=t1q at lt1 bt1 fg1;have b01:Bd 1 (0,1):=Ze (n:=0);have l01:(1:Int)<=((0,1):Q2).2:=by show (1:Int)<=1;decide
 refine⟨aN,g1,(0,1),t1q,1,1739,rfl,fN _,fg1,l01,lt1.pos,b01,bt1,by lia,fun g2 HA sA eA=>?_⟩;have lt2:=iQ (p:=(0,1)) (q:=t1q) l01 lt1.pos;have bt2:=oQ (n:=1) (m:=1739) (p:=(0,1)) (q:=t1q) b01 bt1 l01 lt1.pos;have fg2:Fq K HA g2 (Mq.minus (0,1) t1q):=Fq.of eA;generalize Mq.minus (0,1) t1q=t2q at lt2 bt2 fg2;have s8A:=s9.trans sA;refine⟨_,rfl,_,rfl,w3,f2,M,f2q,65,1674,rfl,(s48.trans s8A).fq fM,s8A.fq ff2,lM.pos,lf2.pos,bM,bf2,by lia,fun g3 HB sB eB=>?_⟩;have lt3:=xD lM.pos lf2.pos;have bt3:=Cf bM bf2 lM.pos lf2.pos;have vt3:=Mq.Kg lM.pos lf2.pos;have fg3:Fq K HB g3 (mY M f2q):=Fq.of eB;generalize mY M f2q=t3q at lt3 bt3 vt3 fg3;refine⟨aO,g3,(1,1),t3q,1,1739,rfl,fO _,fg3,l11,lt3.pos,Kh,bt3,by lia,fun g4 HC sC eC=>?_⟩;have lt4:=tV (p:=(1,1)) (q:=t3q) l11 lt3.pos;have bt4:=Bc (n:=1) (m:=1739) (p:=(1,1)) (q:=t3q) Kh bt3 l11 lt3.pos;have vt4:=vP (p:=(1,1)) (q:=t3q) l11 lt3.pos;have fg4:Fq K HC g4 (oW (1,1) t3q):=Fq.of eC;generalize oW (1,1) t3q=t4q at lt4 bt4 vt4 fg4;have po:=Ry o hk rfl SV7 (Uc sz'.lo.pos p0);have vt4:0 < val t4q:=by
  rw[vt4,vt3,uY,vM,vf2];exact po
 refine⟨g2,g4,t2q,t4q,1741,1741,rfl,(sB.trans sC).fq fg2,fg4,lt2.pos,lt4.pos,Vy lt4.pos vt4,bt2,bt4,by lia,fun r HD sD eD=>?_⟩;exact q r _ HD (s04.trans (s48.trans (s8A.trans (sB.trans (sC.trans sD))))) (Fq.of eD) (fun c=>absurd c hp)
theorem pH {H H':Hp}{x dx C:Addr}(hx:H x=none)(hd:H dx=none)(s:bQ x (upd (upd H dx (.own x)) x (.ins C dx [])) H'):bC H H':=fun b o h=>by
 have nb:b≠x:=aL h hx;exact s b o (mB (C:=C) hx hd b o h) nb
def Qi (CN CA CW:Addr)(K:Frag):Sp:=fun vs H Q _=>∃(x dx n l:Addr) (m:Nat) (L:Int) (ds:List RD),vs=[.ref x,.ref n]/\H x=some (.ins CW dx [])/\dH CN K H n l (m:Int) ds/\Dw m L ds/\
 ∀H',bQ x H H'->(∀X:List Addr,(∀y∈X,∃o,H y=some o)->fR X CN CA CW K H' x m ds)->Q .non H'
def Ol (CN CA CW:Addr)(K:Frag):Sp:=fun vs H Q _=>∃(w z:Addr) (m k:Nat) (L:Int) (ds:List RD) (d:RD) (p:Q2),vs=[.ref w,.int (k:Int),.ref z]/\fR [] CN CA CW K H w m ds/\Dw m L ds/\ds[k]?=some d/\Fq K H z p/\SzW L d.1 p/\
 ∀r q H',bQ w H H'->Fq K H' r q->(d.1=.pu->q=Mq.minus d.2.2.2 p)->(∀X:List Addr,(∀y∈X,∃o,H y=some o)->fR X CN CA CW K H' w m (szS ds k p))->Q (.ref r) H'
def Ob (CN CA CW:Addr)(K:Frag):Sp:=fun vs H Q _=>∃(w:Addr) (m:Nat) (ds:List RD),vs=[.ref w]/\fR [] CN CA CW K H w m ds/\∀lv fl,iE m ds lv fl->∀l xs H',bC H H'->H l=none->H' l=some (.lst xs)->Fqs K H' xs lv->Q (.ref l) H'
def Qb (CN CA CW:Addr)(K:Frag):Sp:=fun vs H Q _=>∃(w:Addr) (m:Nat) (ds:List RD),vs=[.ref w]/\fR [] CN CA CW K H w m ds/\∀lv fl,iE m ds lv fl->∀l xs H',bC H H'->H l=none->H' l=some (.lst xs)->Fqs K H' xs fl->Q (.ref l) H'
def Md (CN CA CW:Addr)(K:Frag):Sp:=fun vs H Q _=>∃(w:Addr) (m:Nat) (ds:List RD),vs=[.ref w]/\fR [] CN CA CW K H w m ds/\1<=m/\m<=20/\∀n l H',bC H H'->dH CN K H' n l (m:Int) ds->Q (.ref n) H'
abbrev xU:Stmt:=cO (top 76) 2
theorem Wy:aT ["self"] ["self"] (aD xU):=sK9
theorem Qx {dV:Value}{CW:Addr}(F:bZ K "heights" "Watch.heights" xU dV f fd)(WBx:WB K mg CW){CN CA:Addr}(ABx:AB K mg CA){gHt:Addr}{gdHt:FuncData}(GHt:aP P w K mg base CX0 1 gHt gdHt ["self"] (qH CA K))(bHt:aQ K gdHt ["self"] [])(mHt:dX K CA "heights" gHt):aP P w K mg base CX 2 f fd ["self"] (Ob CN CA CW K):=by
 refine F.ok Wy (fun vs H Q E h=>?_) fun _ A _ s H vs Q E hr h=>?_
 ·obtain⟨_,_,_,rfl,_⟩:=h;rfl
 obtain⟨w,m,ds,rfl,WA,q⟩:=h;have r1:=hr;refine⟨_,(aG (aX (cC (bL (pv 0) rfl) ABx.cl mHt GHt r1 bHt .nil aK))),?_⟩;obtain⟨dx,a,n,l,dxa,li,le,fo,dn,xs,ys,ts,lv,fl,hw,ha,hle,Fle,hfo,Ffo,AV,hn,hl,hRt,naw,nnw,_⟩:=WA.e;refine⟨_,rfl,w,CW,_,_,_,rfl,hw,WBx.cl,WBx.nC,zQ _ _,a,dxa,_,rfl,ha,tT _ _ _ (by decide +kernel) (by decide +kernel) (by decide +kernel),a,lv,fl,rfl,⟨dxa,li,le,fo,xs,ys,ha,SqL.of hle,Fle,SqL.of hfo,Ffo⟩,fun l1 xs1 H1 s1 n1 e1 F1=>?_⟩;exact q lv fl AV l1 xs1 H1 s1 n1 e1 F1
abbrev wO:Stmt:=cO (top 76) 3
theorem Wa:aT ["self"] ["self"] (aD wO):=sK9
theorem Tw {dV:Value}{CW:Addr}(F:bZ K "streams" "Watch.streams" wO dV f fd)(WBx:WB K mg CW){CN CA:Addr}(ABx:AB K mg CA){gSt:Addr}{gdSt:FuncData}(GSt:aP P w K mg base CX0 1 gSt gdSt ["self"] (wT CA K))(bSt:aQ K gdSt ["self"] [])(mSt:dX K CA "streams" gSt):aP P w K mg base CX 2 f fd ["self"] (Qb CN CA CW K):=by
 refine F.ok Wa (fun vs H Q E h=>?_) fun _ A _ s H vs Q E hr h=>?_
 ·obtain⟨_,_,_,rfl,_⟩:=h;rfl
 obtain⟨w,m,ds,rfl,WA,q⟩:=h;have r1:=hr;refine⟨_,(aG (aX (cC (bL (pv 0) rfl) ABx.cl mSt GSt r1 bSt .nil aK))),?_⟩;obtain⟨dx,a,n,l,dxa,li,le,fo,dn,xs,ys,ts,lv,fl,hw,ha,hle,Fle,hfo,Ffo,AV,hn,hl,hRt,naw,nnw,_⟩:=WA.e;refine⟨_,rfl,w,CW,_,_,_,rfl,hw,WBx.cl,WBx.nC,zQ _ _,a,dxa,_,rfl,ha,tT _ _ _ (by decide +kernel) (by decide +kernel) (by decide +kernel),a,lv,fl,rfl,⟨dxa,li,le,fo,xs,ys,ha,SqL.of hle,Fle,SqL.of hfo,Ffo⟩,fun l1 xs1 H1 s1 n1 e1 F1=>?_⟩;exact q lv fl AV l1 xs1 H1 s1 n1 e1 F1
abbrev wY:Stmt:=cO (top 76) 5
theorem Xx:aT ["self"] ["self"] (aD wY):=sK9
theorem Um {dV:Value}{CW:Addr}(F:bZ K "net" "Watch.net" wY dV f fd)(WBx:WB K mg CW){CN CA:Addr}(NTx:NT K mg CN){gCp:Addr}{gdCp:FuncData}(GCp:aP P w K mg base CX0 4 gCp gdCp ["self"] (Bh CN K))(bCp:aQ K gdCp ["self"] [])(mCp:dX K CN "copy" gCp):aP P w K mg base CX 5 f fd ["self"] (Md CN CA CW K):=by
 refine F.ok Xx (fun vs H Q E h=>?_) fun _ A _ s H vs Q E hr h=>?_
 ·obtain⟨_,_,_,rfl,_⟩:=h;rfl
 obtain⟨w,m,ds,rfl,WA,m1,m20,q⟩:=h;have r4:=hr;refine⟨_,(aG (aX (cC (bL (pv 0) rfl) NTx.cl mCp GCp r4 bCp .nil aK))),?_⟩;obtain⟨dx,a,n,l,dxa,li,le,fo,dn,xs,ys,ts,lv,fl,hw,ha,hle,Fle,hfo,Ffo,AV,hn,hl,hRt,naw,nnw,_⟩:=WA.e;refine⟨_,rfl,w,CW,_,_,_,rfl,hw,WBx.cl,WBx.nF,zG _ _,n,dn,_,rfl,hn,cX _ _ (by decide +kernel) (by decide +kernel),n,l,_,ds,rfl,⟨⟨dn,hn⟩,ts,hl,hRt⟩,by lia,by lia,fun n1 l1 H1 s1 _ _ nt1=>?_⟩;exact q n1 l1 H1 s1 nt1
theorem Au {K:Frag}{t C dx:Addr}{fs:List (Str × V)}{H H':Hp}(ht:H t=some (.ins C dx fs))(e:bQ t H H'){xs:List V}{ds:List RD}(q:Rts K H xs ds):Rts K H' xs ds:=by
 induction q with
 |nil=>exact .nil
 |cons h f _ ih=>exact .cons (bQ.seqTI ht e h) (bQ.seqTI ht e f) ih
theorem Oy {CN CA CW:Addr}{K:Frag}{H0 H2 H5:Hp}{x dx a n l dxa li le fo dn C2 dx2:Addr}{fs2:List (Str × V)}{xs ys ts:List V}{lv fl:List Q2}{m:Nat}{ds:List RD}(hx2:H2 x=some (.ins C2 dx2 fs2))(sx:bQ x H2 H5)(hx5:H5 x=some (.ins CW dx (gC a n)))(nax:a≠x)(ha:H2 a=some (.ins CA dxa (jD li le fo)))(hle:H2 le=some (.lst xs))(Fle:Fqs K H2 xs lv)(hfo:H2 fo=some (.lst ys))(Ffo:Fqs K H2 ys fl)(AV:iE m ds lv fl)(nnx:n≠x)(hn:H5 n=some (.ins CN dn (gL (m:Int) l)))(hl:H5 l=some (.lst ts))(hR:Rts K H5 ts ds)(nw:∀y o,H0 y=some o->a≠y/\le≠y/\fo≠y/\n≠y/\l≠y)(X:List Addr)(hX:∀y∈X,∃o,H0 y=some o):fR X CN CA CW K H5 x m ds:=
 ⟨dx,a,n,l,dxa,li,le,fo,dn,xs,ys,ts,lv,fl,hx5,sx _ _ ha nax,sx _ _ hle (dD hle hx2 (fun z=>by cases z)),bQ.fqsI hx2 sx Fle,sx _ _ hfo (dD hfo hx2 (fun z=>by cases z)),bQ.fqsI hx2 sx Ffo,AV,hn,hl,hR,nax,nnx,fun y hy=>let ⟨o,ho⟩:=hX y hy;nw y o ho⟩
abbrev xH:Stmt:=cO (top 76) 0
theorem Vp:aT ["self","net"] ["self","net"] (aD xH):=sK9
theorem Su {dV:Value}{CW:Addr}(F:bZ K "__init__" "Watch.__init__" xH dV f fd)(WBx:WB K mg CW){CN CA:Addr}(NTx:NT K mg CN)(ABx:AB K mg CA){gAI:Addr}{gdAI:FuncData}(GAI:aP P w K mg base CX0 8 gAI gdAI ["self","net"] (uC CN CA K))(bAI:aQ K gdAI ["self","net"] [])(MA:Mk K CA gAI){gCp:Addr}{gdCp:FuncData}(GCp:aP P w K mg base CX0 4 gCp gdCp ["self"] (Bh CN K))(bCp:aQ K gdCp ["self"] [])(mCp:dX K CN "copy" gCp):aP P w K mg base CX 10 f fd ["self","net"] (Qi CN CA CW K):=by
 refine F.ok Vp (fun vs H Q E h=>?_) fun _ A _ s H vs Q E hr h=>?_
 ·obtain⟨_,_,_,_,_,_,_,rfl,_⟩:=h;rfl
 obtain⟨x,dx,n,l,m,L,ds,rfl,hx,nt,DW,q⟩:=h;have r4:=hr.mono (show 4<=9 by lia);have r9:=hr;refine⟨_,(aB (gY (pv 0) (hV MA GAI r9 rfl ABx.mA bAI .nil aK (aA (pv 1) aE)) rfl)
  (aG (gY (pv 0) (cC (pv 1) NTx.cl mCp GCp r4 bCp .nil aK) rfl))),?_⟩
 have o:=DW.o;have m5:=DW.m5;have m1:=o.m1;refine⟨_,rfl,fun xa dxa hx0 hdx nxd=>?_⟩;have sm:=mB (C:=CA) hx0 hdx;refine⟨xa,dxa,n,l,m,180,_,L,ds,rfl,aC,DW.net (nt.same sm),Nat.le_trans DW.bwle (by decide),DW.eR,lV zD o.pt (by lia) o.fr _ (Nat.le_refl _),zX o,fun ps H2 sx2 an lps lo OV SV=>⟨rfl,?_⟩⟩;have s2:=pH hx0 hdx sx2;obtain⟨dxa',li,le,fo,xs,ys,ha,hle,Fle,hfo,Ffo,nw⟩:=an.e;have hx2:=s2 _ _ hx;have nxa:xa≠x:=Ne.symm (aL hx hx0);refine⟨_,rfl,x,CW,dx,[],rfl,hx2,WBx.cl,WBx.nC,by show 0 < 1000;decide,?_⟩;have x3:bQ x H2 (upd H2 x (.ins CW dx (cP "current" (.ref xa) []))):=fun b o h nb=>by rw[aY nb];exact h
 have hx3:upd H2 x (.ins CW dx (cP "current" (.ref xa) [])) x=some (.ins CW dx [(("current":Str),V.ref xa)]):=by rw[aC,Wl]
 try dsimp only
 generalize upd H2 x (.ins CW dx (cP "current" (.ref xa) []))=H3 at x3 hx3 ⊢;have nx:n≠x:=fun z=>by
  obtain⟨dn,a⟩:=nt.ob;rw[z,hx] at a;injection a with a
  injection a with _ _ a
  unfold gL at a;have:=bK ("kept":Str) "kept" (.ref l) (cP "point_count" (.int (m:Int)) []);rw[<- a,if_pos rfl] at this
  cases this
 have nt3:dH CN K H3 n l (m:Int) ds:=by
  obtain⟨⟨dn,hn⟩,ts,hl,hR⟩:=nt.same s2;exact⟨⟨dn,x3 _ _ hn nx⟩,ts,x3 _ _ hl (dD hl hx2 (fun z=>by cases z)),Au hx2 x3 hR⟩
 obtain⟨dn,hn3⟩:=nt3.ob;refine⟨_,rfl,n,dn,_,rfl,hn3,cX _ _ (by decide +kernel) (by decide +kernel),n,l,_,ds,rfl,nt3,by lia,by lia,fun n1 l1 H4 s4 nn1 nl1 nt4=>?_⟩;have hx4:=s4 _ _ hx3;refine⟨_,rfl,x,CW,dx,_,rfl,hx4,WBx.cl,WBx.nF,by show 1 < 1000;decide,?_⟩;have x5:bQ x H4 (upd H4 x (.ins CW dx (cP "followed" (.ref n1) [(("current":Str),V.ref xa)]))):=fun b o h nb=>by rw[aY nb];exact h
 have hx5:upd H4 x (.ins CW dx (cP "followed" (.ref n1) [(("current":Str),V.ref xa)])) x=some (.ins CW dx (gC xa n1)):=by rw[aC,Wp]
 show Q .non (upd H4 x (.ins CW dx (cP "followed" (.ref n1) [(("current":Str),V.ref xa)])));generalize upd H4 x (.ins CW dx (cP "followed" (.ref n1) [(("current":Str),V.ref xa)]))=H5 at x5 hx5 ⊢;have sx25:bQ x H2 H5:=x3.trans (s4.x.trans x5);have nn1x:n1≠x:=Ne.symm (aL hx3 nn1);obtain⟨⟨dn1,hn1⟩,ts1,hl1,hR1⟩:=nt4;have h03:∀{y:Addr} {o:HO},H y=some o->∃o',H3 y=some o':=fun {y o} ho=>by
  by_cases c:y=x
  ·rw[c];exact⟨_,hx3⟩
  ·exact⟨o,x3 _ _ (s2 _ _ ho) c⟩
 refine q H5 (fun b o h nb=>sx25 b o (s2 b o h) nb) (Oy hx2 sx25 hx5 nxa ha hle Fle hfo Ffo ⟨ps,rfl,rfl,lps,lo,OV,SV⟩ nn1x (x5 _ _ hn1 nn1x) (x5 _ _ hl1 (dD hl1 hx4 (fun z=>by cases z))) (Au hx4 x5 hR1) fun y oy hy=>?_);obtain⟨o3,h3⟩:=h03 hy;have nya:y≠xa:=aL hy hx0;obtain⟨c1,c2⟩:=nw y oy (sm _ _ hy) nya;exact⟨Ne.symm nya,c1,c2,Ne.symm (aL h3 nn1),Ne.symm (aL h3 nl1)⟩
abbrev yN:Stmt:=cO (top 76) 1
theorem Gd:aT ["self","k","size","changed","factor"] ["self","k","size"] (aD yN):=sK9
theorem Sc {dV:Value}{CW:Addr}(F:bZ K "change" "Watch.change" yN dV f fd)(WBx:WB K mg CW){CN CA:Addr}(NTx:NT K mg CN)(ABx:AB K mg CA){gAI:Addr}{gdAI:FuncData}(GAI:aP P w K mg base CX0 8 gAI gdAI ["self","net"] (uC CN CA K))(bAI:aQ K gdAI ["self","net"] [])(MA:Mk K CA gAI){gCp:Addr}{gdCp:FuncData}(GCp:aP P w K mg base CX0 4 gCp gdCp ["self"] (Bh CN K))(bCp:aQ K gdCp ["self"] [])(mCp:dX K CN "copy" gCp){gCh:Addr}{gdCh:FuncData}(GCh:aP P w K mg base CX0 5 gCh gdCh ["self","k","size"] (Bu CN K))(bCh:aQ K gdCh ["self","k","size"] [])(mCh:dX K CN "change" gCh)(G1:aP P w K mg base CX0 10 g1 gd1 ["net","answer","k","size"] (Vk CN CA K))(b1:aQ K gd1 ["net","answer","k","size"] [])(k1:kI9 K g1)(m1:mI9 mg "factor_of" g1):aP P w K mg base CX 11 f fd ["self","k","size"] (Ol CN CA CW K):=by
 refine F.ok Gd (fun vs H Q E h=>?_) fun _ A _ s H vs Q E hr h=>?_
 ·obtain⟨_,_,_,_,_,_,_,_,rfl,_⟩:=h;rfl
 obtain⟨x,z,m,k,L,ds,d,p,rfl,WA,DW,hk,fz,sz,q⟩:=h;have r4:=hr.mono (show 4<=10 by lia);have r5:=hr.mono (show 5<=10 by lia);have r9:=hr.mono (show 9<=10 by lia);refine⟨_,(aB (aV (i:=3) Gd.nd rfl (Or.inl rfl) (cC (bL (pv 0) rfl) NTx.cl mCp GCp r4 bCp .nil aK))
  (aB (bY (zU (pv 3) NTx.cl mCh GCh r5 bCh .nil aK (aA (pv 1) (aA (pv 2) aE))))
  (aB (aV (i:=4) Gd.nd rfl (Or.inl rfl) (aH G1 hr rfl m1 k1 b1 .nil aK (aA (bL (pv 0) rfl) (aA (bL (pv 0) rfl) (aA (pv 1) (aA (pv 2) aE))))))
  (aB (gY (pv 0) (hV MA GAI r9 rfl ABx.mA bAI .nil aK (aA (pv 3) aE)) rfl)
  (aB (gY (pv 0) (pv 3) rfl)
  (aG (aX (pv 4)))))))),?_⟩
 have o:=DW.o;have m5:=DW.m5;have m1:=o.m1;have DW':=DW.set hk sz;have o':=DW'.o;obtain⟨dx,a,n,l,dxa,li,le,fo,dn,xs,ys,ts,lv,fl,hw,ha,hle,Fle,hfo,Ffo,AV,hn,hl,hRt,naw,nnw,_⟩:=WA.e;refine⟨_,rfl,x,CW,_,_,_,rfl,hw,WBx.cl,WBx.nF,zG _ _,n,dn,_,rfl,hn,cX _ _ (by decide +kernel) (by decide +kernel),n,l,_,ds,rfl,⟨⟨dn,hn⟩,ts,hl,hRt⟩,by lia,by lia,fun n1 l1 H1 s1 nn1 nl1 nt1=>?_⟩;obtain⟨dn1,hn1⟩:=nt1.ob;refine⟨_,rfl,n1,dn1,_,rfl,hn1,cX _ _ (by decide +kernel) (by decide +kernel),_,rfl,_,rfl,n1,l1,z,(m:Int),(k:Int),ds,d.1,d.2.1,d.2.2.1,d.2.2.2,p,rfl,nt1,by lia,by rw[Int.toNat_natCast];exact hk,s1.fq fz,sz.lo,fun c=>(sz.pc c).1,sz.bd.mono (by lia),fun H2 sx2 nt2=>?_⟩;rw[Int.toNat_natCast,<- nX hk] at nt2;have s2:bC H H2:=fun b ob h=>sx2 b ob (s1 b ob h) (aL h nl1);have hw2:=s2 _ _ hw;refine⟨_,rfl,x,CW,_,_,_,rfl,hw2,WBx.cl,WBx.nF,zG _ _,_,rfl,x,CW,_,_,_,rfl,hw2,WBx.cl,WBx.nC,zQ _ _,_,rfl,_,rfl,n,l,a,z,m,k,L,ds,d,p,lv,fl,rfl,⟨⟨dn,s2 _ _ hn⟩,ts,s2 _ _ hl,hRt.same s2⟩,DW,⟨dxa,li,le,fo,xs,ys,s2 _ _ ha,SqL.of (s2 _ _ hle),Fle.same s2,SqL.of (s2 _ _ hfo),Ffo.same s2⟩,AV,hk,s2.fq fz,sz,fun rf qf H3 s3 frf eqf=>?_⟩;have s03:=s2.trans s3;have hw3:=s03 _ _ hw;have nt3:=nt2.same s3
 try dsimp only
 refine⟨_,rfl,fun xa dxa' hx0 hdx nxd=>?_⟩;have sm:=mB (C:=CA) hx0 hdx;refine⟨xa,dxa',n1,l1,m,180,_,L,szS ds k p,rfl,aC,DW'.net (nt3.same sm),Nat.le_trans DW'.bwle (by decide),DW'.eR,lV zD o'.pt (by lia) o'.fr _ (Nat.le_refl _),zX o',fun ps H4 sx4 an lps lo OV SV=>⟨rfl,?_⟩⟩;have s4:=pH hx0 hdx sx4;obtain⟨dxb,li',le',fo',xs',ys',ha',hle',Fle',hfo',Ffo',nw⟩:=an.e;have hw4:=s4 _ _ hw3;refine⟨_,rfl,x,CW,dx,_,rfl,hw4,WBx.cl,WBx.nC,by show 2 < 1000;decide,?_⟩;have x5:bQ x H4 (upd H4 x (.ins CW dx (cP "current" (.ref xa) (gC a n)))):=fun b o h nb=>by rw[aY nb];exact h
 have hx5:upd H4 x (.ins CW dx (cP "current" (.ref xa) (gC a n))) x=some (.ins CW dx (gC xa n)):=by rw[aC,Xj]
 show gF _ _ _ _ (upd H4 x (.ins CW dx (cP "current" (.ref xa) (gC a n))));generalize upd H4 x (.ins CW dx (cP "current" (.ref xa) (gC a n)))=H5 at x5 hx5 ⊢;refine⟨_,rfl,_,rfl,x,CW,dx,_,rfl,hx5,WBx.cl,WBx.nF,by show 2 < 1000;decide,?_⟩;have x6:bQ x H5 (upd H5 x (.ins CW dx (cP "followed" (.ref n1) (gC xa n)))):=fun b o h nb=>by rw[aY nb];exact h
 have hx6:upd H5 x (.ins CW dx (cP "followed" (.ref n1) (gC xa n))) x=some (.ins CW dx (gC xa n1)):=by rw[aC,Yv]
 refine⟨_,rfl,?_⟩;show Q (.ref rf) (upd H5 x (.ins CW dx (cP "followed" (.ref n1) (gC xa n))));generalize upd H5 x (.ins CW dx (cP "followed" (.ref n1) (gC xa n)))=H6 at x6 hx6 ⊢;have sx46:bQ x H4 H6:=x5.trans x6;have nn1x:n1≠x:=Ne.symm (aL hw nn1);have nxa:xa≠x:=Ne.symm (aL hw3 hx0);obtain⟨⟨dn4,hn4⟩,ts4,hl4,hR4⟩:=nt3.same s4;refine q rf qf H6 (fun b ob h nb=>sx46 b ob (s4 b ob (s03 b ob h)) nb) (bQ.seqTI hw4 sx46 (s4.fq frf)) eqf (Oy hw4 sx46 hx6 nxa ha' hle' Fle' hfo' Ffo' ⟨ps,rfl,rfl,lps,lo,OV,SV⟩ nn1x (sx46 _ _ hn4 nn1x) (sx46 _ _ hl4 (dD hl4 hw4 (fun z=>by cases z))) (Au hw4 sx46 hR4) fun y oy hy=>?_);have h3:=s03 _ _ hy;have nya:y≠xa:=aL h3 hx0;obtain⟨c1,c2⟩:=nw y oy (sm _ _ h3) nya;exact⟨Ne.symm nya,c1,c2,Ne.symm (aL hy nn1),Ne.symm (aL hy nl1)⟩
abbrev xY:Stmt:=top 79
theorem Qo:aT ["_law_script","_law_k","_law_found"] ["_law_script","_law_k"] (aD xY):=sK9
def Fp (K:Frag):Sp:=fun vs H Q _=>∃(a:Addr) (ns:List Int) (j:Int) (k:Nat),vs=[.ref a,.int j]/\j=(k:Int)/\SqL K H a (ns.map V.int)/\ns.length<=63/\∀i H',bC H H'->Q (.int i) H'
theorem Tx {dV:Value}(F:bZ K "_law_draw" "_law_draw" xY dV f fd) :
  aP P w K mg base CX 1 f fd ["_law_script","_law_k"] (Fp K):=by
 refine F.ok Qo (fun vs H Q E h=>?_) fun _ A _ s H vs Q E hr h=>?_
 ·obtain⟨_,_,_,_,rfl,_⟩:=h;rfl
 obtain⟨a,ns,j,k,rfl,hj,hS,h63,q⟩:=h;have hu:=hr.units;refine⟨_,(aB (aV (i:=2) Qo.nd rfl (Or.inl rfl) (fI iB (pv 0) (fY (pv 1)) (fY (aZ dR (pv 1) aF))))
  (aB (cD (bF (oA hu) (pv 2) (cU aE) (bG _)) (aG (aX aF)) bH)
  (aG (aX (aW bX (pv 2) aF (fun _ _=>rfl)))))),?_⟩
 refine⟨_,rfl,_,rfl,j,rfl,_,rfl,_,_,rfl,rfl,j+1,rfl,a,_,rfl,hS,fun l hl=>?_⟩;have s1:=aI hl (.lst (kK (ns.map V.int) (some j) (some (j+1))));have e1:upd H l (.lst (kK (ns.map V.int) (some j) (some (j+1)))) l=some (.lst (kK (ns.map V.int) (some j) (some (j+1)))):=aC;obtain⟨ms,em,lm⟩:=Bw ns (some j) (some (j+1));rw[em] at e1 s1 ⊢;generalize upd H l (.lst (ms.map V.int))=H1 at e1 s1 ⊢;refine⟨_,rfl,zl9 0,fun e he=>?_⟩;have s2:=aI he (.lst []);refine Mt (s2.seq (SqL.of e1)) (SqL.of aC) ⟨_,rfl,?_⟩;rcases ms with _ | ⟨m,ms⟩
 ·exact gW (q 0 _ (s1.trans s2))
 ·refine gK ⟨_,rfl,l,_,_,_,rfl,rfl,s2.seq (SqL.of e1),cL (j:=0) rfl,q m _ (s1.trans s2)⟩
abbrev rN:Stmt:=top 80
theorem vO:aT ["_law_cell","_law_turn","_law_many","_law_left","_law_k","_law_by","_law_prime","_law_x"] ["_law_cell","_law_turn","_law_many"] (aD rN):=sK9
def yO:Sp:=fun vs H Q _=>∃c t m:Int,vs=[.int c,.int t,.int m]/\0<=t/\t<=9/\0 < m/\∀r H',0<=r->r < m->bC H H'->Q (.int r) H'
theorem Zx {a0 a1 a2 a3 a4 a5 a6 a7 a8 a9:Int}(hp:0 < a0/\0 < a1/\0 < a2/\0 < a3/\0 < a4/\0 < a5/\0 < a6/\0 < a7/\0 < a8/\0 < a9)(hm:a0 < 1000000/\a1 < 1000000/\a2 < 1000000/\a3 < 1000000/\a4 < 1000000/\a5 < 1000000/\a6 < 1000000/\a7 < 1000000/\a8 < 1000000/\a9 < 1000000){t:Int}(h0:0<=t)(h9:t<=9) :
  ∃v,atI [V.int a0,.int a1,.int a2,.int a3,.int a4,.int a5,.int a6,.int a7,.int a8,.int a9] t=some (.int v)/\0 < v/\v < 1000000:=by
 have:t=0\/t=1\/t=2\/t=3\/t=4\/t=5\/t=6\/t=7\/t=8\/t=9:=by lia
 rcases this with rfl | rfl | rfl | rfl | rfl | rfl | rfl | rfl | rfl | rfl
 all_goals exact⟨_,rfl,by lia,by lia⟩
abbrev l48:List Int:=[48271,69621,16807,40692,39373,30269,27183,60013,51749,35969]
abbrev l99:List Int:=[999983,999979,999961,999959,999953,999931,999917,999907,999883,999863]
@[irreducible] def md1:Stmt:=(aM rN).getD 1 (.Pass ⟨0,0,0,0⟩)
@[irreducible] def md2:Stmt:=(aM rN).getD 2 (.Pass ⟨0,0,0,0⟩)
def md0:Stmt:=(aM rN).getD 0 (.Pass ⟨0,0,0,0⟩)
def md3:Stmt:=(aM rN).getD 3 (.Pass ⟨0,0,0,0⟩)
def md4:Stmt:=(aM rN).getD 4 (.Pass ⟨0,0,0,0⟩)
theorem qa7:aM rN=[md0,md1,md2,md3,md4]:=by unfold md1 md2;rfl
theorem Yq:∃(q q2 p2 p3 p:Pos) (l:List (Int × _ × Pos)),md1=.Assign [.Name "_law_by" q] (.Subscript (.List (l.map fun q=>Expr.Constant (.int q.1) q.2.1 q.2.2) p2) (.Name "_law_turn" q2) p3) p/\l.map (fun q=>V.int q.1)=l48.map V.int:=by
 unfold md1;exact⟨_,_,_,_,_,[(48271,_,_),(69621,_,_),(16807,_,_),(40692,_,_),(39373,_,_),(30269,_,_),(27183,_,_),(60013,_,_),(51749,_,_),(35969,_,_)],rfl,rfl⟩
theorem Xq:∃(q q2 p2 p3 p:Pos) (l:List (Int × _ × Pos)),md2=.Assign [.Name "_law_prime" q] (.Subscript (.List (l.map fun q=>Expr.Constant (.int q.1) q.2.1 q.2.2) p2) (.Name "_law_turn" q2) p3) p/\l.map (fun q=>V.int q.1)=l99.map V.int:=by
 unfold md2;exact⟨_,_,_,_,_,[(999983,_,_),(999979,_,_),(999961,_,_),(999959,_,_),(999953,_,_),(999931,_,_),(999917,_,_),(999907,_,_),(999883,_,_),(999863,_,_)],rfl,rfl⟩
theorem Wx {dV:Value}(F:bZ K "_law_mix" "_law_mix" rN dV f fd)(mr:mg "range"=none) :
  aP P w K mg base CX 1 f fd ["_law_cell","_law_turn","_law_many"] yO:=by
 refine F.ok vO (fun vs H Q E h=>?_) fun _ A _ s H vs Q E hr h=>?_
 ·obtain⟨_,_,_,rfl,_⟩:=h;rfl
 obtain⟨c,t,m,rfl,h0,h9,hm,q⟩:=h;rw[qa7];obtain⟨q1,q2,q3,q4,q5,l1,e1,eo1⟩:=Yq;obtain⟨r1,r2,r3,r4,r5,l2,e2,eo2⟩:=Xq;rw[e1,e2];refine⟨_,(aB (cD (bF eZ (aZ kQ (pv 0) aF) aF (bG _)) (aB (aV (i:=3) vO.nd rfl (Or.inl rfl) (aZ oP (pv 0) aF))
  (aB (fU PassesOwn.never rfl (mC rfl mr (aA (pv 1) aE)) (bU (i:=4) vO.nd rfl (Or.inl rfl))
   (aG (aV (i:=3) vO.nd rfl (Or.inl rfl) (aZ oP (pv 3) (aZ lC aF aF)))))
  (aG (aX (aZ kG (pv 3) (pv 2)))))) bH)
  (aB (aV (i:=5) vO.nd rfl (Or.inl rfl) (aW bX (cU (Bp _ l1)) (pv 1) (fun _ _=>rfl)))
  (aB (aV (i:=6) vO.nd rfl (Or.inl rfl) (aW bX (cU (Bp _ l2)) (pv 1) (fun _ _=>rfl)))
  (aB (aV (i:=7) vO.nd rfl (Or.inl rfl) (aZ kQ (pv 0) aF))
  (aG (aX (aZ kG (aZ oP (aZ kG (aZ dR (aZ dR (aZ dB (aZ uQ aF (pv 7)) (pv 7)) (aZ dB (pv 5) (pv 7))) (aZ uQ aF (aZ dR (pv 1) aF))) (pv 6)) aF) (pv 2)))))))),?_⟩
 rw[eo1,eo2];have hf:∀u:Int,0<=u.fmod m/\u.fmod m < m:=fun u=>⟨Int.fmod_nonneg_of_pos u hm,Int.fmod_lt_of_pos u hm⟩
 have m0:m≠0:=by lia
 refine⟨_,rfl,_,_,rfl,rfl,(show (0:Int) < 2 by decide),rfl,_,rfl,rK (fun _=>?_) (fun _=>?_)⟩
 ·refine⟨_,rfl,_,_,rfl,rfl,⟨by decide,by decide⟩,?_⟩;refine⟨_,rfl,t,rfl,by lia,by lia,?_⟩;refine jR (n:=t.toNat) (fun i σ H'=>H'=H/\∃u z,σ=[some (.int c),some (.int t),some (.int m),some (.int u),z,none,none,none]) ⟨rfl,_,none,rfl⟩ ?_ ?_
  ·rintro i σ H' hi ⟨rfl,u,z,rfl⟩;exact⟨_,rfl,_,_,rfl,rfl,⟨by decide,by decide,by decide⟩,_,_,rfl,rfl,⟨by decide,by decide⟩,rfl,_,_,rfl⟩
  ·rintro σ H' ⟨rfl,u,z,rfl⟩;exact⟨_,rfl,_,rfl,_,_,rfl,rfl,m0,q _ _ (hf u).1 (hf u).2 (bC.refl _)⟩
 ·refine⟨zl9 10,fun l1 hl1=>?_⟩;obtain⟨by_,eb,b1,b2⟩:=Zx (a0:=48271) (a1:=69621) (a2:=16807) (a3:=40692) (a4:=39373) (a5:=30269) (a6:=27183) (a7:=60013) (a8:=51749) (a9:=35969) (by decide) (by decide) h0 h9;have s1:=aI hl1 (.lst (l48.map V.int));have g1:upd H l1 (.lst (l48.map V.int)) l1=some (.lst (l48.map V.int)):=aC;generalize upd H l1 (.lst (l48.map V.int))=H1 at s1 g1 ⊢;refine⟨_,rfl,l1,_,_,_,rfl,rfl,SqL.of g1,eb,?_⟩;refine⟨zl9 10,fun l2 hl2=>?_⟩;obtain⟨pr,ep,p1,p2⟩:=Zx (a0:=999983) (a1:=999979) (a2:=999961) (a3:=999959) (a4:=999953) (a5:=999931) (a6:=999917) (a7:=999907) (a8:=999883) (a9:=999863) (by decide) (by decide) h0 h9;have s2:=aI hl2 (.lst (l99.map V.int));have g2:upd H1 l2 (.lst (l99.map V.int)) l2=some (.lst (l99.map V.int)):=aC;generalize upd H1 l2 (.lst (l99.map V.int))=H2 at s2 g2 ⊢;refine⟨_,rfl,l2,_,_,_,rfl,rfl,SqL.of g2,ep,?_⟩;refine⟨_,rfl,_,_,rfl,rfl,(show (0:Int) < 2147483647 by decide),?_⟩;have x1:=Int.emod_nonneg c (show (2147483647:Int)≠0 by decide);have x2:=Int.emod_lt_of_pos c (show (0:Int) < 2147483647 by decide);generalize c % 2147483647=x at x1 x2 ⊢;refine⟨_,rfl,_,_,rfl,rfl,Or.inl ⟨by decide,by decide⟩,_,rfl,dA (n:=40) (m:=40) (uI (by lia) (by lia)) (uI (by lia) (by lia)) (by lia) (by lia) ?_⟩;refine⟨_,rfl,_,rfl,dA (n:=40) (m:=40) (uI (by lia) (by lia)) (uI (by lia) (by lia)) (by lia) (by lia) ⟨_,_,rfl,rfl,?_⟩⟩;refine⟨_,rfl,_,_,rfl,rfl,_,_,rfl,rfl,Or.inl ⟨by decide,by decide⟩,_,_,rfl,rfl,_,rfl,_,_,rfl,rfl,by lia,_,_,rfl,rfl,⟨by decide,by decide⟩,_,rfl,_,_,rfl,rfl,m0,?_⟩;exact q _ _ (hf _).1 (hf _).2 (s1.trans s2)
abbrev Lf:Stmt:=top 81
theorem Ia:aT ["_law_cell","_law_turn","_law_left","_law_k"] ["_law_cell","_law_turn"] (aD Lf):=sK9
def Vj:Sp:=fun vs H Q _=>∃c t:Int,vs=[.int c,.int t]/\0<=t/\t<=9/\∀r:Int,-1000000000000<=r->r<=1000000000000->Q (.int r) H
theorem p12:(10:Int) ^ (12:Int).toNat=1000000000000:=by decide
theorem Wt {dV:Value}(F:bZ K "_law_far" "_law_far" Lf dV f fd)(mr:mg "range"=none) :
  aP P w K mg base CX 1 f fd ["_law_cell","_law_turn"] Vj:=by
 refine F.ok Ia (fun vs H Q E h=>?_) fun _ A _ s H vs Q E hr h=>?_
 ·obtain⟨_,_,rfl,_⟩:=h;rfl
 obtain⟨c,t,rfl,h0,h9,q⟩:=h;refine⟨_,(aB (cD (bF eZ (aZ kQ (pv 0) aF) aF (bG _)) (aB (aV (i:=2) Ia.nd rfl (Or.inl rfl) (aZ oP (pv 0) aF))
  (aB (fU PassesOwn.never rfl (mC rfl mr (aA aF aE)) (bU (i:=3) Ia.nd rfl (Or.inl rfl))
   (aG (aV (i:=2) Ia.nd rfl (Or.inl rfl) (aZ oP (pv 2) (aZ lC aF aF)))))
  (aG (aX (aZ iF (aZ kQ (pv 2) (aZ dR (aZ uQ aF (aZ lC aF aF)) aF)) (aZ lC aF aF)))))) bH)
  (aG (aX (aZ iF (aZ kQ (aZ dB (aZ kQ (pv 0) (aZ lC aF aF)) (aZ dR (aZ uQ aF (pv 1)) aF)) (aZ dR (aZ uQ aF (aZ lC aF aF)) aF)) (aZ lC aF aF))))),?_⟩
 have fin:∀u:Int,Q (.int (u % (2*10 ^ (12:Int).toNat+1) - 10 ^ (12:Int).toNat)) H:=fun u=>by
  rw[p12];have x1:=Int.emod_nonneg u (show (2*1000000000000+1:Int)≠0 by decide);have x2:=Int.emod_lt_of_pos u (show (0:Int) < 2*1000000000000+1 by decide);exact q _ (by lia) (by lia)
 refine⟨_,rfl,_,_,rfl,rfl,(show (0:Int) < 2 by decide),rfl,_,rfl,rK (fun _=>?_) (fun _=>?_)⟩
 ·refine⟨_,rfl,_,_,rfl,rfl,⟨by decide,by decide⟩,?_⟩;refine⟨_,rfl,by lia,by lia,?_⟩;refine jR (n:=10) (fun i σ H'=>H'=H/\∃u z,σ=[some (.int c),some (.int t),some (.int u),z]) ⟨rfl,_,none,rfl⟩ ?_ ?_
  ·rintro i σ H' hi ⟨rfl,u,z,rfl⟩;exact⟨_,rfl,_,_,rfl,rfl,⟨by decide,by decide,by decide⟩,_,_,rfl,rfl,⟨by decide,by decide⟩,rfl,_,_,rfl⟩
  ·rintro σ H' ⟨rfl,u,z,rfl⟩;exact⟨_,rfl,_,_,rfl,rfl,⟨by decide,by decide,by decide⟩,_,_,rfl,rfl,Or.inl ⟨by decide,by decide⟩,_,_,rfl,rfl,_,_,rfl,rfl,(show (0:Int) < 2*10 ^ (12:Int).toNat+1 by decide),_,_,rfl,rfl,⟨by decide,by decide,by decide⟩,_,_,rfl,rfl,fin u⟩
 ·refine⟨_,rfl,_,_,rfl,rfl,⟨by decide,by decide,by decide⟩,_,_,rfl,rfl,(show (0:Int) < 10 ^ (12:Int).toNat by decide),?_⟩;have x1:=Int.emod_nonneg c (show (10 ^ (12:Int).toNat:Int)≠0 by decide);have x2:=Int.emod_lt_of_pos c (show (0:Int) < 10 ^ (12:Int).toNat by decide);rw[p12] at x1 x2;refine⟨_,rfl,_,_,rfl,rfl,Or.inl ⟨by decide,by decide⟩,_,_,rfl,rfl,dA (n:=40) (m:=40) (uI (by rw[p12];lia) (by rw[p12];lia)) (uI (by lia) (by lia)) (by lia) (by lia) ?_⟩;exact⟨_,_,rfl,rfl,⟨by decide,by decide,by decide⟩,_,_,rfl,rfl,Or.inl ⟨by decide,by decide⟩,_,_,rfl,rfl,_,_,rfl,rfl,(show (0:Int) < 2*10 ^ (12:Int).toNat+1 by decide),_,_,rfl,rfl,⟨by decide,by decide,by decide⟩,_,_,rfl,rfl,fin _⟩
abbrev mO:Stmt:=top 82
theorem oZ:aT ["_law_top","_law_bottom","_law_one","_law_other"] ["_law_top","_law_bottom"] (aD mO):=sK9
theorem Kl {dV:Value}(F:bZ K "_law_lowest" "_law_lowest" mO dV f fd)(b:Bl mg) :
  aP P w K mg base CX 1 f fd ["_law_top","_law_bottom"] iW:=by
 refine F.ok oZ (fun vs H Q E h=>?_) fun _ A _ s H vs Q E hr h=>?_
 ·obtain⟨_,_,_,rfl,_⟩:=h;rfl
 obtain⟨t,b',n,rfl,hb,hB,hn,q⟩:=h;refine⟨_,(aB (Mv (i:=2) (j:=3) rfl oZ.nd rfl rfl (by decide) rfl rfl (aA (cI pD rfl b.abs PyProof.Rows.boot_abs (aA (pv 0) aE)) (aA (cI pD rfl b.abs PyProof.Rows.boot_abs (aA (pv 1) aE)) aE)) rfl)
  (aB (vD PassesOwn.never (bF rG (pv 3) aF (bG _)) (aG (Mv (i:=2) (j:=3) rfl oZ.nd rfl rfl (by decide) rfl rfl (aA (pv 3) (aA (aZ kG (pv 2) (pv 3)) aE)) rfl)))
  (aB (cD (bF yG (pv 1) aF (bG _)) (aG (aV (i:=2) oZ.nd rfl (Or.inl rfl) (aZ iF aF (pv 2)))) bH)
  (aG (aX (dI (aA (aZ iZ (pv 0) (pv 2)) (aA (aZ iZ (pv 1) (pv 2)) aE)))))))),?_⟩
 refine⟨_,rfl,_,rfl,_,rfl,_,rfl,_,_,rfl,?_⟩;have g0:=Mq.Ym t b';have n0:0<=(if t < 0 then -t else t):=by split<;>lia
 have n1:0<=(if b' < 0 then -b' else b'):=by split<;>lia
 generalize (if t < 0 then -t else t)=x' at *
 generalize (if b' < 0 then -b' else b')=y' at *
 have hd:=qG (t:=t) hb;have hdB:Mq.B n (dvr t b'):=hB.le (Et hb);refine uO (fun σ H'=>H'=H/\∃u v,σ=[some (.int t),some (.int b'),some (.int u),some (.int v)]/\gc u v=gc t b'/\0<=u/\0<=v) (fun σ _=>match σ with | [_,_,_,some (.int v)]=>v.natAbs | _=>0) ⟨rfl,x',y',rfl,g0,n0,n1⟩ ?_ ?_
 ·rintro σ H' ⟨rfl,u,v,rfl,e,hu,hv0⟩;refine⟨_,rfl,rfl,_,rfl,?_⟩;refine rK (fun c=>?_) (fun c=>?_)
  ·have hv:v≠0:=by intro q;subst q;simp at c
   refine⟨_,rfl,_,rfl,_,rfl,_,_,rfl,rfl,hv,_,_,rfl,⟨rfl,v,Int.fmod u v,rfl,(Gn u v).trans e,hv0,Int.fmod_nonneg_of_pos u (by lia)⟩,xS hv⟩
  ·have hv:v=0:=by
    simp at c;exact c
   subst hv;have eu:u=gc t b':=by rw[<- e,Ii,if_neg (by lia)]
   subst eu;refine⟨_,rfl,_,_,rfl,rfl,_,rfl,rK (fun c=>?_) (fun c=>?_)⟩
   ·have hlt:b' < 0:=of_decide_eq_true c;have e:dvr t b'=0 - gc t b':=by unfold dvr;rw[if_pos hlt];lia
    rw[e] at hd hdB;have q':nV H' Q (t.fdiv (0 - gc t b'),b'.fdiv (0 - gc t b')):=by
     have z:=q;unfold red at z;rw[e] at z;exact z
    refine⟨_,rfl,_,_,rfl,rfl,?_⟩;refine⟨_,rfl,_,rfl,fQ hd hdB hn ⟨_,rfl,_,rfl,fQ hd hdB hn ⟨zl9 2,fun p hp=>?_⟩⟩⟩;exact q' p _ (aI hp _) aC
   ·have hlt:¬b' < 0:=fun z=>c (decide_eq_true z);have e:dvr t b'=gc t b':=by unfold dvr;rw[if_neg hlt]
    rw[e] at hd hdB;have q':nV H' Q (t.fdiv (gc t b'),b'.fdiv (gc t b')):=by
     have z:=q;unfold red at z;rw[e] at z;exact z
    refine⟨_,rfl,_,rfl,fQ hd hdB hn ⟨_,rfl,_,rfl,fQ hd hdB hn ⟨zl9 2,fun p hp=>?_⟩⟩⟩;exact q' p _ (aI hp _) aC
 ·rintro σ H Q Q' m ⟨v,h1,h2,k,h3,h4⟩;exact⟨v,h1,h2,k,h3,m _ _ h4⟩
abbrev qZ:Stmt:=top 83
theorem Qt:aT ["_law_one","_law_other"] ["_law_one","_law_other"] (aD qZ):=sK9
theorem Ph {dV:Value}(F:bZ K "_law_less" "_law_less" qZ dV f fd)(G1:aP P w K mg base CX0 1 g1 gd1 ["_law_top","_law_bottom"] iW)(b1:aQ K gd1 ["_law_top","_law_bottom"] [])(k1:kI9 K g1)(m1:mI9 mg "_law_lowest" g1) :
  aP P w K mg base CX 2 f fd ["_law_one","_law_other"] (jF K Mq.minus):=by
 refine F.ok Qt (fun vs H Q E h=>?_) fun _ A _ s H vs Q E hr h=>?_
 ·obtain⟨_,_,_,_,_,_,rfl,_⟩:=h;rfl
 obtain⟨a,b,p,q,n,m,rfl,fa,fb,hp,hq,bp,bq,hnm,z⟩:=h;refine⟨_,(aG (aX (aH G1 hr rfl m1 k1 b1 .nil aK (aA (aZ iF (aZ dB (aW bA (pv 0) aF (fun _ _=>rfl)) (aW bA (pv 1) aF (fun _ _=>rfl))) (aZ dB (aW bA (pv 1) aF (fun _ _=>rfl)) (aW bA (pv 0) aF (fun _ _=>rfl)))) (aA (aZ dB (aW bA (pv 0) aF (fun _ _=>rfl)) (aW bA (pv 1) aF (fun _ _=>rfl))) aE))))),?_⟩;refine fC rfl fa (cY rfl fb (dA bp.a bq.b (by lia) (by lia) ?_));refine fC rfl fb (cY rfl fa (dA bq.a bp.b (by lia) (by lia) ⟨_,_,rfl,rfl,?_⟩));refine cY rfl fa (cY rfl fb (dA bp.b bq.b (by lia) (by lia) ?_));exact⟨_,_,n+m,rfl,gZ hp hq,bp.b.mul bq.b,by lia,z⟩
theorem nV.same {H H':Hp}{Q:VK}{p:Q2}(s:bC H H')(h:nV H Q p):nV H' Q p:=fun a H2 s2 e=>h a H2 (s.trans s2) e
abbrev wM:Stmt:=top 84
theorem Ov:aT ["_law_found","_law_due","_law_number"] ["_law_found","_law_due"] (aD wM):=sK9
def Ls (K:Frag):Sp:=fun vs H Q _=>∃(a b:Addr) (p:Q2),vs=[.ref a,.ref b]/\Fq K H a p/\Fq K H b p/\Q (.bl true) H
theorem Qz {dV:Value}(F:bZ K "_law_told" "_law_told" wM dV f fd)(b:Bl mg)(ml:mg "len"=none)(mt:mg "tuple"=none) :
  aP P w K mg base CX 1 f fd ["_law_found","_law_due"] (Ls K):=by
 refine F.ok Ov (fun vs H Q E h=>?_) fun _ A _ s H vs Q E hr h=>?_
 ·obtain⟨_,_,_,rfl,_⟩:=h;rfl
 obtain⟨a,d,p,rfl,fa,fd',q⟩:=h;have hu:=hr.units;refine⟨_,(aB (cD (PW.pt (kH (gE (dY (iN (i:=0) rfl (Or.inl rfl) b.isi mt rfl rfl PyProof.Rows.boot_tuple))) (jI (bF rG (cI bV rfl ml PySem.boot_len (aA (pv 0) aE)) aF (bG _))))) (aG (aX fV)) bH)
  (aB (fU PassesOwn.never rfl (Ya (pv 0)) (bU (i:=2) Ov.nd rfl (Or.inl rfl))
   (aG (cD (PW.pt (kH (gE (dY (iN (i:=2) rfl (Or.inl rfl) b.isi b.int rfl rfl PyProof.Rows.boot_int))) (jI (dY (iN (i:=2) rfl (Or.inl rfl) b.isi b.bool rfl rfl PyProof.Rows.boot_bool))))) (aG (aX fV)) bH)))
  (aG (aX (iC (oA hu) (pv 0) (pv 1) (bG _)))))),?_⟩
 refine⟨_,_,true,rfl,.tup fa,rfl,_,rfl,gK ⟨_,rfl,a,_,rfl,.inr fa,rfl,_,rfl,gK ?_⟩⟩;refine⟨_,rfl,a,rfl,⟨_,fa⟩,?_⟩;refine Sg (xs:=[.int p.1,.int p.2]) (fun i σ H'=>H'=H/\∃z,σ=[some (.ref a),some (.ref d),z]) ⟨rfl,none,rfl⟩ (fun i σ H' _ h=>by rw[h.1];exact fa) ?_ ?_
 ·rintro i x σ H' hx ⟨rfl,z,rfl⟩;have hint:∃j,x=.int j:=by
   match i,hx with
   |0,h=>exact⟨p.1,by simpa using h.symm⟩
   |1,h=>exact⟨p.2,by simpa using h.symm⟩
   |n+2,h=>simp at h
  obtain⟨j,rfl⟩:=hint;refine⟨_,_,true,rfl,.of (.int j),rfl,_,rfl,gK ⟨_,_,false,rfl,.of (.int j),(by with_unfolding_all rfl),_,rfl,gK ⟨rfl,_,rfl⟩⟩⟩
 ·rintro σ H' ⟨rfl,z,rfl⟩;refine⟨_,rfl,_,rfl,Xk fa fd' ?_⟩;show Q (.bl (decide (p=p))) H';rw[decide_eq_true rfl];exact q
def Qp:Sp:=fun vs H Q _=>∃c:Int,vs=[.int c]/\∀p,Low p/\0 < p.1/\Bd 4 p->nV H Q p
abbrev yU:Stmt:=top 85
theorem Ye:aT ["_law_cell"] ["_law_cell"] (aD yU):=sK9
theorem Tb {dV:Value}(F:bZ K "_law_size" "_law_size" yU dV f fd)(G1:aP P w K mg base CX0 1 g1 gd1 ["_law_cell","_law_turn","_law_many"] yO)(b1:aQ K gd1 ["_law_cell","_law_turn","_law_many"] [])(k1:kI9 K g1)(m1:mI9 mg "_law_mix" g1)(G3:aP P w K mg base CX0 1 g3 gd3 ["_law_top","_law_bottom"] iW)(b3:aQ K gd3 ["_law_top","_law_bottom"] [])(k3:kI9 K g3)(m3:mI9 mg "_law_lowest" g3) :
  aP P w K mg base CX 2 f fd ["_law_cell"] Qp:=by
 refine F.ok Ye (fun vs H Q E h=>?_) fun _ A _ s H vs Q E hr h=>?_
 ·obtain⟨_,rfl,_⟩:=h;rfl
 obtain⟨c,rfl,q⟩:=h;refine⟨_,(aG (aX (aH G3 hr rfl m3 k3 b3 .nil aK (aA (aZ dR aF (aH G1 hr rfl m1 k1 b1 .nil aK (aA (pv 0) (aA aF (aA aF aE))))) (aA (aZ dR aF (aH G1 hr rfl m1 k1 b1 .nil aK (aA (pv 0) (aA aF (aA aF aE))))) aE))))),?_⟩;refine⟨_,rfl,c,3,12,rfl,by decide,by decide,by decide,fun r H1 r1 r2 s1=>⟨_,_,rfl,rfl,?_⟩⟩;refine⟨_,rfl,c,4,6,rfl,by decide,by decide,by decide,fun b H3 b1 b2 s3=>⟨_,_,rfl,rfl,?_⟩⟩;have b0:1+b≠0:=by lia
 have le:=kW (t:=1+r) b0;have bT:Mq.B 4 (1+r):=uI (by lia) (by lia);have bB:Mq.B 4 (1+b):=uI (by lia) (by lia);exact⟨1+r,1+b,4,rfl,b0,bB,by lia,nV.same (s1.trans s3) (q _ ⟨iA b0,Gi (by lia) (by lia),⟨bT.le le.1,bB.le le.2⟩⟩)⟩
def Hc (CN:Addr)(K:Frag):Sp:=fun vs H Q _=>∃(m:Int) (r:Addr) (us:List V) (ds:List RD),vs=[.int m,.ref r]/\1<=m/\m<=20/\SqL K H r us/\Rts K H us ds/\(∀d∈ds,zS m d)/\ds.length<=40/\∀n l H',bC H H'->H l=none->dH CN K H' n l m ds->Q (.ref n) H'
abbrev pL:Stmt:=top 86
theorem Ab:aT ["_law_many","_law_rows","_law_net_here","_law_row"] ["_law_many","_law_rows"] (aD pL):=sK9
theorem Nk {dV:Value}(F:bZ K "_law_net" "_law_net" pL dV f fd){CN:Addr}(NTx:NT K mg CN){gAd:Addr}{gdAd:FuncData}(GAd:aP P w K mg base CX0 5 gAd gdAd ["self","row"] (Ur CN K CK))(bAd:aQ K gdAd ["self","row"] [])(mAd:dX K CN "add" gAd){gNI:Addr}{gdNI:FuncData}(GNI:aP P w K mg base CX0 2 gNI gdNI ["self","many"] (Aw CN))(bNI:aQ K gdNI ["self","many"] [])(MN:Mk K CN gNI)(G1:aP P w K mg base CX0 3 g1 gd1 ["told"] (uF K CK))(b1:aQ K gd1 ["told"] [])(k1:kI9 K g1)(m1:mI9 mg "row_of" g1) :
  aP P w K mg base CX 6 f fd ["_law_many","_law_rows"] (Hc CN K):=by
 refine F.ok Ab (fun vs H Q E h=>?_) fun _ A _ s H vs Q E hr h=>?_
 ·obtain⟨_,_,_,_,rfl,_⟩:=h;rfl
 obtain⟨m,r,us,ds,rfl,hm1,hm20,hU,hR,hK,h40,q⟩:=h;have r3:=hr.mono (show 3<=5 by lia);refine⟨_,(aB (aV (i:=2) Ab.nd rfl (Or.inl rfl) (hV MN GNI r3 rfl NTx.mN bNI .nil aK (aA (pv 0) aE)))
  (aB (fU PassesOwn.never rfl (dM (pv 1)) (bU (i:=3) Ab.nd rfl (Or.inl rfl))
   (aG (bY (zU (pv 2) NTx.cl mAd GAd hr bAd .nil aK (aA (aH G1 r3 rfl m1 k1 b1 .nil aK (aA (pv 3) aE)) aE)))))
  (aG (aX (pv 2))))),?_⟩
 have lus:=hR.length;refine⟨_,rfl,fun n dx h1 h2 ne=>⟨n,dx,m,rfl,aC,hm1,hm20,fun l H2 nl keep hn hl=>⟨rfl,?_⟩⟩⟩;have s2:bC H H2:=fun b o e=>keep b o (by rw[aY (aL e h1),aY (aL e h2)];exact e) (aL e h1);have hl0:H l=none:=by
  cases o:H l with
  |none=>rfl
  |some o'=>
   have:(upd (upd H dx (.own n)) n (.ins CN dx [])) l=some o':=by rw[aY (aL o h1),aY (aL o h2)];exact o
   rw[this] at nl;cases nl
 refine⟨_,rfl,r,rfl,⟨_,s2.seq hU⟩,?_⟩;refine gH (xs:=us) (fun i σ H'=>bC H H'/\dH CN K H' n l m (ds.take i)/\∃z,σ=[some (.int m),some (.ref r),some (.ref n),z]) ⟨s2,⟨⟨dx,hn⟩,[],hl,.nil⟩,none,rfl⟩ (fun i σ H' _ h=>h.1.seq hU) ?_ ?_
 ·rintro i x σ H3 hx ⟨s3,N3,z,rfl⟩;have hi:i < ds.length:=by
   have:=(List.getElem?_eq_some_iff.mp hx).1;lia
  obtain⟨⟨k,u,v,p⟩,hd⟩:∃d,ds[i]?=some d:=⟨_,getElem?_eq_getElem hi⟩
  obtain⟨t,z',et,hT,fz⟩:=hR.at hd;have ex:x=.ref t:=by rw[et] at hx;exact(Option.some.inj hx).symm
  subst ex;obtain⟨dn,hn3⟩:=N3.ob;have lt:(ds.take i).length<=ds.length:=by rw[length_take];lia
  refine⟨_,rfl,n,dn,_,rfl,hn3,cX _ _ (by decide +kernel) (by decide +kernel),_,rfl,t,_,_,_,_,rfl,s3.seqT hT,k,rfl,fun y H4 s4 ny rw=>?_⟩;refine⟨n,l,y,z',m,ds.take i,k,u,v,p,rfl,N3.same s4,rw,(s3.trans s4).fq fz,hK _ (mem_of_getElem? hd),by rw[length_take];lia,fun H5 x5 N5=>?_⟩;refine⟨fun b o e=>x5 _ _ ((s3.trans s4) _ _ e) (aL e hl0),?_,_,rfl⟩;rw[take_add_one,hd];exact N5
 ·rintro σ H3 ⟨s3,N3,z,rfl⟩;rw[lus,take_length] at N3;exact⟨_,rfl,q n l H3 s3 hl0 N3⟩
theorem Ig {α β:Type}(f:α->β)(l:List α)(i:Nat)(e:α):(l.take i++e :: l.drop i).map f=(l.map f).take i++f e :: (l.map f).drop i:=by
 rw[map_append,map_cons,map_take,map_drop]
theorem Rts.take {K:Frag}{H:Hp}:∀{xs:List V} {ds:List RD} (n:Nat),Rts K H xs ds->Rts K H (xs.take n) (ds.take n)
 |_,_,0,_=>.nil
 |_,_,_+1,.nil=>.nil
 |_,_,n+1,.cons h f q=>.cons h f (Rts.take n q)
theorem Rts.drop {K:Frag}{H:Hp}:∀{xs:List V} {ds:List RD} (n:Nat),Rts K H xs ds->Rts K H (xs.drop n) (ds.drop n)
 |_,_,0,h=>h
 |_,_,_+1,.nil=>.nil
 |_,_,n+1,.cons _ _ q=>Rts.drop n q
theorem Hu {α:Type}(l:List α)(i:Nat)(e:α):(l.take i++e :: l.drop i).length=l.length+1:=by
 rw[length_append,length_cons,length_take,length_drop];lia
theorem Gk (k:Kd):decide (V.str k.wd=V.str "piece")=decide (k=.pc):=cZ k .pc
theorem Ve (k:Kd):decide (V.str k.wd=V.str "push")=decide (k=.pu):=cZ k .pu
def Ut (K:Frag):Sp:=fun vs H Q _=>∃(r e:Addr) (c:Int) (k:Kd) (us:List V) (ds:List RD) (i j:Int),vs=[.ref r,.int c,.str k.wd,.ref e]/\H r=some (.lst us)/\Rts K H us ds/\ds.length<=60/\SqT K H e [.int i,.int j]/\
 ∀y t (d:RD) H' H'',y<=us.length->bC H H'->d.1=k->((d.2.1=i/\d.2.2.1=j)\/(d.2.1=j/\d.2.2.1=i))->Low d.2.2.2->Bd 7 d.2.2.2->(k=.pc->0 < d.2.2.2.1/\Bd 4 d.2.2.2)->H''=upd H' r (.lst (us.take y++.ref t :: us.drop y))->Rts K H'' (us.take y++.ref t :: us.drop y) (ds.take y++d :: ds.drop y)->Q .non H''
abbrev Kc:Stmt:=top 87
theorem Gq:aT ["_law_rows","_law_cell","_law_word","_law_ends","_law_size_here"] ["_law_rows","_law_cell","_law_word","_law_ends"] (aD Kc):=sK9
theorem Wj {dV:Value}(F:bZ K "_law_put" "_law_put" Kc dV f fd)(ml:mg "len"=none)(G1:aP P w K mg base CX0 1 g1 gd1 ["_law_cell","_law_turn","_law_many"] yO)(b1:aQ K gd1 ["_law_cell","_law_turn","_law_many"] [])(k1:kI9 K g1)(m1:mI9 mg "_law_mix" g1)(G2:aP P w K mg base CX0 1 g2 gd2 ["_law_top","_law_bottom"] iW)(b2:aQ K gd2 ["_law_top","_law_bottom"] [])(k2:kI9 K g2)(m2:mI9 mg "_law_lowest" g2)(G3:aP P w K mg base CX0 2 g3 gd3 ["_law_cell"] Qp)(b3:aQ K gd3 ["_law_cell"] [])(k3:kI9 K g3)(m3:mI9 mg "_law_size" g3) :
  aP P w K mg base CX 3 f fd ["_law_rows","_law_cell","_law_word","_law_ends"] (Ut K):=by
 refine F.ok Gq (fun vs H Q E h=>?_) fun _ A _ s H vs Q E hr h=>?_
 ·obtain⟨_,_,_,_,_,_,_,_,rfl,_⟩:=h;rfl
 obtain⟨r,e,c,k,us,ds,i,j,rfl,er,hR,h60,he,q⟩:=h;have r1:=hr.mono (show 1<=2 by lia);refine⟨_,(aB (aV (i:=4) Gq.nd rfl (Or.inl rfl) (aH G3 hr rfl m3 k3 b3 .nil aK (aA (pv 1) aE)))
  (aB (cD (bF rG (pv 2) cQ (bG _)) (aG (aV (i:=4) Gq.nd rfl (Or.inl rfl) (aH G2 r1 rfl m2 k2 b2 .nil aK (aA (aZ iF (aH G1 r1 rfl m1 k1 b1 .nil aK (aA (pv 1) (aA aF (aA aF aE)))) aF) (aA (aZ dR aF (aH G1 r1 rfl m1 k1 b1 .nil aK (aA (pv 1) (aA aF (aA aF aE))))) aE))))) bH)
  (aB (cD (bF eZ (aH G1 r1 rfl m1 k1 b1 .nil aK (aA (pv 1) (aA aF (aA aF aE)))) aF (bG _)) (aG (aV (i:=3) Gq.nd rfl (Or.inl rfl) (dI (aA (aW bA (pv 3) aF (fun _ _=>rfl)) (aA (aW bA (pv 3) aF (fun _ _=>rfl)) aE))))) bH)
  (aG (bY (lQ PySem.F.plainAttrs_list PySem.F.slot_list_insert PySem.F.type_list_insert Ki (pv 0) (aA (aH G1 r1 rfl m1 k1 b1 .nil aK (aA (pv 1) (aA aF (aA (aZ dR (cI bV rfl ml PySem.boot_len (aA (pv 0) aE)) aF) aE)))) (aA (dI (aA (pv 2) (aA (aW bA (pv 3) aF (fun _ _=>rfl)) (aA (aW bA (pv 3) aF (fun _ _=>rfl)) (aA (pv 4) aE))))) aE)))))))),?_⟩
 have lu:=hR.length
 try dsimp only
 refine Xt (fun σ' H'=>bC H H'/\∃(z:Addr) (p:Q2),σ'=[some (.ref r),some (.int c),some (.str k.wd),some (.ref e),some (.ref z)]/\Fq K H' z p/\Low p/\Bd 7 p/\(k=.pc->0 < p.1/\Bd 4 p)) (fun X hX=>?_) ?_
 ·refine⟨_,rfl,c,rfl,fun p hp z H1 s1 e1=>?_⟩
  by_cases hk:k=.pc
  ·refine⟨_,rfl,rfl,_,rfl,L2.ifF (by show (!decide (V.str k.wd=V.str "piece"))=false;rw[Gk,decide_eq_true hk];rfl) ?_⟩;exact hX _ _ ⟨s1,z,p,rfl,Fq.of e1,hp.1,hp.2.2.mono (by lia),fun _=>⟨hp.2.1,hp.2.2⟩⟩
  ·refine⟨_,rfl,rfl,_,rfl,L2.ifT (by show (!decide (V.str k.wd=V.str "piece"))=true;rw[Gk,decide_eq_false hk];rfl) ?_⟩;refine⟨_,rfl,c,5,121,rfl,by decide,by decide,by decide,fun a H2 a1 a2 s2=>⟨_,_,rfl,rfl,?_⟩⟩;refine⟨_,rfl,c,6,12,rfl,by decide,by decide,by decide,fun b H3 b1 b2 s3=>⟨_,_,rfl,rfl,?_⟩⟩;have b0:1+b≠0:=by lia
   have le:=kW (t:=a - 60) b0;have bT:Mq.B 7 (a - 60):=uI (by lia) (by lia);have bB:Mq.B 7 (1+b):=uI (by lia) (by lia);exact⟨a - 60,1+b,7,rfl,b0,bB,by lia,fun z2 H4 s4 e4=>hX _ _ ⟨s1.trans (s2.trans (s3.trans s4)),z2,_,rfl,Fq.of e4,iA b0,⟨bT.le le.1,bB.le le.2⟩,fun h=>absurd h hk⟩⟩
 rintro σ1 H1 ⟨s1,z,p,rfl,fz,lp,bp,hpc⟩
 try dsimp only
 refine pE (fun σ' H'=>bC H1 H'/\∃(e':Addr) (i' j':Int),σ'=[some (.ref r),some (.int c),some (.str k.wd),some (.ref e'),some (.ref z)]/\SqT K H' e' [.int i',.int j']/\((i'=i/\j'=j)\/(i'=j/\j'=i))) (fun X hX=>?_) ?_
 ·refine⟨_,rfl,c,2,2,rfl,by decide,by decide,by decide,fun a H2 a1 a2 s2=>⟨rfl,_,rfl,rK (fun _=>?_) (fun _=>?_)⟩⟩
  ·refine⟨_,rfl,e,_,_,_,rfl,rfl,(s1.trans s2).seqT he,rfl,_,rfl,e,_,_,_,rfl,rfl,(s1.trans s2).seqT he,rfl,zl9 2,fun e2 he2=>?_⟩;have s3:=aI he2 (.tup [.int j,.int i]);exact hX _ _ ⟨s2.trans s3,e2,j,i,rfl,SqT.of aC,.inr ⟨rfl,rfl⟩⟩
  ·exact hX _ _ ⟨s2,e,i,j,rfl,(s1.trans s2).seqT he,.inl ⟨rfl,rfl⟩⟩
 rintro σ2 H2 ⟨s2,e',i',j',rfl,he',hij⟩;have s02:=s1.trans s2;have er2:=s02 _ _ er;refine⟨_,rfl,.inl ⟨rfl,_,SqL.of er2⟩,_,rfl,_,rfl,r,us,rfl,.inl (SqL.of er2),_,_,rfl,rfl,c,8,(us.length:Int)+1,rfl,by decide,by decide,by lia,fun y' H3 y0 y1 s3=>?_⟩;obtain⟨y,rfl⟩:∃y:Nat,y'=(y:Int):=⟨y'.toNat,by lia⟩
 have he3:=s3.seqT he';refine⟨_,rfl,_,rfl,e',_,_,_,rfl,rfl,he3,rfl,_,rfl,e',_,_,_,rfl,rfl,he3,rfl,_,rfl,zl9 4,fun t4 ht4=>?_⟩;have s4:=aI ht4 (.tup [.str k.wd,.int i',.int j',.ref z]);have e4:upd H3 t4 (.tup [.str k.wd,.int i',.int j',.ref z]) t4=some (.tup [.str k.wd,.int i',.int j',.ref z]):=aC;generalize upd H3 t4 (.tup [.str k.wd,.int i',.int j',.ref z])=H4 at s4 e4 ⊢;have s04:=s02.trans (s3.trans s4);have er4:=s04 _ _ er;refine⟨r,us,y,_,.ref t4,rfl,rfl,rfl,by lia,er4,bO (by lia),?_⟩;refine q y t4 (k,i',j',p) H4 _ (by lia) s04 rfl hij lp bp hpc rfl ?_;exact Rts.upd er4 ((Rts.take y (hR.same s04)).app (.cons (SqT.of e4) ((s2.trans (s3.trans s4)).fq fz) (Rts.drop y (hR.same s04))))
def kws (ks:List Kd):List V:=ks.map fun k=>V.str k.wd
theorem Xf {ks:List Kd}{r:Int}(h0:0<=r)(h:r < (ks.length:Int)):∃k,k∈ks/\atI (kws ks) r=some (.str (Kd.wd k)):=by
 obtain⟨n,rfl⟩:∃n:Nat,r=(n:Int):=⟨r.toNat,by lia⟩
 have hn:n < ks.length:=by lia
 refine⟨ks[n],getElem_mem hn,cL ?_⟩;unfold kws;rw[getElem?_map,getElem?_eq_getElem hn];rfl
theorem Dg {m t k:Nat}(m1:1<=m):Int.fmod ((k:Int)+(t:Int)) (m:Int)=((rot m t k:Nat):Int):=by
 rw[Int.fmod_eq_emod_of_nonneg _ (by lia)];show ((k:Int)+(t:Int)) % (m:Int)=(((k+t) % m:Nat):Int)
 rw[Int.natCast_emod,Int.natCast_add]
theorem qe1 (xs:List V)(j:Nat):(kK xs (some 8) (some (8+(j:Int)))).length<=j:=by
 unfold kK;have h1:HT.sIx xs.length xs.length (some (8+(j:Int)))=min (8+j) xs.length:=by
  simp only[HT.sIx];split<;>lia
 have h2:HT.sIx xs.length 0 (some 8)=min 8 xs.length:=by simp[HT.sIx]
 rw[h1,h2,length_take,length_drop];lia
theorem Se {m t k j:Nat}{d:RD}(m1:1<=m)(k1:1<=k)(km:k < m)(jk:j < k)(npu:d.1≠.pu)(lp:Low d.2.2.2)(bp:Bd 7 d.2.2.2)(hpc:d.1=.pc->0 < d.2.2.2.1/\Bd 4 d.2.2.2)(hij:(d.2.1=((rot m t k:Nat):Int)/\d.2.2.1=((rot m t j:Nat):Int))\/(d.2.1=((rot m t j:Nat):Int)/\d.2.2.1=((rot m t k:Nat):Int))):Lx m t (some (k,j),d):=by
 have a:=Qs (t:=t) m1 k;have b:=Qs (t:=t) m1 j;refine⟨?_,lp,bp,hpc,(fun _ z=>by cases z),fun k' j' e=>?_⟩
 ·rcases hij with ⟨x,y⟩ | ⟨x,y⟩<;>(show dC (m:Int) d.2.1 d.2.2.1;rw[x,y];exact⟨by lia,by lia,by lia,by lia⟩)
 ·have e:=Option.some.inj e;injection e with e1 e2
  subst e1 e2;exact⟨npu,k1,km,jk,hij⟩
theorem Ua {m t:Nat}{d:RD}(pt:dC (m:Int) d.2.1 d.2.2.1)(nho:d.1≠.ho)(lp:Low d.2.2.2)(bp:Bd 7 d.2.2.2)(hpc:d.1=.pc->0 < d.2.2.2.1/\Bd 4 d.2.2.2):Lx m t (none,d):=⟨pt,lp,bp,hpc,fun h=>absurd h nho,fun k j e=>by cases e⟩
def Ma (K:Frag):Sp:=fun vs H Q _=>∃(a w:Addr) (ns:List Int) (m ms:Nat) (ks:List Kd),vs=[.ref a,.int (m:Int),.int (ms:Int),.ref w]/\SqL K H a (ns.map V.int)/\ns.length<=63/\1<=m/\m<=20/\ms<=20/\SqL K H w (kws ks)/\1<=ks.length/\(∀k∈ks,k≠.pu)/\
 ∀r us t E H',bC H H'->H r=none->H' r=some (.lst us)->Rts K H' us (rwH E)->Hng m t m E->E.length<=m - 1+ms->Q (.ref r) H'
abbrev yR:Stmt:=top 88
theorem lU:aT ["_law_script","_law_many","_law_most","_law_words","_law_rows","_law_turn","_law_k","_law_cell","_law_ends"] ["_law_script","_law_many","_law_most","_law_words"] (aD yR):=sK9
theorem Rs {dV:Value}(F:bZ K "_law_hanging" "_law_hanging" yR dV f fd)(mr:mg "range"=none)(ml:mg "len"=none)(G1:aP P w K mg base CX0 1 g1 gd1 ["_law_script","_law_k"] (Fp K))(b1:aQ K gd1 ["_law_script","_law_k"] [])(k1:kI9 K g1)(m1:mI9 mg "_law_draw" g1)(G2:aP P w K mg base CX0 1 g2 gd2 ["_law_cell","_law_turn","_law_many"] yO)(b2:aQ K gd2 ["_law_cell","_law_turn","_law_many"] [])(k2:kI9 K g2)(m2:mI9 mg "_law_mix" g2)(G3:aP P w K mg base CX0 3 g3 gd3 ["_law_rows","_law_cell","_law_word","_law_ends"] (Ut K))(b3:aQ K gd3 ["_law_rows","_law_cell","_law_word","_law_ends"] [])(k3:kI9 K g3)(m3:mI9 mg "_law_put" g3) :
  aP P w K mg base CX 4 f fd ["_law_script","_law_many","_law_most","_law_words"] (Ma K):=by
 refine F.ok lU (fun vs H Q E h=>?_) fun _ A _ s H vs Q E hr h=>?_
 ·obtain⟨_,_,_,_,_,_,rfl,_⟩:=h;rfl
 obtain⟨a,w,ns,m,ms,ks,rfl,hS,h63,hm1,hm20,hms,hW,hks1,hks,q⟩:=h;have r1:=hr.mono (show 1<=3 by lia);refine⟨_,(aB (aV (i:=4) lU.nd rfl (Or.inl rfl) (cU aE))
  (aB (aV (i:=5) lU.nd rfl (Or.inl rfl) (aH G2 r1 rfl m2 k2 b2 .nil aK (aA (aH G1 r1 rfl m1 k1 b1 .nil aK (aA (pv 0) (aA aF aE))) (aA aF (aA (pv 1) aE)))))
  (aB (fU PassesOwn.never rfl (yQ rfl mr (aA aF (aA (pv 1) aE))) (bU (i:=6) lU.nd rfl (Or.inl rfl))
   (aB (aV (i:=7) lU.nd rfl (Or.inl rfl) (aH G1 r1 rfl m1 k1 b1 .nil aK (aA (pv 0) (aA (aZ dR aF (pv 6)) aE))))
  (aB (aV (i:=8) lU.nd rfl (Or.inl rfl) (dI (aA (aZ kG (aZ dR (pv 6) (pv 5)) (pv 1)) (aA (aZ kG (aZ dR (aH G2 r1 rfl m2 k2 b2 .nil aK (aA (pv 7) (aA aF (aA (pv 6) aE)))) (pv 5)) (pv 1)) aE))))
  (aG (bY (aH G3 hr rfl m3 k3 b3 .nil aK (aA (pv 4) (aA (pv 7) (aA (aW bX (pv 3) (aH G2 r1 rfl m2 k2 b2 .nil aK (aA (pv 7) (aA aF (aA (cI bV rfl ml PySem.boot_len (aA (pv 3) aE)) aE)))) (fun _ _=>rfl)) (aA (pv 8) aE))))))))))
  (aB (fU PassesOwn.never rfl (dM (fI iB (pv 0) (fY aF) (fY (aZ dR aF (pv 2))))) (bU (i:=7) lU.nd rfl (Or.inl rfl))
   (aB (aV (i:=8) lU.nd rfl (Or.inl rfl) (dI (aA (aH G2 r1 rfl m2 k2 b2 .nil aK (aA (pv 7) (aA aF (aA (pv 1) aE)))) (aA (aH G2 r1 rfl m2 k2 b2 .nil aK (aA (pv 7) (aA aF (aA (pv 1) aE)))) aE))))
  (aG (bY (aH G3 hr rfl m3 k3 b3 .nil aK (aA (pv 4) (aA (pv 7) (aA (aW bX (cU (aA cQ (aA cQ (aA cQ aE)))) (aH G2 r1 rfl m2 k2 b2 .nil aK (aA (pv 7) (aA aF (aA aF aE)))) (fun _ _=>rfl)) (aA (pv 8) aE)))))))))
  (aG (aX (pv 4))))))),?_⟩
 refine⟨zl9 0,fun r hr0=>?_⟩;have s1:=aI hr0 (.lst []);have e1:upd H r (.lst []) r=some (.lst []):=aC;generalize upd H r (.lst [])=H1 at s1 e1 ⊢;refine⟨_,rfl,a,ns,2,2,rfl,rfl,s1.seq hS,h63,fun c0 H2 s2=>?_⟩;refine⟨_,rfl,c0,1,(m:Int),rfl,by decide,by decide,by lia,fun t' H3 t0 tm s3=>?_⟩;obtain⟨t,rfl⟩:∃t:Nat,t'=(t:Int):=⟨t'.toNat,by lia⟩
 have s03:=s1.trans (s2.trans s3);have e3:=(s2.trans s3) _ _ e1
 try dsimp only
 refine pE (fun σ' H'=>bC H H'/\∃(us:List V) (E:List Hn) (z6 z7 z8:Option V),σ'=[some (.ref a),some (.int (m:Int)),some (.int (ms:Int)),some (.ref w),some (.ref r),some (.int (t:Int)),z6,z7,z8]/\H' r=some (.lst us)/\Rts K H' us (rwH E)/\Hng m t m E/\E.length=m - 1) (fun X hX=>?_) ?_
 ·refine⟨_,rfl,1,(m:Int),rfl,by lia,?_⟩;refine jR (lo:=1) (n:=((m:Int) - 1).toNat) (fun i σ H'=>bC H H'/\∃(us:List V) (E:List Hn) (z6 z7 z8:Option V),σ=[some (.ref a),some (.int (m:Int)),some (.int (ms:Int)),some (.ref w),some (.ref r),some (.int (t:Int)),z6,z7,z8]/\H' r=some (.lst us)/\Rts K H' us (rwH E)/\Hng m t (i+1) E/\E.length=i) ⟨s03,[],[],none,none,none,rfl,e3,.nil,⟨hm1,by lia,(fun e he=>by cases he),nodup_nil,(fun k a b=>by lia),(fun p hp=>by cases hp),rfl⟩,rfl⟩ ?_ ?_
  ·rintro i σ H4 hi ⟨s4,us,E,z6,z7,z8,rfl,er,hR,hg,le⟩;obtain⟨k,hk⟩:∃k:Nat,k=i+1:=⟨_,rfl⟩
   have ek:(1:Int)+(i:Int)=(k:Int):=by lia
   rw[ek];have lE:(rwH E).length=E.length:=length_map ..;refine⟨_,rfl,_,rfl,_,_,rfl,rfl,a,ns,_,2+k,rfl,by lia,s4.seq hS,h63,fun c H5 s5=>?_⟩;have s45:=s4.trans s5;refine⟨_,rfl,_,rfl,_,_,rfl,rfl,_,rfl,_,_,rfl,rfl,(show (m:Int)≠0 by lia),_,rfl,_,rfl,c,1,(k:Int),rfl,by decide,by decide,by lia,fun j' H6 j0 j1 s6=>?_⟩;obtain⟨j,rfl⟩:∃j:Nat,j'=(j:Int):=⟨j'.toNat,by lia⟩
   refine⟨_,rfl,_,_,rfl,rfl,_,rfl,_,_,rfl,rfl,(show (m:Int)≠0 by lia),zl9 2,fun e he=>?_⟩;have s7:=aI he (.tup [.int (Int.fmod ((k:Int)+(t:Int)) (m:Int)),.int (Int.fmod ((j:Int)+(t:Int)) (m:Int))]);have e7:upd H6 e (.tup [.int (Int.fmod ((k:Int)+(t:Int)) (m:Int)),.int (Int.fmod ((j:Int)+(t:Int)) (m:Int))]) e=some (.tup [.int (Int.fmod ((k:Int)+(t:Int)) (m:Int)),.int (Int.fmod ((j:Int)+(t:Int)) (m:Int))]):=aC;generalize upd H6 e (.tup [.int (Int.fmod ((k:Int)+(t:Int)) (m:Int)),.int (Int.fmod ((j:Int)+(t:Int)) (m:Int))])=H7 at s7 e7 ⊢;rw[Dg hm1,Dg hm1] at e7;have s47:=s5.trans (s6.trans s7);have s07:=s4.trans s47;have er7:=s47 _ _ er;refine⟨_,rfl,_,rfl,_,rfl,_,rfl,_,rfl,w,_,rfl,.inl (s07.seq hW),c,0,_,rfl,by decide,by decide,by unfold kws;rw[length_map];lia,fun x H8 x0 x1 s8=>?_⟩;have x1:x < (ks.length:Int):=by unfold kws at x1;rwa [length_map] at x1
   obtain⟨kd,hkd,ekd⟩:=Xf x0 x1;refine⟨w,_,_,_,rfl,rfl,(s07.trans s8).seq hW,ekd,_,rfl,?_⟩;have s48:=s47.trans s8;refine⟨r,e,c,kd,us,rwH E,_,_,rfl,s48 _ _ er,hR.same s48,by lia,SqT.of (s8 _ _ e7),fun y t9 d H9 H10 hy s9 dk hij lp bp hpc e10 R10=>?_⟩;subst e10;have ho:=Se (m:=m) (t:=t) (k:=k) (j:=j) (d:=d) hm1 (by lia) (by lia) (by lia) (by rw[dk];exact hks kd hkd) lp bp (by rw[dk];exact hpc) hij;have hg':=Hng.tree hg ho (j:=j) (by rw[hk]) y;have ee:rwH (E.take y++(some (k,j),d) :: E.drop y)=(rwH E).take y++d :: (rwH E).drop y:=Ig ..;rw[<- ee] at R10;exact⟨((s4.trans s48).trans s9).change hr0,us.take y++.ref t9 :: us.drop y,E.take y++(some (k,j),d) :: E.drop y,some (.int (k:Int)),some (.int c),some (.ref e),rfl,aC,R10,hg',by rw[Hu,le]⟩
  ·rintro σ H4 ⟨s4,us,E,z6,z7,z8,rfl,er,hR,hg,le⟩;rw[show ((m:Int) - 1).toNat+1=m by lia] at hg;exact hX _ _ ⟨s4,us,E,z6,z7,z8,rfl,er,hR,hg,by lia⟩
 rintro σ2 H2 ⟨s2,us0,E0',z6,z7,z8,rfl,er0,hR0,hg0,le0⟩;refine⟨_,rfl,8,rfl,_,rfl,_,_,rfl,rfl,8+(ms:Int),rfl,a,_,rfl,s2.seq hS,fun C hC=>?_⟩;have cl:=qe1 (ns.map V.int) ms;obtain⟨cs,em,_⟩:=Bw ns (some 8) (some (8+(ms:Int)));rw[em] at cl ⊢;rw[length_map] at cl;have nCr:C≠r:=Ne.symm (aL er0 hC);have s3:=aI hC (.lst (cs.map V.int));have eC:upd H2 C (.lst (cs.map V.int)) C=some (.lst (cs.map V.int)):=aC;generalize upd H2 C (.lst (cs.map V.int))=H3 at s3 eC ⊢;refine⟨C,rfl,⟨_,SqL.of eC⟩,?_⟩;refine gH (xs:=cs.map V.int) (fun n σ H'=>bC H H'/\H' C=some (.lst (cs.map V.int))/\∃(us:List V) (E:List Hn) (z7 z8:Option V),σ=[some (.ref a),some (.int (m:Int)),some (.int (ms:Int)),some (.ref w),some (.ref r),some (.int (t:Int)),z6,z7,z8]/\H' r=some (.lst us)/\Rts K H' us (rwH E)/\Hng m t m E/\E.length=m - 1+n) ⟨s2.trans s3,eC,us0,E0',z7,z8,rfl,s3 _ _ er0,hR0.same s3,hg0,le0⟩ (fun n σ H' _ h=>SqL.of h.2.1) ?_ ?_
 ·rintro n x σ H4 hx ⟨s4,eC4,us,E,z7,z8,rfl,er,hR,hg,le⟩;have hn:n < cs.length:=by
   have:=(List.getElem?_eq_some_iff.mp hx).1
   rwa [length_map] at this
  obtain⟨c,rfl⟩:∃c,x=.int c:=by
   rw[getElem?_map] at hx
   cases hm:cs[n]? with
   |none=>rw[hm] at hx;cases hx
   |some c=>rw[hm] at hx;cases hx;exact⟨c,rfl⟩
  have lE:(rwH E).length=E.length:=length_map ..;refine⟨_,rfl,_,rfl,c,1,(m:Int),rfl,by decide,by decide,by lia,fun i H5 i0 i1 s5=>?_⟩;refine⟨_,rfl,_,rfl,c,9,(m:Int),rfl,by decide,by decide,by lia,fun j H6 j0 j1 s6=>?_⟩;refine⟨zl9 2,fun e he=>?_⟩;have s7:=aI he (.tup [.int i,.int j]);have e7:upd H6 e (.tup [.int i,.int j]) e=some (.tup [.int i,.int j]):=aC;generalize upd H6 e (.tup [.int i,.int j])=H7 at s7 e7 ⊢;have s47:=s5.trans (s6.trans s7);refine⟨_,rfl,_,rfl,zl9 3,fun W2 hW2=>?_⟩;have s8:=aI hW2 (.lst [.str "piece",.str "push",.str "piece"]);have e8:upd H7 W2 (.lst [.str "piece",.str "push",.str "piece"]) W2=some (.lst [.str "piece",.str "push",.str "piece"]):=aC;generalize upd H7 W2 (.lst [.str "piece",.str "push",.str "piece"])=H8 at s8 e8 ⊢;refine⟨_,rfl,c,0,3,rfl,by decide,by decide,by decide,fun x H9 x0 x1 s9=>?_⟩;obtain⟨kd,hkd,ekd⟩:∃k:Kd,k≠.ho/\atI [V.str "piece",.str "push",.str "piece"] x=some (.str (Kd.wd k)):=by
   have:x=0\/x=1\/x=2:=by lia
   rcases this with rfl | rfl | rfl
   ·exact⟨.pc,(fun z=>by cases z),rfl⟩
   ·exact⟨.pu,(fun z=>by cases z),rfl⟩
   ·exact⟨.pc,(fun z=>by cases z),rfl⟩
  refine⟨W2,_,_,_,rfl,rfl,SqL.of (s9 _ _ e8),ekd,_,rfl,?_⟩;have s49:=s47.trans (s8.trans s9);refine⟨r,e,c,kd,us,rwH E,_,_,rfl,s49 _ _ er,hR.same s49,by lia,SqT.of ((s8.trans s9) _ _ e7),fun y t9 d HA HB hy sA dk hij lp bp hpc eB RB=>?_⟩;subst eB;have pt:dC (m:Int) d.2.1 d.2.2.1:=by
   rcases hij with ⟨x,y⟩ | ⟨x,y⟩<;>(rw[x,y];exact⟨by lia,by lia,by lia,by lia⟩)
  have ho:=Ua (m:=m) (t:=t) (d:=d) pt (by rw[dk];exact hkd) lp bp (by rw[dk];exact hpc);have hg':=Hng.ins hg ho rfl y;have ee:rwH (E.take y++(none,d) :: E.drop y)=(rwH E).take y++d :: (rwH E).drop y:=Ig ..;rw[<- ee] at RB;exact⟨((s4.trans s49).trans sA).change hr0,by rw[aY nCr];exact(s49.trans sA) _ _ eC4,us.take y++.ref t9 :: us.drop y,E.take y++(none,d) :: E.drop y,some (.int c),some (.ref e),rfl,aC,RB,hg',by rw[Hu,le];lia⟩
 ·rintro σ H4 ⟨s4,_,us,E,z7,z8,rfl,er,hR,hg,le⟩;rw[length_map] at le;exact⟨_,rfl,q r us t E H4 s4 hr0 er hR hg (by lia)⟩
def No (K:Frag):Sp:=fun vs H Q _=>∃(c:Int) (k:Kd),vs=[.int c,.str k.wd]/\∀p:Q2,Low p->Bd 31 p->p.2.natAbs<=12->(k=.pc->0 < p.1)->nV H Q p
abbrev xJ:Stmt:=top 89
theorem Ay:aT ["_law_cell","_law_word","_law_top"] ["_law_cell","_law_word"] (aD xJ):=sK9
theorem Ul {dV:Value}(F:bZ K "_law_new_size" "_law_new_size" xJ dV f fd)(b:Bl mg)(G1:aP P w K mg base CX0 1 g1 gd1 ["_law_cell","_law_turn","_law_many"] yO)(b1:aQ K gd1 ["_law_cell","_law_turn","_law_many"] [])(k1:kI9 K g1)(m1:mI9 mg "_law_mix" g1)(G2:aP P w K mg base CX0 1 g2 gd2 ["_law_cell","_law_turn"] Vj)(b2:aQ K gd2 ["_law_cell","_law_turn"] [])(k2:kI9 K g2)(m2:mI9 mg "_law_far" g2)(G3:aP P w K mg base CX0 1 g3 gd3 ["_law_top","_law_bottom"] iW)(b3:aQ K gd3 ["_law_top","_law_bottom"] [])(k3:kI9 K g3)(m3:mI9 mg "_law_lowest" g3) :
  aP P w K mg base CX 2 f fd ["_law_cell","_law_word"] (No K):=by
 refine F.ok Ay (fun vs H Q E h=>?_) fun _ A _ s H vs Q E hr h=>?_
 ·obtain⟨_,_,rfl,_⟩:=h;rfl
 obtain⟨c,k,rfl,q⟩:=h;have r1:=hr;refine⟨_,(aB (aV (i:=2) Ay.nd rfl (Or.inl rfl) (aZ iF (aH G1 r1 rfl m1 k1 b1 .nil aK (aA (pv 0) (aA aF (aA aF aE)))) aF))
  (aB (cD (bF eZ (pv 1) cQ (bG _)) (aG (aV (i:=2) Ay.nd rfl (Or.inl rfl) (aZ dR aF (cI pD rfl b.abs PyProof.Rows.boot_abs (aA (pv 2) aE))))) bH)
  (aB (cD (bF eZ (aH G1 r1 rfl m1 k1 b1 .nil aK (aA (pv 0) (aA aF (aA aF aE)))) aF (bG _)) (aG (aV (i:=2) Ay.nd rfl (Or.inl rfl) (aZ dR aF (aZ kQ (aH G2 r1 rfl m2 k2 b2 .nil aK (aA (pv 0) (aA aF aE))) (aZ lC aF aF))))) bH)
  (aG (aX (aH G3 r1 rfl m3 k3 b3 .nil aK (aA (pv 2) (aA (aZ dR aF (aH G1 r1 rfl m1 k1 b1 .nil aK (aA (pv 0) (aA aF (aA aF aE))))) aE)))))))),?_⟩
 refine⟨_,rfl,c,3,121,rfl,by decide,by decide,by decide,fun y H1 y0 y1 s1=>⟨_,_,rfl,rfl,?_⟩⟩
 try dsimp only
 refine pE (fun σ' H'=>H'=H1/\∃t:Int,σ'=[some (.int c),some (.str k.wd),some (.int t)]/\t.natAbs<=61/\(k=.pc->0 < t)) (fun X hX=>?_) ?_
 ·by_cases hk:k=.pc
  ·refine⟨_,rfl,rfl,_,rfl,L2.ifT (by show decide (V.str k.wd=V.str "piece")=true;rw[Gk];exact decide_eq_true hk) ?_⟩;refine⟨_,rfl,_,rfl,_,_,rfl,rfl,?_⟩;refine hX _ _ ⟨rfl,1+(if y - 60 < 0 then -(y - 60) else y - 60),rfl,?_,fun _=>?_⟩
   ·split<;>lia
   ·split<;>lia
  ·refine⟨_,rfl,rfl,_,rfl,L2.ifF (by show decide (V.str k.wd=V.str "piece")=false;rw[Gk];exact decide_eq_false hk) ?_⟩;exact hX _ _ ⟨rfl,y - 60,rfl,by lia,fun z=>absurd z hk⟩
 rintro σ2 H2 ⟨rfl,t,rfl,t61,tp⟩;refine pE (fun σ' H'=>bC H2 H'/\∃t:Int,σ'=[some (.int c),some (.str k.wd),some (.int t)]/\t.natAbs<=1000000000/\(k=.pc->0 < t)) (fun X hX=>?_) ?_
 ·refine⟨_,rfl,c,7,9,rfl,by decide,by decide,by decide,fun g H3 _ _ s3=>⟨rfl,_,rfl,rK (fun _=>?_) (fun _=>?_)⟩⟩
  ·refine⟨_,rfl,c,1,rfl,by decide,by decide,fun u u1 u2=>?_⟩;clear u1 u2;refine⟨_,_,rfl,rfl,⟨by decide,by decide,by decide⟩,_,_,rfl,rfl,(show (0:Int) < 10 ^ (9:Int).toNat by decide),_,_,rfl,rfl,?_⟩;have p9:(10:Int) ^ (9:Int).toNat=1000000000:=by decide
   have f0:=Int.emod_nonneg u (show (10 ^ (9:Int).toNat:Int)≠0 by decide);have f9:=Int.emod_lt_of_pos u (show (0:Int) < 10 ^ (9:Int).toNat by decide);refine hX _ _ ⟨s3,1+u % 10 ^ (9:Int).toNat,rfl,?_,fun _=>by lia⟩;generalize u % (10 ^ (9:Int).toNat)=v at f0 f9 ⊢;rw[p9] at f9;lia
  ·exact hX _ _ ⟨s3,t,rfl,by lia,tp⟩
 rintro σ3 H3 ⟨s3,t',rfl,t9,tp'⟩;refine⟨_,rfl,_,rfl,c,4,12,rfl,by decide,by decide,by decide,fun b' H4 b0 b1 s4=>⟨_,_,rfl,rfl,?_⟩⟩;have bn:1+b'≠0:=by lia
 have le:=kW (t:=t') bn;have bT:Mq.B 31 t':=Nat.lt_of_le_of_lt t9 (by decide);have bB:Mq.B 31 (1+b'):=uI (by lia) (by lia);have l2:=le.2;refine⟨t',1+b',31,rfl,bn,bB,by lia,nV.same (s1.trans (s3.trans s4)) (q _ (iA bn) ⟨bT.le le.1,bB.le le.2⟩ (by lia) fun hk=>Gi (tp' hk) (by lia))⟩
def Vf (CN CA CW:Addr)(K:Frag):Sp:=fun vs H Q _=>∃(x:Addr) (m:Nat) (ds:List RD) (f:Bool),vs=[.ref x,.bl f]/\fR [] CN CA CW K H x m ds/\Nof m ds/\
 ∀t le fo xs ys lv fl H',bC H H'->H le=none->H fo=none->le≠fo->SqT K H' t [.ref le,.ref fo]->H' le=some (.lst xs)->Fqs K H' xs lv->H' fo=some (.lst ys)->Fqs K H' ys fl->iE m ds lv fl->Q (.ref t) H'
theorem gJ {X:List Addr}{CN CA CW:Addr}{K:Frag}{H:Hp}{x:Addr}{m:Nat}{ds:List RD}(h:fR X CN CA CW K H x m ds):∃dx a n,H x=some (.ins CW dx (gC a n)):=by
 obtain⟨dx,a,n,l,dxa,li,le,fo,dn,xs,ys,ts,lv,fl,hw,_⟩:=h.e;exact⟨dx,a,n,hw⟩
abbrev Kx:Stmt:=top 90
theorem Uq:aT ["_law_watch","_law_first","_law_streams"] ["_law_watch","_law_first"] (aD Kx):=sK9
theorem Vl {dV:Value}(F:bZ K "_law_told_by" "_law_told_by" Kx dV f fd){CN CA CW:Addr}(WBx:WB K mg CW){gWh:Addr}{gdWh:FuncData}(GWh:aP P w K mg base CX0 2 gWh gdWh ["self"] (Ob CN CA CW K))(bWh:aQ K gdWh ["self"] [])(mWh:dX K CW "heights" gWh){gWs:Addr}{gdWs:FuncData}(GWs:aP P w K mg base CX0 2 gWs gdWs ["self"] (Qb CN CA CW K))(bWs:aQ K gdWs ["self"] [])(mWs:dX K CW "streams" gWs) :
  aP P w K mg base CX 3 f fd ["_law_watch","_law_first"] (Vf CN CA CW K):=by
 refine F.ok Uq (fun vs H Q E h=>?_) fun _ A _ s H vs Q E hr h=>?_
 ·obtain⟨_,_,_,_,rfl,_⟩:=h;rfl
 obtain⟨x,m,ds,f0,rfl,WA,o,q⟩:=h;have r2:=hr;refine⟨_,(aB (cD (dY (pv 1)) (aG (aX (dI (aA (cC (pv 0) WBx.cl mWh GWh r2 bWh .nil aK) (aA (cC (pv 0) WBx.cl mWs GWs r2 bWs .nil aK) aE))))) bH)
  (aB (aV (i:=2) Uq.nd rfl (Or.inl rfl) (cC (pv 0) WBx.cl mWs GWs r2 bWs .nil aK))
  (aG (aX (dI (aA (cC (pv 0) WBx.cl mWh GWh r2 bWh .nil aK) (aA (pv 2) aE))))))),?_⟩
 obtain⟨dx,a,n,hw⟩:=gJ WA
 cases f0 with
 |true=>
  refine⟨_,rfl,_,rfl,L2.ifT rfl ?_⟩;refine⟨_,rfl,x,dx,_,rfl,hw,jU _ _ (by decide +kernel) (by decide +kernel),x,m,ds,rfl,WA,fun lv fl AV l1 xs H1 s1 n1 e1 F1=>?_⟩;refine⟨_,rfl,x,dx,_,rfl,s1 _ _ hw,jU _ _ (by decide +kernel) (by decide +kernel),x,m,ds,rfl,WA.same s1,fun lv2 fl2 AV2 l2 ys H2 s2 n2 e2 F2=>?_⟩;obtain⟨_,rfl⟩:=iE.uni o AV AV2;refine⟨zl9 2,fun t ht=>?_⟩;have s3:=aI ht (.tup [.ref l1,.ref l2]);exact q t l1 l2 xs ys lv fl _ (s1.trans (s2.trans s3)) n1 (s1.free n2) (aL e1 n2) (SqT.of aC) ((s2.trans s3) _ _ e1) (F1.same (s2.trans s3)) (s3 _ _ e2) (F2.same s3) AV
 |false=>
  refine⟨_,rfl,_,rfl,L2.ifF rfl ?_⟩;refine⟨_,rfl,x,dx,_,rfl,hw,jU _ _ (by decide +kernel) (by decide +kernel),x,m,ds,rfl,WA,fun lv fl AV l1 xs H1 s1 n1 e1 F1=>?_⟩;refine⟨_,rfl,x,dx,_,rfl,s1 _ _ hw,jU _ _ (by decide +kernel) (by decide +kernel),x,m,ds,rfl,WA.same s1,fun lv2 fl2 AV2 l2 ys H2 s2 n2 e2 F2=>?_⟩;obtain⟨rfl,_⟩:=iE.uni o AV AV2;refine⟨_,rfl,zl9 2,fun t ht=>?_⟩;have s3:=aI ht (.tup [.ref l2,.ref l1]);exact q t l2 l1 ys xs lv fl _ (s1.trans (s2.trans s3)) (s1.free n2) n1 (Ne.symm (aL e1 n2)) (SqT.of aC) (s3 _ _ e2) (F2.same s3) ((s2.trans s3) _ _ e1) (F1.same (s2.trans s3)) AV
inductive Dds (K:Frag) (H:Hp):List V->List (Nat × Q2)->Prop where
 |nil:Dds K H [] []
 |cons {t z:Addr} {i:Nat} {p:Q2} {xs:List V} {es:List (Nat × Q2)} (h:SqT K H t [.int (i:Int),.ref z]) (f:Fq K H z p) (q:Dds K H xs es):Dds K H (.ref t :: xs) ((i,p) :: es)
theorem Dds.length {K:Frag}{H:Hp}{xs:List V}{es:List (Nat × Q2)}(h:Dds K H xs es):xs.length=es.length:=by
 induction h with
 |nil=>rfl
 |cons _ _ _ ih=>rw[length_cons,length_cons,ih]
theorem Dds.get {K:Frag}{H:Hp}{xs:List V}{es:List (Nat × Q2)}(h:Dds K H xs es):∀{i:Nat} {x:V},xs[i]?=some x->∃t z e,x=.ref t/\es[i]?=some e/\SqT K H t [.int (e.1:Int),.ref z]/\Fq K H z e.2:=by
 induction h with
 |nil=>intro i x h;simp at h
 | @cons t z j p xs es h f _ ih=>
  intro i x hx
  cases i with
  |zero=>cases (show V.ref t=x by simpa using hx);exact⟨t,z,(j,p),rfl,rfl,h,f⟩
  |succ i=>simpa using ih (i:=i) (by simpa using hx)
theorem Dds.same {K:Frag}{H H':Hp}{xs:List V}{es:List (Nat × Q2)}(s:bC H H')(h:Dds K H xs es):Dds K H' xs es:=by
 induction h with
 |nil=>exact .nil
 |cons h f _ ih=>exact .cons (s.seqT h) (s.fq f) ih
theorem Dds.wr {K:Frag}{H H':Hp}{x r C dx:Addr}{fs:List (Str × V)}{us:List V}(hx:H x=some (.ins C dx fs))(hr:H r=some (.lst us))(s:SWR x r H H'){xs:List V}{es:List (Nat × Q2)}(h:Dds K H xs es):Dds K H' xs es:=by
 induction h with
 |nil=>exact .nil
 |cons h f _ ih=>exact .cons (wL hx hr s h) (wL hx hr s f) ih
def Mb (CN CA CW:Addr)(K:Frag):Sp:=fun vs H Q _=>∃(x r dl:Addr) (us xs:List V) (m:Nat) (L:Int) (ds:List RD) (es:List (Nat × Q2)) (X:List Addr),vs=[.ref x,.ref r,.ref dl]/\fR X CN CA CW K H x m ds/\r∈X/\r≠dl/\(∀y∈X,∃o,H y=some o)/\H r=some (.lst us)/\Rts K H us ds/\H dl=some (.lst xs)/\Dds K H xs es/\Dw m L ds/\dL L ds es/\
 ∀us' H',SWR x r H H'->H' r=some (.lst us')->Rts K H' us' (apD ds es)->fR X CN CA CW K H' x m (apD ds es)->Dw m L (apD ds es)->Q (.bl true) H'
abbrev xL:Stmt:=top 91
theorem Be:aT ["_law_watch","_law_rows","_law_deeds","_law_at","_law_size_here","_law_found"] ["_law_watch","_law_rows","_law_deeds"] (aD xL):=sK9
theorem Sy {dV:Value}(F:bZ K "_law_done" "_law_done" xL dV f fd){CN CA CW:Addr}(WBx:WB K mg CW){gWc:Addr}{gdWc:FuncData}(GWc:aP P w K mg base CX0 11 gWc gdWc ["self","k","size"] (Ol CN CA CW K))(bWc:aQ K gdWc ["self","k","size"] [])(mWc:dX K CW "change" gWc)(G1:aP P w K mg base CX0 1 g1 gd1 ["_law_found","_law_due"] (Ls K))(b1:aQ K gd1 ["_law_found","_law_due"] [])(k1:kI9 K g1)(m1:mI9 mg "_law_told" g1)(G2:aP P w K mg base CX0 2 g2 gd2 ["_law_one","_law_other"] (jF K Mq.minus))(b2:aQ K gd2 ["_law_one","_law_other"] [])(k2:kI9 K g2)(m2:mI9 mg "_law_less" g2) :
  aP P w K mg base CX 12 f fd ["_law_watch","_law_rows","_law_deeds"] (Mb CN CA CW K):=by
 refine F.ok Be (fun vs H Q E h=>?_) fun _ A _ s H vs Q E hr h=>?_
 ·obtain⟨_,_,_,_,_,_,_,_,_,_,rfl,_⟩:=h;rfl
 obtain⟨x,r,dl,us,xs,m,L,ds,es,X,rfl,WA,rX,rdl,XA,er,hR,el,DD,DW,DO,q⟩:=h;have r1:=hr.mono (show 1<=11 by lia);have r2:=hr.mono (show 2<=11 by lia);refine⟨_,(aB (fU PassesOwn.never rfl (dM (pv 2)) (nT rfl (eP (bU (i:=3) Be.nd rfl (Or.inl rfl)) (eP (bU (i:=4) Be.nd rfl (Or.inl rfl)) kE)))
   (aB (aV (i:=5) Be.nd rfl (Or.inl rfl) (zU (pv 0) WBx.cl mWc GWc hr bWc .nil aK (aA (pv 3) (aA (pv 4) aE))))
  (aB (cD (PW.pt (vJ (bF eZ (aW bA (aW bX (pv 1) (pv 3) (fun _ _=>rfl)) aF (fun _ _=>rfl)) cQ (bG _)) (oS (gE (dY (aH G1 r1 rfl m1 k1 b1 .nil aK (aA (pv 5) (aA (aH G2 r2 rfl m2 k2 b2 .nil aK (aA (aW bA (aW bX (pv 1) (pv 3) (fun _ _=>rfl)) aF (fun _ _=>rfl)) (aA (pv 4) aE))) aE)))))))) (aG (aX fV)) bH)
  (aG (oC (aZ Sr (fI Wq (aW bX (pv 1) (pv 3) (fun _ _=>rfl)) iM (fY aF)) (dI (aA (pv 4) aE))) (nU (pv 1) (pv 3) jC))))))
  (aG (aX fV))),?_⟩
 obtain⟨dx0,a0,n0,hw0⟩:=gJ WA;have ldd:=DD.length;refine⟨_,rfl,dl,rfl,⟨_,SqL.of el⟩,?_⟩;refine gH (xs:=xs) (fun i σ H'=>SWR x r H H'/\∃(us':List V) (z3 z4 z5:Option V),σ=[some (.ref x),some (.ref r),some (.ref dl),z3,z4,z5]/\H' r=some (.lst us')/\Rts K H' us' (apD ds (es.take i))/\fR X CN CA CW K H' x m (apD ds (es.take i))/\Dw m L (apD ds (es.take i))/\dL L (apD ds (es.take i)) es) ⟨fun b o h _ _=>h,us,none,none,none,rfl,er,hR,WA,DW,DO⟩ (fun i σ H' _ h=>SqL.of (h.1 _ _ el (dD el hw0 (fun z=>by cases z)) (Ne.symm rdl))) ?_ ?_
 rotate_left
 ·rintro σ H' ⟨s,us',z3,z4,z5,rfl,er',hR',WA',DW',_⟩;rw[ldd,take_length] at hR' WA' DW';exact q us' H' s er' hR' WA' DW'
 rintro i xv σ H1 hx ⟨s1,us1,z3,z4,z5,rfl,er1,hR1,WA1,DW1,DO1⟩;obtain⟨t0,z0,e,rfl,he,ht0,fz0⟩:=(DD.wr hw0 er s1).get hx;rw[Me he];generalize apD ds (es.take i)=ds1 at hR1 WA1 DW1 DO1;obtain⟨⟨kd,u,v,s0⟩,hd,sz⟩:=DO1 e (mem_of_getElem? he);have sz':SzW L kd e.2:=sz;obtain⟨ro,so⟩:=DW1.ok _ (mem_of_getElem? hd);have ls:Low s0:=so.lo;have bs:Bd 31 s0:=so.bd;refine⟨t0,_,rfl,ht0,rfl,_,_,rfl,_,_,rfl,rfl,?_⟩;obtain⟨dx1,a1,n1,hw1⟩:=gJ WA1;have rx1:r≠x:=dD er1 hw1 (fun z=>by cases z);refine⟨_,rfl,x,dx1,_,rfl,hw1,jU _ _ (by decide +kernel) (by decide +kernel),_,rfl,_,rfl,x,z0,m,e.1,L,ds1,_,e.2,rfl,WA1.less (fun y hy=>by cases hy),DW1,hd,fz0,sz,fun rf qf H2 sx2 frf eqf WA2=>?_⟩;have XA1:∀y∈X,∃o,H1 y=some o:=fun y hy=>by
  by_cases c1:y=x
  ·rw[c1];exact⟨_,hw1⟩
  ·by_cases c2:y=r
   ·rw[c2];exact⟨_,er1⟩
   ·obtain⟨o,ho⟩:=XA y hy;exact⟨o,s1 _ _ ho c1 c2⟩
 have WA2:=WA2 X XA1;have er2:=sx2 _ _ er1 rx1;have hR2:=Au hw1 sx2 hR1;have fz2:=bQ.seqTI hw1 sx2 fz0;obtain⟨tr,zr,etr,hT,fzr⟩:=hR2.at hd;have ea:atI us1 (e.1:Int)=some (.ref tr):=cL etr;have hT:SqT K H2 tr [.str kd.wd,.int u,.int v,.ref zr]:=hT;have fzr:Fq K H2 zr s0:=fzr;have hi:e.1 < us1.length:=by have:=(List.getElem?_eq_some_iff.mp etr).1;exact this
 have s02:SWR x r H H2:=fun b o h n1 n2=>sx2 _ _ (s1 _ _ h n1 n2) n1;refine Xt (fun σ' H'=>bC H2 H'/\σ'=[some (.ref x),some (.ref r),some (.ref dl),some (.int (e.1:Int)),some (.ref z0),some (.ref rf)]) (fun Y hY=>?_) ?_
 ·refine⟨_,rfl,_,rfl,r,us1,_,_,rfl,rfl,SqL.of er2,ea,tr,_,0,_,rfl,rfl,hT,rfl,rfl,_,rfl,?_⟩
  by_cases hp:kd=.pu
  ·refine L2.ifT (by show decide (V.str kd.wd=V.str "push")=true;rw[Ve];exact decide_eq_true hp) ?_;have eq:=eqf hp;subst eq;refine⟨_,rfl,_,rfl,_,rfl,r,us1,_,_,rfl,rfl,SqL.of er2,ea,tr,_,3,_,rfl,rfl,hT,rfl,_,rfl,zr,z0,s0,e.2,31,31,rfl,fzr,fz2,ls.pos,sz'.lo.pos,bs,sz'.bd,by lia,fun w3 H3 s3 e3=>?_⟩;refine⟨rf,w3,_,rfl,s3.fq frf,Fq.of e3,_,rfl,L2.ifF rfl ?_⟩;exact hY _ _ ⟨s3,rfl⟩
  ·refine L2.ifF (by show decide (V.str kd.wd=V.str "push")=false;rw[Ve];exact decide_eq_false hp) (L2.ifF rfl ?_);exact hY _ _ ⟨bC.refl _,rfl⟩
 rintro σ3 H3 ⟨s3,rfl⟩;have er3:=s3 _ _ er2;have hR3:=hR2.same s3;have hT3:=s3.seqT hT;have fz3:=s3.fq fz2;refine⟨_,rfl,_,rfl,r,us1,_,_,rfl,rfl,SqL.of er3,ea,3,rfl,tr,_,rfl,hT3,(by show ¬(_/\3=4);lia),fun A2 hA2=>?_⟩;have sG:=aI hA2 (.tup [.str kd.wd,.int u,.int v]);have eG:upd H3 A2 (.tup [.str kd.wd,.int u,.int v]) A2=some (.tup [.str kd.wd,.int u,.int v]):=aC;show Zy _ _ (upd H3 A2 (.tup [.str kd.wd,.int u,.int v])) _;generalize upd H3 A2 (.tup [.str kd.wd,.int u,.int v])=HG at sG eG ⊢;refine⟨_,rfl,zl9 1,fun oN hoN=>?_⟩;have sK:=aI hoN (.tup [.ref z0]);have eK:upd HG oN (.tup [.ref z0]) oN=some (.tup [.ref z0]):=aC;generalize upd HG oN (.tup [.ref z0])=HK at sK eK ⊢;refine⟨A2,oN,_,_,rfl,rfl,SqT.of (sK _ _ eG),SqT.of eK,(by simp),(zl9 4),(fun z=>by cases z),fun _ A5 hA5=>?_⟩;have sL:=aI hA5 (.tup ([.str kd.wd,.int u,.int v]++[.ref z0]));have eL:upd HK A5 (.tup ([.str kd.wd,.int u,.int v]++[.ref z0])) A5=some (.tup ([.str kd.wd,.int u,.int v]++[.ref z0])):=aC;generalize upd HK A5 (.tup ([.str kd.wd,.int u,.int v]++[.ref z0]))=HL at sL eL ⊢;have s3L:=sG.trans (sK.trans sL);have erL:=s3L _ _ er3;have fL:=s3L.fq fz3;have ixk:ixN us1.length (e.1:Int)=some e.1:=jX hi;refine⟨_,rfl,_,rfl,r,us1,_,e.1,rfl,rfl,erL,ixk,?_⟩;have hRn:Rts K HL (us1.set e.1 (.ref A5)) (ds1.set e.1 (kd,u,v,e.2)):=Rts.set (k:=kd) (SqT.of eL) fL e.1 (hR3.same s3L);have hRM:=Rts.upd (o:=.lst (us1.set e.1 (.ref A5))) erL hRn;have sxr:bQ r HL (upd HL r (.lst (us1.set e.1 (.ref A5)))):=fun b o h nb=>by rw[aY nb];exact h
 have s2L:=s3.trans s3L;rw[nX hd] at WA2 ⊢;have DWn:=DW1.set hd sz;rw[nX hd] at DWn;have DOn:=DO1.set (p:=e.2) hd;rw[nX hd] at DOn;exact⟨fun b o h n1 n2=>sxr _ _ (s2L _ _ (s02 _ _ h n1 n2)) n2,_,_,_,_,rfl,aC,hRM,(WA2.same s2L).x erL sxr rX,DWn,DOn⟩
theorem iD:(["_law_at","_law_size_here","_law_rows"]:List Str).Nodup:=by decide +kernel
theorem yW {K:Frag}{H:Hp}{a b:Addr}{us:List V}{ds:List RD}{neg:Bool}{Q:VK}(h1:SqL K H a us)(hR:Rts K H us ds)(h2:SqL K H b [])(z:Q (.bl (if neg then !ds.isEmpty else ds.isEmpty)) H):Bi K neg (.ref a) (.ref b) H Q:=by
 refine⟨_,_,.lst h1 hR.dat,.lst h2 .nil,vQ ds,rfl,?_,?_⟩
 ·have:(PyData.list []).depth<=1:=by decide
  lia
 ·cases ds<;>exact z
theorem Dds.app {K:Frag}{H:Hp}{xs ys:List V}{es gs:List (Nat × Q2)}(h:Dds K H xs es)(g:Dds K H ys gs):Dds K H (xs++ys) (es++gs):=by
 induction h with
 |nil=>exact g
 |cons h f _ ih=>exact .cons h f ih
theorem Dds.rev {K:Frag}{H:Hp}{xs:List V}{es:List (Nat × Q2)}(h:Dds K H xs es):Dds K H xs.reverse es.reverse:=by
 induction h with
 |nil=>exact .nil
 |cons h f _ ih=>rw[reverse_cons,reverse_cons];exact ih.app (.cons h f .nil)
theorem Dds.upd {K:Frag}{H:Hp}{l:Addr}{us:List V}{o:HO}(hl:H l=some (.lst us)){xs:List V}{es:List (Nat × Q2)}(h:Dds K H xs es):Dds K (L2.upd H l o) xs es:=by
 induction h with
 |nil=>exact .nil
 |cons h f _ ih=>exact .cons (h.upd hl) (f.upd hl) ih
structure LwA (CN CA CW:Addr) (K:Frag) (H:Hp) (M:Nat) (L:Int) (ds:List RD) (r w1 w2 t5 t6:Addr) (us:List V) (lv fl:List Q2):Prop where
 m4:M<=4
 dw:Dw M L ds
 lb:Mq.B 72 L
 l10:ds.length<=10
 m1:ds=[]->M=1
 er:H r=some (.lst us)
 hR:Rts K H us ds
 a1:fR [w2] CN CA CW K H w1 M ds
 a2:fR [w1] CN CA CW K H w2 M ds
 ne:w1≠w2
 k5:Kpt [] K H t5 lv fl
 k6:Kpt [] K H t6 lv fl
 av:iE M ds lv fl
theorem LwA.same {CN CA CW:Addr}{K:Frag}{H H':Hp}{M:Nat}{L:Int}{ds:List RD}{r w1 w2 t5 t6:Addr}{us:List V}{lv fl:List Q2}(s:bC H H')(h:LwA CN CA CW K H M L ds r w1 w2 t5 t6 us lv fl):LwA CN CA CW K H' M L ds r w1 w2 t5 t6 us lv fl:=⟨h.m4,h.dw,h.lb,h.l10,h.m1,s _ _ h.er,h.hR.same s,h.a1.same s,h.a2.same s,h.ne,h.k5.same s,h.k6.same s,h.av⟩
def Gx (K:Frag):Sp:=fun vs H Q _=>∃(a:Addr) (ns:List Int),vs=[.ref a]/\SqL K H a (ns.map V.int)/\ns.length<=63/\∀H',Q (.bl true) H'
abbrev zZ:Stmt:=top 92
theorem iJ:aT ["_law_script","_law_many","_law_rows","_law_one","_law_other","_law_told_here","_law_kept","_law_spoiled","_law_deeds","_law_k","_law_cell","_law_at","_law_mine","_law_theirs","_law_back"] ["_law_script"] (aD zZ):=sK9
theorem Vv {dV:Value}(F:bZ K "law" "law" zZ dV f fd){CN CA CW:Addr}(NTx:NT K mg CN)(WBx:WB K mg CW)(ml:mg "len"=none)(mli:mg "list"=none){gWI:Addr}{gdWI:FuncData}(GWI:aP P w K mg base CX0 10 gWI gdWI ["self","net"] (Qi CN CA CW K))(bWI:aQ K gdWI ["self","net"] [])(MWa:Mk K CW gWI){gWn:Addr}{gdWn:FuncData}(GWn:aP P w K mg base CX0 5 gWn gdWn ["self"] (Md CN CA CW K))(bWn:aQ K gdWn ["self"] [])(mWn:dX K CW "net" gWn){gTo:Addr}{gdTo:FuncData}(GTo:aP P w K mg base CX0 1 gTo gdTo ["self"] (Hy CN K))(bTo:aQ K gdTo ["self"] [])(mTo:dX K CN "told" gTo)(G1:aP P w K mg base CX0 1 g1 gd1 ["_law_script","_law_k"] (Fp K))(b1:aQ K gd1 ["_law_script","_law_k"] [])(k1:kI9 K g1)(m1:mI9 mg "_law_draw" g1)(G2:aP P w K mg base CX0 4 g2 gd2 ["_law_script","_law_many","_law_most","_law_words"] (Ma K))(b2:aQ K gd2 ["_law_script","_law_many","_law_most","_law_words"] [])(k2:kI9 K g2)(m2:mI9 mg "_law_hanging" g2)(G3:aP P w K mg base CX0 6 g3 gd3 ["_law_many","_law_rows"] (Hc CN K))(b3:aQ K gd3 ["_law_many","_law_rows"] [])(k3:kI9 K g3)(m3:mI9 mg "_law_net" g3)(G4:aP P w K mg base CX0 3 g4 gd4 ["_law_watch","_law_first"] (Vf CN CA CW K))(b4:aQ K gd4 ["_law_watch","_law_first"] [])(k4:kI9 K g4)(m4:mI9 mg "_law_told_by" g4)(G5:aP P w K mg base CX0 1 g5 gd5 ["_law_cell","_law_turn","_law_many"] yO)(b5:aQ K gd5 ["_law_cell","_law_turn","_law_many"] [])(k5:kI9 K g5)(m5:mI9 mg "_law_mix" g5)(G6:aP P w K mg base CX0 2 g6 gd6 ["_law_cell","_law_word"] (No K))(b6:aQ K gd6 ["_law_cell","_law_word"] [])(k6:kI9 K g6)(m6:mI9 mg "_law_new_size" g6)(G7:aP P w K mg base CX0 12 g7 gd7 ["_law_watch","_law_rows","_law_deeds"] (Mb CN CA CW K))(b7:aQ K gd7 ["_law_watch","_law_rows","_law_deeds"] [])(k7:kI9 K g7)(m7:mI9 mg "_law_done" g7) :
  aP P w K mg base CX 13 f fd ["_law_script"] (Gx K):=by
 refine F.ok iJ (fun vs H Q E h=>?_) fun _ A _ s H vs Q E hr h=>?_
 ·obtain⟨_,_,rfl,_⟩:=h;rfl
 obtain⟨a,ns,rfl,hS,h63,q⟩:=h;have hu:=hr.units;have r1:=hr.mono (show 1<=12 by lia);have r2:=hr.mono (show 2<=12 by lia);have r3:=hr.mono (show 3<=12 by lia);have r4:=hr.mono (show 4<=12 by lia);have r5:=hr.mono (show 5<=12 by lia);have r6:=hr.mono (show 6<=12 by lia);have r11:=hr.mono (show 11<=12 by lia);refine⟨_,(aB (aV (i:=1) iJ.nd rfl (Or.inl rfl) (aZ dR aF (aZ kQ (aH G1 r1 rfl m1 k1 b1 .nil aK (aA (pv 0) (aA aF aE))) aF)))
  (aB (aV (i:=2) iJ.nd rfl (Or.inr rfl) (aH G2 r4 rfl m2 k2 b2 .nil aK (aA (pv 0) (aA (pv 1) (aA aF (aA (cU (aA cQ (aA cQ (aA cQ (aA cQ aE))))) aE))))))
  (aB (aV (i:=3) iJ.nd rfl (Or.inl rfl) (hV MWa GWI r11 rfl WBx.mW bWI .nil aK (aA (aH G3 r6 rfl m3 k3 b3 .nil aK (aA (pv 1) (aA (pv 2) aE))) aE)))
  (aB (aV (i:=4) iJ.nd rfl (Or.inl rfl) (hV MWa GWI r11 rfl WBx.mW bWI .nil aK (aA (aH G3 r6 rfl m3 k3 b3 .nil aK (aA (pv 1) (aA (pv 2) aE))) aE)))
  (aB (aV (i:=5) iJ.nd rfl (Or.inl rfl) (aH G4 r3 rfl m4 k4 b4 .nil aK (aA (pv 3) (aA fV aE))))
  (aB (aV (i:=6) iJ.nd rfl (Or.inl rfl) (dI (aA (gA dP rfl mli PyProof.Rows.boot_list (aA (aW bA (pv 5) aF (fun _ _=>rfl)) aE)) (aA (gA dP rfl mli PyProof.Rows.boot_list (aA (aW bA (pv 5) aF (fun _ _=>rfl)) aE)) aE))))
  (aB (cD (PW.pt (kH (bF (oA hu) (pv 2) (cU aE) (bG _)) (jI (bF (qF hu) (aH G4 r3 rfl m4 k4 b4 .nil aK (aA (pv 4) (aA fV aE))) (pv 6) (bG _))))) (aG (aX (kO (iC (oA hu) (pv 2) (cU aE) (bG _)) (pV (iC (oA hu) (pv 5) (dI (aA (cU (aA (dI (aA aF (aA aF aE))) aE)) (aA (cU aE) aE))) (bG _)))))) bH)
  (aB (aV (i:=7) iJ.nd rfl (Or.inl rfl) (aH G4 r3 rfl m4 k4 b4 .nil aK (aA (pv 3) (aA fV aE))))
  (aB (bY (lQ PySem.F.plainAttrs_list PySem.F.slot_list_append PySem.F.type_list_append eY (aW bA (pv 7) aF (fun _ _=>rfl)) (aA (dI (aA aF (aA aF aE))) aE)))
  (aB (bY (Nf PySem.F.plainAttrs_list PySem.F.slot_list_clear PySem.F.type_list_clear Py (aW bA (pv 7) aF (fun _ _=>rfl))))
  (aB (cD (bF (qF hu) (aH G4 r3 rfl m4 k4 b4 .nil aK (aA (pv 3) (aA fV aE))) (pv 6) (bG _)) (aG (aX fV)) bH)
  (aB (aV (i:=8) iJ.nd rfl (Or.inl rfl) (cU aE))
  (aB (fU PassesOwn.never rfl (dM (cU (aA aF (aA aF aE)))) (bU (i:=9) iJ.nd rfl (Or.inl rfl))
   (aB (aV (i:=10) iJ.nd rfl (Or.inl rfl) (aH G1 r1 rfl m1 k1 b1 .nil aK (aA (pv 0) (aA (pv 9) aE))))
  (aB (aV (i:=11) iJ.nd rfl (Or.inl rfl) (aH G5 r1 rfl m5 k5 b5 .nil aK (aA (pv 10) (aA aF (aA (cI bV rfl ml PySem.boot_len (aA (pv 2) aE)) aE)))))
  (aG (bY (lQ PySem.F.plainAttrs_list PySem.F.slot_list_append PySem.F.type_list_append eY (pv 8) (aA (dI (aA (pv 11) (aA (aH G6 r2 rfl m6 k6 b6 .nil aK (aA (pv 10) (aA (aW bA (aW bX (pv 2) (pv 11) (fun _ _=>rfl)) aF (fun _ _=>rfl)) aE))) aE))) aE)))))))
  (aB (cD (bF eZ (aW bA (aW bX (pv 8) aF (fun _ _=>rfl)) aF (fun _ _=>rfl)) (aW bA (aW bX (pv 8) aF (fun _ _=>rfl)) aF (fun _ _=>rfl)) (bG _)) (aG (aV (i:=8) iJ.nd rfl (Or.inl rfl) (cU (aA (aW bX (pv 8) aF (fun _ _=>rfl)) aE)))) bH)
  (aB (aV (i:=12) iJ.nd rfl (Or.inl rfl) (gA dP rfl mli PyProof.Rows.boot_list (aA (pv 2) aE)))
  (aB (cD (PW.pt (kH (gE (dY (aH G7 hr rfl m7 k7 b7 .nil aK (aA (pv 3) (aA (pv 12) (aA (pv 8) aE)))))) (jI (bF (qF hu) (aH G4 r3 rfl m4 k4 b4 .nil aK (aA (pv 4) (aA fV aE))) (pv 6) (bG _))))) (aG (aX fV)) bH)
  (aB (aV (i:=13) iJ.nd rfl (Or.inl rfl) (gA dP rfl mli PyProof.Rows.boot_list (aA (pv 2) aE)))
  (aB (cD (gE (dY (aH G7 hr rfl m7 k7 b7 .nil aK (aA (pv 4) (aA (pv 13) (aA (Nw (pv 8) (Dh uZ aF)) aE)))))) (aG (aX fV)) bH)
  (aB (cD (PW.pt (kH (bF (qF hu) (aH G4 r3 rfl m4 k4 b4 .nil aK (aA (pv 3) (aA fV aE))) (aH G4 r3 rfl m4 k4 b4 .nil aK (aA (pv 4) (aA fV aE))) (bG _)) (jI (bF (qF hu) (cC (cC (pv 3) WBx.cl mWn GWn r5 bWn .nil aK) NTx.cl mTo GTo r1 bTo .nil aK) (pv 12) (bG _))))) (aG (aX fV)) bH)
  (aB (rY (i:=14) (nl:=2) (fr:=[2]) (Nc:=["_law_at","_law_size_here","_law_rows"]) (cl:=[("_law_rows",s.heap.objs.size+1)]) (g:=(Kz K 2 (kP (jQ 0) (kP (jQ 1) Ll)))) iJ.nd rfl rfl rfl ⟨rfl,rfl,by decide +kernel,by decide +kernel,fun x c h=>h,gP rfl,rfl,fun i n h=>match i,h with | 0,h=>by cases h;exact⟨2,rfl,rfl,rfl,rfl,.inl rfl⟩ | k+1,h=>by rw[show 2+(k+1)=k+3 by lia] at h;cases h⟩
    (dM (pv 8)) (fun C s3 H3 fp pins=>(nT rfl (eP (bU (i:=0) iD rfl (Or.inl rfl)) (eP (bU (i:=1) iD rfl (Or.inl rfl)) kE)))) (fun C s3 H3 fp pins=>gO)
    (fun C s3 H3 fp pins=>(dI (aA (pv 0) (aA (aW (tF (K:=K) rfl) (aW (uE (K:=K) rfl) (pv 2) (pv 0) (fun _ _=>rfl)) aF (fun _ _=>rfl)) aE)))) rfl)
  (aB (cD (PW.pt (kH (gE (dY (aH G7 hr rfl m7 k7 b7 .nil aK (aA (pv 3) (aA (pv 12) (aA (pv 14) aE)))))) (jI (bF (qF hu) (aH G4 r3 rfl m4 k4 b4 .nil aK (aA (pv 3) (aA fV aE))) (pv 6) (bG _))))) (aG (aX fV)) bH)
  (aG (aX (kO (aH G7 hr rfl m7 k7 b7 .nil aK (aA (pv 4) (aA (pv 13) (aA (Nw (pv 14) (Dh uZ aF)) aE)))) (kO (iC (oA hu) (aH G4 r3 rfl m4 k4 b4 .nil aK (aA (pv 4) (aA fV aE))) (pv 6) (bG _)) (pV (iC (oA hu) (pv 5) (pv 6) (bG _)))))))))))))))))))))))))))),?_⟩
 refine qe3 (fun σ' H'=>bC H H'/\∃(M:Nat) (L:Int) (ds:List RD) (r w1 w2 t5 t6:Addr) (us:List V) (lv fl:List Q2),σ'=[some (.ref a),some (.int (M:Int)),some (.ref r),some (.ref w1),some (.ref w2),some (.ref t5),some (.ref t6),none,none,none,none,none,none,none,none]/\LwA CN CA CW K H' M L ds r w1 w2 t5 t6 us lv fl) (fun X hX=>?_) ?_
 ·refine pE (fun σ' H'=>bC H H'/\∃M:Nat,σ'=[some (.ref a),some (.int (M:Int)),none,none,none,none,none,none,none,none,none,none,none,none,none]/\1<=M/\M<=4) (fun X2 hX2=>?_) ?_
  ·refine⟨_,rfl,a,ns,0,0,rfl,rfl,hS,h63,fun v H1 s1=>⟨_,_,rfl,rfl,(show (0:Int) < 4 by decide),_,_,rfl,rfl,?_⟩⟩;have f0:=Int.emod_nonneg v (show (4:Int)≠0 by decide);have f9:=Int.emod_lt_of_pos v (show (0:Int) < 4 by decide);obtain⟨M,hM⟩:∃M:Nat,1+v % 4=(M:Int):=⟨(1+v % 4).toNat,by lia⟩
   exact hX2 _ _ ⟨s1,M,by rw[<- hM];rfl,by lia,by lia⟩
  rintro σ1 H1 ⟨s1,M,rfl,M1,M4⟩;refine pE (fun σ' H'=>bC H H'/\∃(L:Int) (ds:List RD) (r:Addr) (us:List V),σ'=[some (.ref a),some (.int (M:Int)),some (.ref r),none,none,none,none,none,none,none,none,none,none,none,none]/\Dw M L ds/\Mq.B 72 L/\ds.length<=10/\(ds=[]->M=1)/\H' r=some (.lst us)/\Rts K H' us ds) (fun X2 hX2=>?_) ?_
  ·refine⟨_,rfl,_,rfl,zl9 4,fun w hw=>?_⟩;have s2:=aI hw (.lst [.str "piece",.str "hold",.str "piece",.str "piece"]);have e2:upd H1 w (.lst [.str "piece",.str "hold",.str "piece",.str "piece"]) w=some (.lst [.str "piece",.str "hold",.str "piece",.str "piece"]):=aC;generalize upd H1 w (.lst [.str "piece",.str "hold",.str "piece",.str "piece"])=H2 at s2 e2 ⊢;refine⟨a,w,ns,M,7,[.pc,.ho,.pc,.pc],rfl,(s1.trans s2).seq hS,h63,M1,by lia,by lia,SqL.of e2,by decide,by decide,fun r us tt E H3 s3 nr er hR hg le=>?_⟩;obtain⟨L,DW,LB,l10,hm1⟩:=Xn hg M4 le;exact hX2 _ _ ⟨s1.trans (s2.trans s3),L,rwH E,r,us,rfl,DW,LB,l10,hm1,er,hR⟩
  rintro σ3 H3 ⟨s03,L,ds,r,us,rfl,DW,LB,l10,hm1,er,hR⟩;have o:=DW.o;have rok:∀d∈ds,zS (M:Int) d:=fun d hd=>(DW.ok d hd).1;refine pE (fun σ' H'=>bC H3 H'/\∃w1:Addr,σ'=[some (.ref a),some (.int (M:Int)),some (.ref r),some (.ref w1),none,none,none,none,none,none,none,none,none,none,none]/\fR [] CN CA CW K H' w1 M ds) (fun X2 hX2=>?_) ?_
  ·refine⟨_,rfl,_,rfl,(M:Int),r,us,ds,rfl,by lia,by lia,SqL.of er,hR,rok,by lia,fun n l H4 s4 nl nt=>?_⟩;refine fun x dx hx0 hdx nxd=>?_;have sm:=mB (C:=CW) hx0 hdx;refine⟨x,dx,n,l,M,L,ds,rfl,aC,nt.same sm,DW,fun H5 sx5 wat=>⟨rfl,?_⟩⟩;exact hX2 _ _ ⟨s4.trans (pH hx0 hdx sx5),x,rfl,wat [] (fun y hy=>by cases hy)⟩
  rintro σ5 H5 ⟨s35,w1,rfl,WA1⟩;refine pE (fun σ' H'=>bC H5 H'/\∃w2:Addr,σ'=[some (.ref a),some (.int (M:Int)),some (.ref r),some (.ref w1),some (.ref w2),none,none,none,none,none,none,none,none,none,none]/\fR [w2] CN CA CW K H' w1 M ds/\fR [w1] CN CA CW K H' w2 M ds/\w1≠w2) (fun X2 hX2=>?_) ?_
  ·refine⟨_,rfl,_,rfl,(M:Int),r,us,ds,rfl,by lia,by lia,SqL.of (s35 _ _ er),hR.same s35,rok,by lia,fun n l H6 s6 nl nt=>?_⟩;refine fun x dx hx0 hdx nxd=>?_;have sm:=mB (C:=CW) hx0 hdx;obtain⟨dy,ya,yn,hw1⟩:=gJ (WA1.same s6);refine⟨x,dx,n,l,M,L,ds,rfl,aC,nt.same sm,DW,fun H7 sx7 wat=>⟨rfl,?_⟩⟩;have s7:=pH hx0 hdx sx7;refine hX2 _ _ ⟨s6.trans s7,x,rfl,((WA1.same s6).more hx0).same s7,wat [w1] (fun y hy=>?_),aL hw1 hx0⟩;have:y=w1:=by simpa using hy
   rw[this];exact⟨_,sm _ _ hw1⟩
  rintro σ7 H7 ⟨s57,w2,rfl,A1,A2,n12⟩;have s37:=s35.trans s57;refine⟨_,rfl,w1,M,ds,true,rfl,(A1).less (fun y hy=>by cases hy),o,fun t8 le8 fo8 xs8 ys8 lv8 fl8 H8 s8 nle8 nfo8 nlf8 ht8 ele8 Fle8 efo8 Ffo8 AV8=>?_⟩
  try dsimp only
  refine⟨_,rfl,t8,_,0,_,rfl,rfl,ht8,rfl,le8,xs8,rfl,.inl (SqL.of ele8),fun lk hlk=>?_⟩;have s9:=aI hlk (.lst xs8);have e9:upd H8 lk (.lst xs8) lk=some (.lst xs8):=aC;generalize upd H8 lk (.lst xs8)=H9 at s9 e9 ⊢;refine⟨_,rfl,t8,_,1,_,rfl,rfl,s9.seqT ht8,rfl,fo8,ys8,rfl,.inl (SqL.of (s9 _ _ efo8)),fun fk hfk=>?_⟩;have sA:=aI hfk (.lst ys8);have eA:upd H9 fk (.lst ys8) fk=some (.lst ys8):=aC;generalize upd H9 fk (.lst ys8)=HA at sA eA ⊢;refine⟨zl9 2,fun t6 ht6=>?_⟩;have sB:=aI ht6 (.tup [.ref lk,.ref fk]);have eB:upd HA t6 (.tup [.ref lk,.ref fk]) t6=some (.tup [.ref lk,.ref fk]):=aC;generalize upd HA t6 (.tup [.ref lk,.ref fk])=HB at sB eB ⊢;have s8B:=s9.trans (sA.trans sB);have s7B:=s8.trans s8B;refine hX _ _ ⟨s03.trans (s37.trans s7B),M,L,ds,r,w1,w2,t8,t6,us,lv8,fl8,rfl,M4,DW,LB,l10,hm1,(s37.trans s7B) _ _ er,hR.same (s37.trans s7B),A1.same s7B,A2.same s7B,n12,⟨le8,fo8,xs8,ys8,s8B.seqT ht8,s8B _ _ ele8,Fle8.same s8B,s8B _ _ efo8,Ffo8.same s8B,(fun y hy=>by cases hy)⟩,⟨lk,fk,xs8,ys8,SqT.of eB,(sA.trans sB) _ _ e9,Fle8.same s8B,sB _ _ eA,Ffo8.same s8B,(fun y hy=>by cases hy)⟩,AV8⟩
 rintro σA HA ⟨s0A,M,L,ds,r,w1,w2,t5,t6,us,lv,fl,rfl,LA⟩;have o:=LA.dw.o;have avu:=@iE.uni M ds;refine⟨_,rfl,zl9 0,fun O hO=>?_⟩;have sB:=aI hO (.lst []);have eB:upd HA O (.lst []) O=some (.lst []):=aC;generalize upd HA O (.lst [])=HB at sB eB ⊢;have LB:=LA.same sB;refine yW (SqL.of LB.er) LB.hR (SqL.of eB) ⟨_,rfl,?_⟩
 cases hds:ds with
 |nil=>
  subst hds;refine L2.ifT rfl (L2.ifT rfl ?_);have hM:=LA.m1 rfl;subst hM;have elv:lv=[(0,1)]/\fl=[]:=by
   obtain⟨ps,e1,e2,lps,_⟩:=LA.av.e;have:ps=[]:=length_eq_zero_iff.mp lps;subst this;exact⟨e1,e2⟩
  refine⟨_,rfl,zl9 0,fun O2 hO2=>?_⟩;have sC:=aI hO2 (.lst []);have eC:upd HB O2 (.lst []) O2=some (.lst []):=aC;generalize upd HB O2 (.lst [])=HC at sC eC ⊢;have LC:=LB.same sC;refine yW (SqL.of LC.er) LC.hR (SqL.of eC) ⟨_,rfl,L2.ifT rfl ?_⟩;refine⟨_,rfl,zl9 2,fun z hz=>?_⟩;have sD:=aI hz (.tup [.int 0,.int 1]);have eD:upd HC z (.tup [.int 0,.int 1]) z=some (.tup [.int 0,.int 1]):=aC;generalize upd HC z (.tup [.int 0,.int 1])=HD at sD eD ⊢;refine⟨zl9 1,fun l1 hl1=>?_⟩;have sE:=aI hl1 (.lst [.ref z]);have eE:upd HD l1 (.lst [.ref z]) l1=some (.lst [.ref z]):=aC;generalize upd HD l1 (.lst [.ref z])=HE at sE eE ⊢;refine⟨zl9 0,fun l2 hl2=>?_⟩;have sF:=aI hl2 (.lst []);have eF:upd HE l2 (.lst []) l2=some (.lst []):=aC;generalize upd HE l2 (.lst [])=HF at sF eF ⊢;refine⟨zl9 2,fun t9 ht9=>?_⟩;have sG:=aI ht9 (.tup [.ref l1,.ref l2]);have eG:upd HF t9 (.tup [.ref l1,.ref l2]) t9=some (.tup [.ref l1,.ref l2]):=aC;generalize upd HF t9 (.tup [.ref l1,.ref l2])=HG at sG eG ⊢;have sEG:=sF.trans sG;have k5:=LC.k5.same (sD.trans (sE.trans sEG));rw[elv.1,elv.2] at k5;refine Kpt.eq (Y:=[]) k5 ⟨l1,l2,[.ref z],[],SqT.of eG,sEG _ _ eE,.cons (Fq.of ((sE.trans sEG) _ _ eD)) .nil,sG _ _ eF,.nil,(fun y hy=>by cases hy)⟩ ?_;exact q _
 |cons d0 dr=>
 have dne:0 < ds.length:=by rw[hds];exact Nat.succ_pos _
 refine L2.ifF rfl ?_;clear hds d0 dr;have m4:=LA.m4;have l10:=LA.l10;have M1:=o.m1;refine⟨_,rfl,w2,M,ds,false,rfl,(LB.a2).less (fun y hy=>by cases hy),o,fun tC leC foC xsC ysC lvC flC HC sC nleC nfoC nlfC htC eleC FleC efoC FfoC AVC=>?_⟩;have LC:=LB.same sC;refine⟨_,rfl,Kpt.eq (X:=[]) ⟨leC,foC,xsC,ysC,htC,eleC,(iE.uni o AVC (LA.av)).1 ▸ FleC,efoC,(iE.uni o AVC (LA.av)).2 ▸ FfoC,(fun y hy=>by cases hy)⟩ LC.k6 ⟨_,rfl,L2.ifF rfl ?_⟩⟩;have s0C:=s0A.trans (sB.trans sC);clear LB LA sB eB hO sC s0A eleC FleC efoC FfoC htC nleC nfoC nlfC
 try dsimp only
 refine Vr (fun σ' H'=>bC HC H'/\∃z7:Option V,σ'=[some (.ref a),some (.int (M:Int)),some (.ref r),some (.ref w1),some (.ref w2),some (.ref t5),some (.ref t6),z7,none,none,none,none,none,none,none]) (fun X hX=>?_) ?_
 ·refine⟨_,rfl,w1,M,ds,false,rfl,(LC.a1).less (fun y hy=>by cases hy),o,fun tD leD foD xsD ysD lvD flD HD sD nleD nfoD nlfD htD eleD FleD efoD FfoD AVD=>?_⟩;have lD:xsD.length<=100:=by
   rw[FleD.length];obtain⟨ps,e1,_,lps,_⟩:=AVD.e;rw[e1];unfold lvS;rw[length_cons,length_take];lia
  refine⟨_,rfl,tD,_,0,_,rfl,rfl,htD,rfl,.inl ⟨rfl,_,SqL.of eleD⟩,zl9 2,fun z hz=>?_⟩;have sE:=aI hz (.tup [.int 7,.int 1]);have eE:upd HD z (.tup [.int 7,.int 1]) z=some (.tup [.int 7,.int 1]):=aC;generalize upd HD z (.tup [.int 7,.int 1])=HE at sE eE ⊢;have eleE:=sE _ _ eleD;refine⟨leD,xsD,.ref z,rfl,rfl,eleE,bO (by lia),?_⟩;have sF:bC HC (upd HE leD (.lst (xsD++[.ref z]))):=(sD.trans sE).change nleD;have htF:SqT K (upd HE leD (.lst (xsD++[.ref z]))) tD [.ref leD,.ref foD]:=(sE.seqT htD).upd eleE;have efoF:upd HE leD (.lst (xsD++[.ref z])) foD=some (.lst ysD):=by rw[aY (Ne.symm nlfD)];exact sE _ _ efoD
  generalize upd HE leD (.lst (xsD++[.ref z]))=HF at sF htF efoF ⊢;refine⟨_,rfl,tD,_,1,_,rfl,rfl,htF,rfl,.inl ⟨rfl,_,SqL.of efoF⟩,foD,ysD,rfl,rfl,efoF,?_⟩;exact hX _ _ ⟨sF.change nfoD,_,rfl⟩
 rintro σD HD ⟨sCD,z7,rfl⟩;have LD:=LC.same sCD;have s0D:=s0C.trans sCD;refine⟨_,rfl,w1,M,ds,true,rfl,(LD.a1).less (fun y hy=>by cases hy),o,fun tE leE foE xsE ysE lvE flE HE sE nleE nfoE nlfE htE eleE FleE efoE FfoE AVE=>?_⟩;have LE:=LD.same sE;refine⟨_,rfl,Kpt.eq (X:=[]) ⟨leE,foE,xsE,ysE,htE,eleE,(iE.uni o AVE (LD.av)).1 ▸ FleE,efoE,(iE.uni o AVE (LD.av)).2 ▸ FfoE,(fun y hy=>by cases hy)⟩ LE.k6 ⟨_,rfl,L2.ifF rfl ?_⟩⟩;have s0E:=s0D.trans sE;clear LC LD s0C s0D sCD sE eleE FleE efoE FfoE htE nleE nfoE nlfE
 try dsimp only
 refine Vr (fun σ' H'=>bC HE H'/\∃(dl:Addr) (z9 z10 z11:Option V) (xs:List V) (es:List (Nat × Q2)) (L':Int),σ'=[some (.ref a),some (.int (M:Int)),some (.ref r),some (.ref w1),some (.ref w2),some (.ref t5),some (.ref t6),z7,some (.ref dl),z9,z10,z11,none,none,none]/\H' dl=some (.lst xs)/\Dds K H' xs es/\D12 ds es/\Dw M L' ds/\dL L' ds es) (fun X hX=>?_) ?_
 ·refine⟨zl9 0,fun D hD=>?_⟩;have sF:=aI hD (.lst []);have eF:upd HE D (.lst []) D=some (.lst []):=aC;generalize upd HE D (.lst [])=HF at sF eF ⊢
  try dsimp only
  refine pE (fun σ' H'=>bC HE H'/\∃(z9 z10 z11:Option V) (xs:List V) (es:List (Nat × Q2)),σ'=[some (.ref a),some (.int (M:Int)),some (.ref r),some (.ref w1),some (.ref w2),some (.ref t5),some (.ref t6),z7,some (.ref D),z9,z10,z11,none,none,none]/\H' D=some (.lst xs)/\Dds K H' xs es/\es.length=2/\∀e∈es,∃d,ds[e.1]?=some d/\NwS d.1 e.2) (fun Y hY=>?_) ?_
  ·refine⟨zl9 2,fun Lk hLk=>?_⟩;have sG:=aI hLk (.lst [.int 20,.int 21]);have eG:upd HF Lk (.lst [.int 20,.int 21]) Lk=some (.lst [.int 20,.int 21]):=aC;generalize upd HF Lk (.lst [.int 20,.int 21])=HG at sG eG ⊢;have LkD:Lk≠D:=Ne.symm (aL eF hLk);refine⟨Lk,rfl,⟨_,SqL.of eG⟩,?_⟩;refine gH (xs:=[.int 20,.int 21]) (fun n σ H'=>bC HE H'/\H' Lk=some (.lst [.int 20,.int 21])/\∃(z9 z10 z11:Option V) (xs:List V) (es:List (Nat × Q2)),σ=[some (.ref a),some (.int (M:Int)),some (.ref r),some (.ref w1),some (.ref w2),some (.ref t5),some (.ref t6),z7,some (.ref D),z9,z10,z11,none,none,none]/\H' D=some (.lst xs)/\Dds K H' xs es/\es.length=n/\∀e∈es,∃d,ds[e.1]?=some d/\NwS d.1 e.2) ⟨sF.trans sG,eG,none,none,none,[],[],rfl,sG _ _ eF,.nil,rfl,(fun e he=>by cases he)⟩ (fun n σ H' _ h=>SqL.of h.2.1) ?_ ?_
   rotate_left
   ·rintro σ H' ⟨s,_,z9,z10,z11,xs,es,rfl,e,DD,le,al⟩;exact hY _ _ ⟨s,z9,z10,z11,xs,es,rfl,e,DD,le,al⟩
   rintro n x σ H1 hx ⟨s1,eLk,z9,z10,z11,xs,es,rfl,eD1,DD,les,al⟩;have hn:n < 2:=(List.getElem?_eq_some_iff.mp hx).1;obtain⟨kk,rfl⟩:∃kk:Nat,x=.int (kk:Int):=by
    match n,hx with
    |0,h=>exact⟨20,by simpa using h.symm⟩
    |1,h=>exact⟨21,by simpa using h.symm⟩
   have lxs:=DD.length;refine⟨_,rfl,_,rfl,a,ns,(kk:Int),kk,rfl,rfl,(s0E.trans s1).seq hS,h63,fun cell H2 s2=>?_⟩;have s12:=s1.trans s2;have L2':=LE.same s12;have lus:=L2'.hR.length;refine⟨_,rfl,_,rfl,r,us,rfl,.inl (SqL.of L2'.er),cell,1,_,rfl,by decide,by decide,(by show (0:Int) < (us.length:Int);lia),fun y H3 y0 y1 s3=>?_⟩;have y1:y < (us.length:Int):=y1;obtain⟨yn,rfl⟩:∃n:Nat,y=(n:Int):=⟨y.toNat,by lia⟩
   have s13:=s12.trans s3;have L3':=LE.same s13;obtain⟨d,hd⟩:∃d,ds[yn]?=some d:=⟨_,getElem?_eq_getElem (by lia)⟩
   obtain⟨tr,zr,etr,hT,_⟩:=L3'.hR.at hd;have eD3:=(s2.trans s3) _ _ eD1;refine⟨_,rfl,.inl ⟨rfl,_,SqL.of eD3⟩,_,rfl,_,rfl,_,rfl,_,rfl,r,us,_,_,rfl,rfl,SqL.of L3'.er,cL etr,tr,_,0,_,rfl,rfl,hT,rfl,cell,d.1,rfl,fun p lp bp lep pcp zp H4 s4 ezp=>?_⟩;refine⟨zl9 2,fun tt htt=>?_⟩;have s5:=aI htt (.tup [.int (yn:Int),.ref zp]);have e5:upd H4 tt (.tup [.int (yn:Int),.ref zp]) tt=some (.tup [.int (yn:Int),.ref zp]):=aC;generalize upd H4 tt (.tup [.int (yn:Int),.ref zp])=H5 at s5 e5 ⊢;have s35:=s4.trans s5;have s15:=(s2.trans s3).trans s35;have eD5:=s35 _ _ eD3;refine⟨D,xs,.ref tt,rfl,rfl,eD5,bO (by lia),?_⟩;refine⟨(s1.trans s15).change hD,by rw[aY LkD];exact s15 _ _ eLk,_,_,_,_,es++[(yn,p)],rfl,aC,Dds.upd eD5 ((DD.same s15).app (.cons (SqT.of e5) (Fq.of (s5 _ _ ezp)) .nil)),by rw[length_append,les];rfl,fun e he=>?_⟩;rcases mem_append.mp he with h | h
   ·exact al e h
   ·have:e=(yn,p):=by simpa using h
    rw[this];exact⟨d,hd,lp,bp,lep,pcp⟩
  rintro σ5 H5 ⟨s5,z9,z10,z11,xs,es,rfl,eD,DD,les,al⟩;obtain⟨e1,e2,rfl⟩:∃e1 e2,es=[e1,e2]:=by
   match es,les with
   | [x,y],_=>exact⟨x,y,rfl⟩
  obtain⟨i1,p1⟩:=e1;obtain⟨i2,p2⟩:=e2
  cases DD with
  | @cons ta za _ _ xs1 _ hta fza DD=>
  cases DD with
  | @cons tb zb _ _ xs2 _ htb fzb DD=>
  cases DD
  obtain⟨d1,hd1,n1⟩:=al (i1,p1) mem_cons_self;obtain⟨d2,hd2,n2⟩:=al (i2,p2) (mem_cons_of_mem _ mem_cons_self);obtain⟨L',DW',z1,z2⟩:=Vz LE.dw LE.lb n1 n2;refine⟨_,rfl,D,_,_,_,rfl,rfl,SqL.of eD,rfl,ta,_,0,_,rfl,rfl,hta,rfl,_,rfl,D,_,1,_,rfl,rfl,SqL.of eD,rfl,tb,_,0,_,rfl,rfl,htb,rfl,rfl,_,rfl,?_⟩
  by_cases c:i1=i2
  ·refine L2.ifT (decide_eq_true (by rw[c])) ?_;refine⟨_,rfl,D,_,_,_,rfl,rfl,SqL.of eD,rfl,zl9 1,fun D2 hD2=>?_⟩;have s6:=aI hD2 (.lst [.ref ta]);refine hX _ _ ⟨s5.trans s6,D2,_,_,_,[.ref ta],[(i1,p1)],L',rfl,aC,.cons (s6.seqT hta) (s6.fq fza) .nil,.one hd1,DW',fun e he=>?_⟩;have:e=(i1,p1):=by simpa using he
   rw[this];exact⟨d1,hd1,z1⟩
  ·refine L2.ifF (decide_eq_false (fun z=>c (by injection z with z;exact_mod_cast z))) ?_;refine hX _ _ ⟨s5,D,_,_,_,_,[(i1,p1),(i2,p2)],L',rfl,eD,.cons hta fza (.cons htb fzb .nil),.two hd1 hd2 c,DW',fun e he=>?_⟩;rcases mem_cons.mp he with h | h
   ·rw[h];exact⟨d1,hd1,z1⟩
   ·have:e=(i2,p2):=by simpa using h
    rw[this];exact⟨d2,hd2,z2⟩
 rintro σF HF ⟨sEF,dl,z9,z10,z11,xs,es,L',rfl,el,DD,D12',DW',DO⟩;have LF:=LE.same sEF;clear LE s0E sEF;have er:=LF.er;have hR:=LF.hR;have K5:=LF.k5;have K6:=LF.k6;have A1:=LF.a1;have A2:=LF.a2;have n12:=LF.ne;have av:=LF.av;clear LF;refine⟨_,rfl,r,us,rfl,.inl (SqL.of er),fun mi hmi=>?_⟩;have A1:=A1.more hmi;have A2:=A2.more hmi;have K5:=K5.more hmi;have K6:=K6.more hmi;have rmi:r≠mi:=aL er hmi;have dlmi:dl≠mi:=aL el hmi;have sG:=aI hmi (.lst us);have emi:upd HF mi (.lst us) mi=some (.lst us):=aC;generalize upd HF mi (.lst us)=HG at sG emi ⊢;have A1:=A1.same sG;have A2:=A2.same sG;have K5:=K5.same sG;have K6:=K6.same sG;have er:=sG _ _ er;have hR:=hR.same sG;have el:=sG _ _ el;have DD:=DD.same sG;obtain⟨dx1,a1,n1,hw1⟩:=gJ A1;obtain⟨dx2,a2,n2,hw2⟩:=gJ A2
 try dsimp only
 refine pE (fun σ' H'=>σ'=[some (.ref a),some (.int (M:Int)),some (.ref r),some (.ref w1),some (.ref w2),some (.ref t5),some (.ref t6),z7,some (.ref dl),z9,z10,z11,some (.ref mi),none,none]/\∃us1:List V,SWR w1 mi HG H'/\H' mi=some (.lst us1)/\Rts K H' us1 (apD ds es)/\fR [mi,w2] CN CA CW K H' w1 M (apD ds es)/\Dw M L' (apD ds es)) (fun X hX=>?_) ?_
 ·refine⟨_,rfl,_,rfl,_,rfl,w1,mi,dl,us,xs,M,L',ds,es,[mi,w2],rfl,A1,mem_cons_self,Ne.symm dlmi,(fun y hy=>?_),emi,hR,el,DD,DW',DO,fun us1 HH sH em1 hR1 A1' DW1=>?_⟩
  ·rcases mem_cons.mp hy with h | h
   ·rw[h];exact⟨_,emi⟩
   ·have:y=w2:=by simpa using h
    rw[this];exact⟨_,hw2⟩
  refine⟨_,rfl,L2.ifF rfl ?_⟩;have A2':=A2.wr hw1 emi sH (by simp) (by simp) (Ne.symm n12);have K6':=K6.wr hw1 emi sH mem_cons_self;refine⟨_,rfl,w2,M,ds,true,rfl,(A2').less (fun y hy=>by cases hy),o,fun tI leI foI xsI ysI lvI flI HI sI nleI nfoI nlfI htI eleI FleI efoI FfoI AVI=>?_⟩;refine⟨_,rfl,Kpt.eq (X:=[]) ⟨leI,foI,xsI,ysI,htI,eleI,(iE.uni o AVI (av)).1 ▸ FleI,efoI,(iE.uni o AVI (av)).2 ▸ FfoI,(fun y hy=>by cases hy)⟩ (K6'.same sI) ⟨_,rfl,L2.ifF rfl ?_⟩⟩;exact hX _ _ ⟨rfl,us1,fun b o h b1 b2=>sI _ _ (sH b o h b1 b2),sI _ _ em1,hR1.same sI,A1'.same sI,DW1⟩
 rintro σH HH ⟨rfl,us1,sH,em1,hR1,A1,DW1⟩;have A2:=A2.wr hw1 emi sH (by simp) (by simp) (Ne.symm n12);have K5:=K5.wr hw1 emi sH mem_cons_self;have K6:=K6.wr hw1 emi sH mem_cons_self;have er:=oT hw1 sH rmi er;have hR:=Ck hw1 emi sH hR;have el:=oT hw1 sH dlmi el;have DD:=DD.wr hw1 emi sH;clear sH emi hw1 hw2 sG hmi;refine⟨_,rfl,r,us,rfl,.inl (SqL.of er),fun th hth=>?_⟩;have A1:=A1.more hth;have A2:=A2.more hth;have K5:=K5.more hth;have K6:=K6.more hth;have rth:r≠th:=aL er hth;have dlth:dl≠th:=aL el hth;have mith:mi≠th:=aL em1 hth;have sI:=aI hth (.lst us);have eth:upd HH th (.lst us) th=some (.lst us):=aC;generalize upd HH th (.lst us)=HI at sI eth ⊢;have A1:=A1.same sI;have A2:=A2.same sI;have K5:=K5.same sI;have K6:=K6.same sI;have er:=sI _ _ er;have hR:=hR.same sI;have el:=sI _ _ el;have DD:=DD.same sI;have em1:=sI _ _ em1;have hR1:=hR1.same sI
 try dsimp only
 refine pE (fun σ' H'=>σ'=[some (.ref a),some (.int (M:Int)),some (.ref r),some (.ref w1),some (.ref w2),some (.ref t5),some (.ref t6),z7,some (.ref dl),z9,z10,z11,some (.ref mi),some (.ref th),none]/\∃us2:List V,fR [th,mi,w2] CN CA CW K H' w1 M (apD ds es)/\fR [th,mi,w1] CN CA CW K H' w2 M (apD ds es)/\H' th=some (.lst us2)/\Rts K H' us2 (apD ds es)/\H' mi=some (.lst us1)/\Rts K H' us1 (apD ds es)/\H' r=some (.lst us)/\Rts K H' us ds/\H' dl=some (.lst xs)/\Dds K H' xs es/\Kpt [th,mi] K H' t5 lv fl/\Kpt [th,mi] K H' t6 lv fl) (fun X hX=>?_) ?_
 ·refine⟨_,rfl,_,rfl,_,rfl,1,rfl,dl,xs,rfl,rfl,SqL.of el,fun d2 hd2=>?_⟩;have thd2:th≠d2:=aL eth hd2;have sJ:=aI hd2 (.lst xs.reverse);have ed2:upd HI d2 (.lst xs.reverse) d2=some (.lst xs.reverse):=aC;generalize upd HI d2 (.lst xs.reverse)=HJ at sJ ed2 ⊢;have A1:=A1.same sJ;have A2:=A2.same sJ;obtain⟨dx1,a1,n1,hw1⟩:=gJ A1;obtain⟨dx2,a2,n2,hw2⟩:=gJ A2;have eth:=sJ _ _ eth;have em1:=sJ _ _ em1;refine⟨w2,th,d2,us,xs.reverse,M,L',ds,es.reverse,[th,mi,w1],rfl,A2,mem_cons_self,thd2,(fun y hy=>?_),eth,hR.same sJ,ed2,(DD.same sJ).rev,DW',DO.rev,fun us2 HK sK et2 hR2 A2' DW2=>⟨_,rfl,L2.ifF rfl ?_⟩⟩
  ·rcases mem_cons.mp hy with h | h
   ·rw[h];exact⟨_,eth⟩
   ·rcases mem_cons.mp h with h | h
    ·rw[h];exact⟨_,em1⟩
    ·have:y=w1:=by simpa using h
     rw[this];exact⟨_,hw1⟩
  rw[D12'.rev] at hR2 A2';exact hX _ _ ⟨rfl,us2,A1.wr hw2 eth sK (by simp) (by simp) n12,A2',et2,hR2,oT hw2 sK mith em1,Ck hw2 eth sK (hR1.same sJ),oT hw2 sK rth (sJ _ _ er),Ck hw2 eth sK (hR.same sJ),oT hw2 sK dlth (sJ _ _ el),(DD.same sJ).wr hw2 eth sK,(K5.same sJ).wr hw2 eth sK (by simp),(K6.same sJ).wr hw2 eth sK (by simp)⟩
 clear A1 A2 K5 K6 er hR el DD em1 hR1 eth sI hth;rintro σK HK ⟨rfl,us2,A1,A2,et2,hR2,em1,hR1,er,hR,el,DD,K5,K6⟩;have o0:=o;have o:=DW1.o;obtain⟨dn1,an1,nn1,hw1⟩:=gJ A1
 try dsimp only
 refine pE (fun σ' H'=>bC HK H'/\σ'=[some (.ref a),some (.int (M:Int)),some (.ref r),some (.ref w1),some (.ref w2),some (.ref t5),some (.ref t6),z7,some (.ref dl),z9,z10,z11,some (.ref mi),some (.ref th),none]) (fun X hX=>?_) ?_
 ·refine⟨_,rfl,w1,M,apD ds es,false,rfl,(A1).less (fun y hy=>by cases hy),o,fun tL leL foL xsL ysL lvL flL HL sL nleL nfoL nlfL htL eleL FleL efoL FfoL AVL=>?_⟩;refine⟨_,rfl,w2,M,apD ds es,true,rfl,(A2.same sL).less (fun y hy=>by cases hy),o,fun tM leM foM xsM ysM lvM flM HM sM nleM nfoM nlfM htM eleM FleM efoM FfoM AVM=>?_⟩;refine Kpt.eq (X:=[]) (Y:=[]) (lv:=lvM) (fl:=flM) ⟨leL,foL,xsL,ysL,sM.seqT htL,sM _ _ eleL,((iE.uni o AVL AVM).1 ▸ FleL).same sM,sM _ _ efoL,((iE.uni o AVL AVM).2 ▸ FfoL).same sM,(fun y hy=>by cases hy)⟩ ⟨leM,foM,xsM,ysM,htM,eleM,FleM,efoM,FfoM,(fun y hy=>by cases hy)⟩ ⟨_,rfl,L2.ifF rfl ?_⟩;have sLM:=sL.trans sM;refine⟨_,rfl,w1,dn1,_,rfl,sLM _ _ hw1,jU _ _ (by decide +kernel) (by decide +kernel),w1,M,apD ds es,rfl,(A1.same sLM).less (fun y hy=>by cases hy),by lia,by lia,fun n l HN sN ntN=>?_⟩;obtain⟨dn,hn⟩:=ntN.ob;refine⟨n,dn,_,rfl,hn,cX _ _ (by decide +kernel) (by decide +kernel),n,l,_,apD ds es,rfl,ntN,fun tt ts HO sO _ ett Rtt=>?_⟩;have sKO:=sLM.trans (sN.trans sO);refine⟨_,rfl,Vs (SqL.of ett) (SqL.of (sKO _ _ em1)) Rtt (hR1.same sKO) ⟨_,rfl,L2.ifF rfl ?_⟩⟩;exact hX _ _ ⟨sKO,rfl⟩
 rintro σL HL ⟨sL,rfl⟩;have A1:=A1.same sL;have A2:=A2.same sL;have K5:=K5.same sL;have K6:=K6.same sL;have er:=sL _ _ er;have hR:=hR.same sL;have el:=sL _ _ el;have DD:=DD.same sL;have em1:=sL _ _ em1;have hR1:=hR1.same sL;have et2:=sL _ _ et2;have hR2:=hR2.same sL;clear sL hw1;have ldd:=DD.length;refine⟨_,rfl,dl,rfl,⟨_,SqL.of el⟩,fun bk hbk=>?_⟩;have sB:=aI hbk (.lst []);refine gB (xs:=xs) (fun j zs H'=>bC HL H'/\H' bk=some (.lst zs)/\Dds K H' zs ((bkD ds es).take j)) ⟨sB,aC,.nil⟩ (fun j zs H' h=>h.2.1) (fun j zs H' _ h=>SqL.of (h.1 _ _ el)) ?_ ?_
 ·rintro j zs x H1 hx ⟨s1,e1,DZ⟩ C hC;obtain⟨tt,zz,e,rfl,he,hT,_⟩:=(DD.same s1).get hx;obtain⟨d,hd,_⟩:=DO e (mem_of_getElem? he);obtain⟨tr,zr,etr,hTr,fzr⟩:=(hR.same s1).at hd;have lz:=DZ.length;have lt:((bkD ds es).take j).length<=2:=by
   refine Nat.le_trans (length_take_le' _ _) ?_;unfold bkD;rw[length_map]
   cases D12' with
   |one _=>exact Nat.le_succ _
   |two _ _ _=>exact Nat.le_refl _
  refine⟨tt,_,rfl,hT,rfl,_,_,rfl,_,_,rfl,rfl,mX.1,mX.2,gW ?_⟩;refine⟨_,rfl,_,rfl,_,rfl,r,us,_,_,rfl,rfl,SqL.of (s1 _ _ er),cL etr,tr,_,3,_,rfl,rfl,hTr,rfl,zl9 2,fun t9 ht9=>?_⟩;have s2:=aI ht9 (.tup [.int (e.1:Int),.ref zr]);have e2:upd H1 t9 (.tup [.int (e.1:Int),.ref zr]) t9=some (.tup [.int (e.1:Int),.ref zr]):=aC;generalize upd H1 t9 (.tup [.int (e.1:Int),.ref zr])=H2 at s2 e2 ⊢;have e1':=s2 _ _ e1;refine⟨e1',bO (by lia),hC _ _ ⟨(s1.trans s2).change hbk,aC,?_⟩⟩;have hb:(bkD ds es)[j]?=some (e.1,d.2.2.2):=by
   unfold bkD;rw[getElem?_map,he];show some (e.1,(ds.getD e.1 (.pu,0,0,(0,1))).2.2.2)=_;rw[gd hd]
  rw[take_add_one,hb];exact Dds.upd e1' ((DZ.same s2).app (.cons (SqT.of e2) (s2.fq fzr) .nil))
 rintro zs HM ⟨sM,ebk,DZ⟩;have lb:xs.length=(bkD ds es).length:=by unfold bkD;rw[ldd,length_map]
 rw[lb,take_length] at DZ;have bkmi:mi≠bk:=aL em1 hbk;have bkth:th≠bk:=aL et2 hbk;have A1:=A1.same sM;have A2:=A2.same sM;have K5:=K5.same sM;have K6:=K6.same sM;have em1:=sM _ _ em1;have hR1:=hR1.same sM;have et2:=sM _ _ et2;have hR2:=hR2.same sM;obtain⟨dx1,a1,n1,hw1⟩:=gJ A1;obtain⟨dx2,a2,n2,hw2⟩:=gJ A2;have DOb:=dL.apD DO (DO.bk DW');have bk1:=D12'.back.1;have bk2:=D12'.back.2
 try dsimp only
 refine pE (fun σ' H'=>σ'=[some (.ref a),some (.int (M:Int)),some (.ref r),some (.ref w1),some (.ref w2),some (.ref t5),some (.ref t6),z7,some (.ref dl),z9,z10,z11,some (.ref mi),some (.ref th),some (.ref bk)]/\SWR w1 mi HM H') (fun X hX=>?_) ?_
 ·refine⟨_,rfl,_,rfl,_,rfl,w1,mi,bk,us1,zs,M,L',apD ds es,bkD ds es,[th,mi,w2],rfl,A1,by simp,bkmi,(fun y hy=>?_),em1,hR1,ebk,DZ,DW1,DOb,fun us3 HN sN em3 hR3 A1' DW3=>?_⟩
  ·rcases mem_cons.mp hy with h | h
   ·rw[h];exact⟨_,et2⟩
   ·rcases mem_cons.mp h with h | h
    ·rw[h];exact⟨_,em1⟩
    ·have:y=w2:=by simpa using h
     rw[this];exact⟨_,hw2⟩
  refine⟨_,rfl,L2.ifF rfl ?_⟩;rw[bk1] at A1';have o:=o0;have K6':=K6.wr hw1 em1 sN (by simp);refine⟨_,rfl,w1,M,ds,true,rfl,(A1').less (fun y hy=>by cases hy),o,fun tP leP foP xsP ysP lvP flP HP sP nleP nfoP nlfP htP eleP FleP efoP FfoP AVP=>?_⟩;refine⟨_,rfl,Kpt.eq (X:=[]) ⟨leP,foP,xsP,ysP,htP,eleP,(iE.uni o AVP (av)).1 ▸ FleP,efoP,(iE.uni o AVP (av)).2 ▸ FfoP,(fun y hy=>by cases hy)⟩ (K6'.same sP) ⟨_,rfl,L2.ifF rfl ?_⟩⟩;exact hX _ _ ⟨rfl,fun b o h b1 b2=>sP _ _ (sN b o h b1 b2)⟩
 rintro σN HN ⟨rfl,sN⟩;have A2:=A2.wr hw1 em1 sN (by simp) (by simp) (Ne.symm n12);have K5:=K5.wr hw1 em1 sN (by simp);have K6:=K6.wr hw1 em1 sN (by simp);have et2:=oT hw1 sN (Ne.symm mith) et2;have hR2:=Ck hw1 em1 sN hR2;have ebk:=oT hw1 sN (Ne.symm bkmi) ebk;have DZ:=DZ.wr hw1 em1 sN;refine⟨_,rfl,_,rfl,_,rfl,1,rfl,bk,zs,rfl,rfl,SqL.of ebk,fun d3 hd3=>?_⟩;have thd3:th≠d3:=aL et2 hd3;have sP:=aI hd3 (.lst zs.reverse);have ed3:upd HN d3 (.lst zs.reverse) d3=some (.lst zs.reverse):=aC;generalize upd HN d3 (.lst zs.reverse)=HP at sP ed3 ⊢;have A2:=A2.same sP;have et2:=sP _ _ et2;obtain⟨dx2,a2,n2,hw2⟩:=gJ A2;have thy:∀y∈[th],y=th:=fun y hy=>by simpa using hy
 refine⟨w2,th,d3,us2,zs.reverse,M,L',apD ds es,(bkD ds es).reverse,[th],rfl,A2.less (fun y hy=>(thy y hy).symm ▸ mem_cons_self),mem_cons_self,thd3,(fun y hy=>⟨_,(thy y hy).symm ▸ et2⟩),et2,hR2.same sP,ed3,(DZ.same sP).rev,DW1,DOb.rev,fun us4 HR sR et4 hR4 A2' DW4=>⟨_,rfl,L2.ifT rfl ?_⟩⟩;rw[bk2] at A2';have K5:=(K5.same sP).wr hw2 et2 sR mem_cons_self;have K6:=(K6.same sP).wr hw2 et2 sR mem_cons_self;have o:=o0;refine⟨_,rfl,w2,M,ds,false,rfl,(A2').less (fun y hy=>by cases hy),o,fun tS leS foS xsS ysS lvS flS HS sS nleS nfoS nlfS htS eleS FleS efoS FfoS AVS=>?_⟩;refine⟨_,rfl,Kpt.eq (X:=[]) ⟨leS,foS,xsS,ysS,htS,eleS,(iE.uni o AVS (av)).1 ▸ FleS,efoS,(iE.uni o AVS (av)).2 ▸ FfoS,(fun y hy=>by cases hy)⟩ (K6.same sS) ⟨_,rfl,L2.ifT rfl ?_⟩⟩;refine⟨_,rfl,_,rfl,Kpt.eq (K5.same sS) (K6.same sS) ?_⟩;exact q _
end
theorem cK {us:List Value}(h:us.length=1):∃a,us=[a]:=match us,h with | [a],_=>⟨a,rfl⟩
theorem cE {us:List Value}(h:us.length=2):∃a b,us=[a,b]:=match us,h with | [a,b],_=>⟨a,b,rfl⟩
theorem fZ {us:List Value}(h:us.length=3):∃a b c,us=[a,b,c]:=match us,h with | [a,b,c],_=>⟨a,b,c,rfl⟩
theorem iL {us:List Value}(h:us.length=4):∃a b c d,us=[a,b,c,d]:=match us,h with | [a,b,c,d],_=>⟨a,b,c,d,rfl⟩
theorem Wo {l:W.OpenLaw}{w:World}{K:Frag}{h:Heap}{mg:Str->Option Value}{fa:Addr}(X:K.In h)(G:h.Ns mainGlobals mg)(hfa:mg "law"=some (.ref fa)){c_Row:Addr}{c_Piece:Addr}{c_Push:Addr}{c_Hold:Addr}{c_Net:Addr}{c_Answer:Addr}{c_Watch:Addr}{f1:Addr}{od1 an1:Option Addr}{sl1:Array (Option Value)}{oc1 kV1 dc1 pm1 cd1 ct1:Value}{f2:Addr}{od2 an2:Option Addr}{sl2:Array (Option Value)}{oc2 kV2 dc2 pm2 cd2 ct2:Value}{f3:Addr}{od3 an3:Option Addr}{sl3:Array (Option Value)}{oc3 kV3 dc3 pm3 cd3 ct3:Value}{f4:Addr}{od4 an4:Option Addr}{sl4:Array (Option Value)}{oc4 kV4 dc4 pm4 cd4 ct4:Value}{T4:Addr}{oT4:Value}{dT4:Option Addr}{nT4:Nat}{sT4:Array (Option Value)}{tk4:Tok}{f5:Addr}{od5 an5:Option Addr}{sl5:Array (Option Value)}{oc5 kV5 dc5 pm5 cd5 ct5:Value}{f6:Addr}{od6 an6:Option Addr}{sl6:Array (Option Value)}{oc6 kV6 dc6 pm6 cd6 ct6:Value}{f7:Addr}{od7 an7:Option Addr}{sl7:Array (Option Value)}{oc7 kV7 dc7 pm7 cd7 ct7:Value}{f8:Addr}{od8 an8:Option Addr}{sl8:Array (Option Value)}{oc8 kV8 dc8 pm8 cd8 ct8:Value}{f9:Addr}{od9 an9:Option Addr}{sl9:Array (Option Value)}{oc9 kV9 dc9 pm9 cd9 ct9:Value}{f10:Addr}{od10 an10:Option Addr}{sl10:Array (Option Value)}{oc10 kV10 dc10 pm10 cd10 ct10:Value}{f11:Addr}{od11 an11:Option Addr}{sl11:Array (Option Value)}{oc11 kV11 dc11 pm11 cd11 ct11:Value}{f12:Addr}{od12 an12:Option Addr}{sl12:Array (Option Value)}{oc12 kV12 dc12 pm12 cd12 ct12:Value}{f13:Addr}{od13 an13:Option Addr}{sl13:Array (Option Value)}{oc13 kV13 dc13 pm13 cd13 ct13:Value}{f14:Addr}{od14 an14:Option Addr}{sl14:Array (Option Value)}{oc14 kV14 dc14 pm14 cd14 ct14:Value}{f15:Addr}{od15 an15:Option Addr}{sl15:Array (Option Value)}{oc15 kV15 dc15 pm15 cd15 ct15:Value}{f16:Addr}{od16 an16:Option Addr}{sl16:Array (Option Value)}{oc16 kV16 dc16 pm16 cd16 ct16:Value}{f17:Addr}{od17 an17:Option Addr}{sl17:Array (Option Value)}{oc17 kV17 dc17 pm17 cd17 ct17:Value}{f18:Addr}{od18 an18:Option Addr}{sl18:Array (Option Value)}{oc18 kV18 dc18 pm18 cd18 ct18:Value}{f19:Addr}{od19 an19:Option Addr}{sl19:Array (Option Value)}{oc19 kV19 dc19 pm19 cd19 ct19:Value}{f20:Addr}{od20 an20:Option Addr}{sl20:Array (Option Value)}{oc20 kV20 dc20 pm20 cd20 ct20:Value}{f21:Addr}{od21 an21:Option Addr}{sl21:Array (Option Value)}{oc21 kV21 dc21 pm21 cd21 ct21:Value}{f22:Addr}{od22 an22:Option Addr}{sl22:Array (Option Value)}{oc22 kV22 dc22 pm22 cd22 ct22:Value}{f23:Addr}{od23 an23:Option Addr}{sl23:Array (Option Value)}{oc23 kV23 dc23 pm23 cd23 ct23:Value}{f24:Addr}{od24 an24:Option Addr}{sl24:Array (Option Value)}{oc24 kV24 dc24 pm24 cd24 ct24:Value}{f25:Addr}{od25 an25:Option Addr}{sl25:Array (Option Value)}{oc25 kV25 dc25 pm25 cd25 ct25:Value}{f26:Addr}{od26 an26:Option Addr}{sl26:Array (Option Value)}{oc26 kV26 dc26 pm26 cd26 ct26:Value}{f27:Addr}{od27 an27:Option Addr}{sl27:Array (Option Value)}{oc27 kV27 dc27 pm27 cd27 ct27:Value}{f28:Addr}{od28 an28:Option Addr}{sl28:Array (Option Value)}{oc28 kV28 dc28 pm28 cd28 ct28:Value}{f29:Addr}{od29 an29:Option Addr}{sl29:Array (Option Value)}{oc29 kV29 dc29 pm29 cd29 ct29:Value}{f30:Addr}{od30 an30:Option Addr}{sl30:Array (Option Value)}{oc30 kV30 dc30 pm30 cd30 ct30:Value}{f31:Addr}{od31 an31:Option Addr}{sl31:Array (Option Value)}{oc31 kV31 dc31 pm31 cd31 ct31:Value}{f32:Addr}{od32 an32:Option Addr}{sl32:Array (Option Value)}{oc32 kV32 dc32 pm32 cd32 ct32:Value}{f33:Addr}{od33 an33:Option Addr}{sl33:Array (Option Value)}{oc33 kV33 dc33 pm33 cd33 ct33:Value}{f34:Addr}{od34 an34:Option Addr}{sl34:Array (Option Value)}{oc34 kV34 dc34 pm34 cd34 ct34:Value}{f35:Addr}{od35 an35:Option Addr}{sl35:Array (Option Value)}{oc35 kV35 dc35 pm35 cd35 ct35:Value}{f36:Addr}{od36 an36:Option Addr}{sl36:Array (Option Value)}{oc36 kV36 dc36 pm36 cd36 ct36:Value}{f37:Addr}{od37 an37:Option Addr}{sl37:Array (Option Value)}{oc37 kV37 dc37 pm37 cd37 ct37:Value}{f38:Addr}{od38 an38:Option Addr}{sl38:Array (Option Value)}{oc38 kV38 dc38 pm38 cd38 ct38:Value}{f39:Addr}{od39 an39:Option Addr}{sl39:Array (Option Value)}{oc39 kV39 dc39 pm39 cd39 ct39:Value}{T39:Addr}{oT39:Value}{dT39:Option Addr}{nT39:Nat}{sT39:Array (Option Value)}{f40:Addr}{od40 an40:Option Addr}{sl40:Array (Option Value)}{oc40 kV40 dc40 pm40 cd40 ct40:Value}{f41:Addr}{od41 an41:Option Addr}{sl41:Array (Option Value)}{oc41 kV41 dc41 pm41 cd41 ct41:Value}{f42:Addr}{od42 an42:Option Addr}{sl42:Array (Option Value)}{oc42 kV42 dc42 pm42 cd42 ct42:Value}{f43:Addr}{od43 an43:Option Addr}{sl43:Array (Option Value)}{oc43 kV43 dc43 pm43 cd43 ct43:Value}{f44:Addr}{od44 an44:Option Addr}{sl44:Array (Option Value)}{oc44 kV44 dc44 pm44 cd44 ct44:Value}{f45:Addr}{od45 an45:Option Addr}{sl45:Array (Option Value)}{oc45 kV45 dc45 pm45 cd45 ct45:Value}{f46:Addr}{od46 an46:Option Addr}{sl46:Array (Option Value)}{oc46 kV46 dc46 pm46 cd46 ct46:Value}{f47:Addr}{od47 an47:Option Addr}{sl47:Array (Option Value)}{oc47 kV47 dc47 pm47 cd47 ct47:Value}{f48:Addr}{od48 an48:Option Addr}{sl48:Array (Option Value)}{oc48 kV48 dc48 pm48 cd48 ct48:Value}{f49:Addr}{od49 an49:Option Addr}{sl49:Array (Option Value)}{oc49 kV49 dc49 pm49 cd49 ct49:Value}{f50:Addr}{od50 an50:Option Addr}{sl50:Array (Option Value)}{oc50 kV50 dc50 pm50 cd50 ct50:Value}{f51:Addr}{od51 an51:Option Addr}{sl51:Array (Option Value)}{oc51 kV51 dc51 pm51 cd51 ct51:Value}{f52:Addr}{od52 an52:Option Addr}{sl52:Array (Option Value)}{oc52 kV52 dc52 pm52 cd52 ct52:Value}{f53:Addr}{od53 an53:Option Addr}{sl53:Array (Option Value)}{oc53 kV53 dc53 pm53 cd53 ct53:Value}{f54:Addr}{od54 an54:Option Addr}{sl54:Array (Option Value)}{oc54 kV54 dc54 pm54 cd54 ct54:Value}{f55:Addr}{od55 an55:Option Addr}{sl55:Array (Option Value)}{oc55 kV55 dc55 pm55 cd55 ct55:Value}{f56:Addr}{od56 an56:Option Addr}{sl56:Array (Option Value)}{oc56 kV56 dc56 pm56 cd56 ct56:Value}{f57:Addr}{od57 an57:Option Addr}{sl57:Array (Option Value)}{oc57 kV57 dc57 pm57 cd57 ct57:Value}{f58:Addr}{od58 an58:Option Addr}{sl58:Array (Option Value)}{oc58 kV58 dc58 pm58 cd58 ct58:Value}{f59:Addr}{od59 an59:Option Addr}{sl59:Array (Option Value)}{oc59 kV59 dc59 pm59 cd59 ct59:Value}{f60:Addr}{od60 an60:Option Addr}{sl60:Array (Option Value)}{oc60 kV60 dc60 pm60 cd60 ct60:Value}{f61:Addr}{od61 an61:Option Addr}{sl61:Array (Option Value)}{oc61 kV61 dc61 pm61 cd61 ct61:Value}{f62:Addr}{od62 an62:Option Addr}{sl62:Array (Option Value)}{oc62 kV62 dc62 pm62 cd62 ct62:Value}{f63:Addr}{od63 an63:Option Addr}{sl63:Array (Option Value)}{oc63 kV63 dc63 pm63 cd63 ct63:Value}{f64:Addr}{od64 an64:Option Addr}{sl64:Array (Option Value)}{oc64 kV64 dc64 pm64 cd64 ct64:Value}{f65:Addr}{od65 an65:Option Addr}{sl65:Array (Option Value)}{oc65 kV65 dc65 pm65 cd65 ct65:Value}{f66:Addr}{od66 an66:Option Addr}{sl66:Array (Option Value)}{oc66 kV66 dc66 pm66 cd66 ct66:Value}{f67:Addr}{od67 an67:Option Addr}{sl67:Array (Option Value)}{oc67 kV67 dc67 pm67 cd67 ct67:Value}{f68:Addr}{od68 an68:Option Addr}{sl68:Array (Option Value)}{oc68 kV68 dc68 pm68 cd68 ct68:Value}{f69:Addr}{od69 an69:Option Addr}{sl69:Array (Option Value)}{oc69 kV69 dc69 pm69 cd69 ct69:Value}{f70:Addr}{od70 an70:Option Addr}{sl70:Array (Option Value)}{oc70 kV70 dc70 pm70 cd70 ct70:Value}{f71:Addr}{od71 an71:Option Addr}{sl71:Array (Option Value)}{oc71 kV71 dc71 pm71 cd71 ct71:Value}{f72:Addr}{od72 an72:Option Addr}{sl72:Array (Option Value)}{oc72 kV72 dc72 pm72 cd72 ct72:Value}{f73:Addr}{od73 an73:Option Addr}{sl73:Array (Option Value)}{oc73 kV73 dc73 pm73 cd73 ct73:Value}{f74:Addr}{od74 an74:Option Addr}{sl74:Array (Option Value)}{oc74 kV74 dc74 pm74 cd74 ct74:Value}{f75:Addr}{od75 an75:Option Addr}{sl75:Array (Option Value)}{oc75 kV75 dc75 pm75 cd75 ct75:Value}{f76:Addr}{od76 an76:Option Addr}{sl76:Array (Option Value)}{oc76 kV76 dc76 pm76 cd76 ct76:Value}{f77:Addr}{od77 an77:Option Addr}{sl77:Array (Option Value)}{oc77 kV77 dc77 pm77 cd77 ct77:Value}{f78:Addr}{od78 an78:Option Addr}{sl78:Array (Option Value)}{oc78 kV78 dc78 pm78 cd78 ct78:Value}{f79:Addr}{od79 an79:Option Addr}{sl79:Array (Option Value)}{oc79 kV79 dc79 pm79 cd79 ct79:Value}{f80:Addr}{od80 an80:Option Addr}{sl80:Array (Option Value)}{oc80 kV80 dc80 pm80 cd80 ct80:Value}{f81:Addr}{od81 an81:Option Addr}{sl81:Array (Option Value)}{oc81 kV81 dc81 pm81 cd81 ct81:Value}{f82:Addr}{od82 an82:Option Addr}{sl82:Array (Option Value)}{oc82 kV82 dc82 pm82 cd82 ct82:Value}{aO:Addr}{dO:Option Addr}{nO:Nat}{sO:Array (Option Value)}{t2 t3:Tok}{aN:Addr}{dN:Option Addr}{nN:Nat}{sN:Array (Option Value)}{t0 t1:Tok}{aJ:Addr}{dJ:Option Addr}{nJ:Nat}{sJ:Array (Option Value)}{tj0 tj1:Tok}{tM:Tok}{tR:Tok}(y_Row:W.nsIn K mainGlobals "Row"=some (some (.ref c_Row)))(y_Piece:W.nsIn K mainGlobals "Piece"=some (some (.ref c_Piece)))(y_Push:W.nsIn K mainGlobals "Push"=some (some (.ref c_Push)))(y_Hold:W.nsIn K mainGlobals "Hold"=some (some (.ref c_Hold)))(y_Net:W.nsIn K mainGlobals "Net"=some (some (.ref c_Net)))(y_Answer:W.nsIn K mainGlobals "Answer"=some (some (.ref c_Answer)))(y_Watch:W.nsIn K mainGlobals "Watch"=some (some (.ref c_Watch)))(a1:W.nsIn K mainGlobals "is_whole"=some (some (.ref f1)))(l1:K.lookup f1=some ⟨oc1,od1,.func (W.fnOf "is_whole" "is_whole" (aR pO) (aM pO) (aD pO) .none kV1 dc1 pm1 an1 cd1 ct1),sl1⟩)(c1:W.codeIn K cd1 "is_whole"=true)(k1:kI9 K f1)(a2:W.nsIn K mainGlobals "greatest_common"=some (some (.ref f2)))(l2:K.lookup f2=some ⟨oc2,od2,.func (W.fnOf "greatest_common" "greatest_common" (aR sGc) (aM sGc) (aD sGc) .none kV2 dc2 pm2 an2 cd2 ct2),sl2⟩)(c2:W.codeIn K cd2 "greatest_common"=true)(k2:kI9 K f2)(a3:W.nsIn K mainGlobals "under"=some (some (.ref f3)))(l3:K.lookup f3=some ⟨oc3,od3,.func (W.fnOf "under" "under" (aR pY) (aM pY) (aD pY) .none kV3 dc3 pm3 an3 cd3 ct3),sl3⟩)(c3:W.codeIn K cd3 "under"=true)(k3:kI9 K f3)(a4:W.nsIn K mainGlobals "fraction"=some (some (.ref f4)))(l4:K.lookup f4=some ⟨oc4,od4,.func (W.fnOf "fraction" "fraction" (aR kJ) (aM kJ) (aD kJ) (.ref T4) kV4 dc4 pm4 an4 cd4 ct4),sl4⟩)(c4:W.codeIn K cd4 "fraction"=true)(k4:kI9 K f4)(lt4:K.lookup T4=some ⟨oT4,dT4,.seq #[.int 1 tk4] nT4,sT4⟩)(a5:W.nsIn K mainGlobals "minus"=some (some (.ref f5)))(l5:K.lookup f5=some ⟨oc5,od5,.func (W.fnOf "minus" "minus" (aR qM) (aM qM) (aD qM) .none kV5 dc5 pm5 an5 cd5 ct5),sl5⟩)(c5:W.codeIn K cd5 "minus"=true)(k5:kI9 K f5)(a6:W.nsIn K mainGlobals "plus"=some (some (.ref f6)))(l6:K.lookup f6=some ⟨oc6,od6,.func (W.fnOf "plus" "plus" (aR yL) (aM yL) (aD yL) .none kV6 dc6 pm6 an6 cd6 ct6),sl6⟩)(c6:W.codeIn K cd6 "plus"=true)(k6:kI9 K f6)(a7:W.nsIn K mainGlobals "over"=some (some (.ref f7)))(l7:K.lookup f7=some ⟨oc7,od7,.func (W.fnOf "over" "over" (aR yS) (aM yS) (aD yS) .none kV7 dc7 pm7 an7 cd7 ct7),sl7⟩)(c7:W.codeIn K cd7 "over"=true)(k7:kI9 K f7)(a8:W.nsIn K mainGlobals "times"=some (some (.ref f8)))(l8:K.lookup f8=some ⟨oc8,od8,.func (W.fnOf "times" "times" (aR rA) (aM rA) (aD rA) .none kV8 dc8 pm8 an8 cd8 ct8),sl8⟩)(c8:W.codeIn K cd8 "times"=true)(k8:kI9 K f8)(a9:W.nsIn K mainGlobals "is_fraction"=some (some (.ref f9)))(l9:K.lookup f9=some ⟨oc9,od9,.func (W.fnOf "is_fraction" "is_fraction" (aR Jk) (aM Jk) (aD Jk) .none kV9 dc9 pm9 an9 cd9 ct9),sl9⟩)(c9:W.codeIn K cd9 "is_fraction"=true)(k9:kI9 K f9)(a10_0:W.findIn K (.ref c_Piece) "__init__"=some (some (.ref f10)))(a10_1:W.findIn K (.ref c_Push) "__init__"=some (some (.ref f10)))(a10_2:W.findIn K (.ref c_Hold) "__init__"=some (some (.ref f10)))(i10:W.isFn K (.ref f10)=true)(l10:K.lookup f10=some ⟨oc10,od10,.func (W.fnOf "__init__" "Row.__init__" (aR qV) (aM qV) (aD qV) .none kV10 dc10 pm10 an10 cd10 ct10),sl10⟩)(c10:W.codeIn K cd10 "Row.__init__"=true)(k10:kI9 K f10)(a11_0:W.findIn K (.ref c_Piece) "word"=some (some (.ref f11)))(i11:W.isFn K (.ref f11)=true)(l11:K.lookup f11=some ⟨oc11,od11,.func (W.fnOf "word" "Piece.word" (aR jS) (aM jS) (aD jS) .none kV11 dc11 pm11 an11 cd11 ct11),sl11⟩)(c11:W.codeIn K cd11 "Piece.word"=true)(k11:kI9 K f11)(a12_0:W.findIn K (.ref c_Push) "word"=some (some (.ref f12)))(i12:W.isFn K (.ref f12)=true)(l12:K.lookup f12=some ⟨oc12,od12,.func (W.fnOf "word" "Push.word" (aR jL) (aM jL) (aD jL) .none kV12 dc12 pm12 an12 cd12 ct12),sl12⟩)(c12:W.codeIn K cd12 "Push.word"=true)(k12:kI9 K f12)(a13_0:W.findIn K (.ref c_Hold) "word"=some (some (.ref f13)))(i13:W.isFn K (.ref f13)=true)(l13:K.lookup f13=some ⟨oc13,od13,.func (W.fnOf "word" "Hold.word" (aR jT) (aM jT) (aD jT) .none kV13 dc13 pm13 an13 cd13 ct13),sl13⟩)(c13:W.codeIn K cd13 "Hold.word"=true)(k13:kI9 K f13)(a14_0:W.findIn K (.ref c_Piece) "joins"=some (some (.ref f14)))(i14:W.isFn K (.ref f14)=true)(l14:K.lookup f14=some ⟨oc14,od14,.func (W.fnOf "joins" "Piece.joins" (aR iP) (aM iP) (aD iP) .none kV14 dc14 pm14 an14 cd14 ct14),sl14⟩)(c14:W.codeIn K cd14 "Piece.joins"=true)(k14:kI9 K f14)(a15_0:W.findIn K (.ref c_Push) "joins"=some (some (.ref f15)))(i15:W.isFn K (.ref f15)=true)(l15:K.lookup f15=some ⟨oc15,od15,.func (W.fnOf "joins" "Push.joins" (aR iO) (aM iO) (aD iO) .none kV15 dc15 pm15 an15 cd15 ct15),sl15⟩)(c15:W.codeIn K cd15 "Push.joins"=true)(k15:kI9 K f15)(a16_0:W.findIn K (.ref c_Hold) "joins"=some (some (.ref f16)))(i16:W.isFn K (.ref f16)=true)(l16:K.lookup f16=some ⟨oc16,od16,.func (W.fnOf "joins" "Hold.joins" (aR iR) (aM iR) (aD iR) .none kV16 dc16 pm16 an16 cd16 ct16),sl16⟩)(c16:W.codeIn K cd16 "Hold.joins"=true)(k16:kI9 K f16)(a17_0:W.findIn K (.ref c_Piece) "told"=some (some (.ref f17)))(a17_1:W.findIn K (.ref c_Push) "told"=some (some (.ref f17)))(a17_2:W.findIn K (.ref c_Hold) "told"=some (some (.ref f17)))(i17:W.isFn K (.ref f17)=true)(l17:K.lookup f17=some ⟨oc17,od17,.func (W.fnOf "told" "Row.told" (aR pP) (aM pP) (aD pP) .none kV17 dc17 pm17 an17 cd17 ct17),sl17⟩)(c17:W.codeIn K cd17 "Row.told"=true)(k17:kI9 K f17)(a18:W.nsIn K mainGlobals "row_of"=some (some (.ref f18)))(l18:K.lookup f18=some ⟨oc18,od18,.func (W.fnOf "row_of" "row_of" (aR pZ) (aM pZ) (aD pZ) .none kV18 dc18 pm18 an18 cd18 ct18),sl18⟩)(c18:W.codeIn K cd18 "row_of"=true)(k18:kI9 K f18)(a19_0:W.findIn K (.ref c_Piece) "stream"=some (some (.ref f19)))(i19:W.isFn K (.ref f19)=true)(l19:K.lookup f19=some ⟨oc19,od19,.func (W.fnOf "stream" "Piece.stream" (aR hJ) (aM hJ) (aD hJ) .none kV19 dc19 pm19 an19 cd19 ct19),sl19⟩)(c19:W.codeIn K cd19 "Piece.stream"=true)(k19:kI9 K f19)(a20_0:W.findIn K (.ref c_Push) "stream"=some (some (.ref f20)))(i20:W.isFn K (.ref f20)=true)(l20:K.lookup f20=some ⟨oc20,od20,.func (W.fnOf "stream" "Push.stream" (aR gU) (aM gU) (aD gU) .none kV20 dc20 pm20 an20 cd20 ct20),sl20⟩)(c20:W.codeIn K cd20 "Push.stream"=true)(k20:kI9 K f20)(a21_0:W.findIn K (.ref c_Hold) "stream"=some (some (.ref f21)))(i21:W.isFn K (.ref f21)=true)(l21:K.lookup f21=some ⟨oc21,od21,.func (W.fnOf "stream" "Hold.stream" (aR gV) (aM gV) (aD gV) .none kV21 dc21 pm21 an21 cd21 ct21),sl21⟩)(c21:W.codeIn K cd21 "Hold.stream"=true)(k21:kI9 K f21)(a22:W.nsIn K mainGlobals "is_piece_size"=some (some (.ref f22)))(l22:K.lookup f22=some ⟨oc22,od22,.func (W.fnOf "is_piece_size" "is_piece_size" (aR sPS) (aM sPS) (aD sPS) .none kV22 dc22 pm22 an22 cd22 ct22),sl22⟩)(c22:W.codeIn K cd22 "is_piece_size"=true)(k22:kI9 K f22)(a23:W.nsIn K mainGlobals "is_number_below"=some (some (.ref f23)))(l23:K.lookup f23=some ⟨oc23,od23,.func (W.fnOf "is_number_below" "is_number_below" (aR sNB) (aM sNB) (aD sNB) .none kV23 dc23 pm23 an23 cd23 ct23),sl23⟩)(c23:W.codeIn K cd23 "is_number_below"=true)(k23:kI9 K f23)(a24:W.nsIn K mainGlobals "refuse_size"=some (some (.ref f24)))(l24:K.lookup f24=some ⟨oc24,od24,.func (W.fnOf "refuse_size" "refuse_size" (aR sRS) (aM sRS) (aD sRS) .none kV24 dc24 pm24 an24 cd24 ct24),sl24⟩)(c24:W.codeIn K cd24 "refuse_size"=true)(k24:kI9 K f24)(a25:W.nsIn K mainGlobals "refuse_points"=some (some (.ref f25)))(l25:K.lookup f25=some ⟨oc25,od25,.func (W.fnOf "refuse_points" "refuse_points" (aR sRP) (aM sRP) (aD sRP) .none kV25 dc25 pm25 an25 cd25 ct25),sl25⟩)(c25:W.codeIn K cd25 "refuse_points"=true)(k25:kI9 K f25)(a26:W.nsIn K mainGlobals "refuse_number"=some (some (.ref f26)))(l26:K.lookup f26=some ⟨oc26,od26,.func (W.fnOf "refuse_number" "refuse_number" (aR sRN) (aM sRN) (aD sRN) .none kV26 dc26 pm26 an26 cd26 ct26),sl26⟩)(c26:W.codeIn K cd26 "refuse_number"=true)(k26:kI9 K f26)(a27_0:W.findIn K (.ref c_Net) "__init__"=some (some (.ref f27)))(i27:W.isFn K (.ref f27)=true)(l27:K.lookup f27=some ⟨oc27,od27,.func (W.fnOf "__init__" "Net.__init__" (aR qJ) (aM qJ) (aD qJ) .none kV27 dc27 pm27 an27 cd27 ct27),sl27⟩)(c27:W.codeIn K cd27 "Net.__init__"=true)(k27:kI9 K f27)(a28_0:W.findIn K (.ref c_Net) "many"=some (some (.ref f28)))(i28:W.isFn K (.ref f28)=true)(l28:K.lookup f28=some ⟨oc28,od28,.func (W.fnOf "many" "Net.many" (aR yZ) (aM yZ) (aD yZ) .none kV28 dc28 pm28 an28 cd28 ct28),sl28⟩)(c28:W.codeIn K cd28 "Net.many"=true)(k28:kI9 K f28)(a29_0:W.findIn K (.ref c_Net) "told"=some (some (.ref f29)))(i29:W.isFn K (.ref f29)=true)(l29:K.lookup f29=some ⟨oc29,od29,.func (W.fnOf "told" "Net.told" (aR qT) (aM qT) (aD qT) .none kV29 dc29 pm29 an29 cd29 ct29),sl29⟩)(c29:W.codeIn K cd29 "Net.told"=true)(k29:kI9 K f29)(a30_0:W.findIn K (.ref c_Net) "add"=some (some (.ref f30)))(i30:W.isFn K (.ref f30)=true)(l30:K.lookup f30=some ⟨oc30,od30,.func (W.fnOf "add" "Net.add" (aR Kp) (aM Kp) (aD Kp) .none kV30 dc30 pm30 an30 cd30 ct30),sl30⟩)(c30:W.codeIn K cd30 "Net.add"=true)(k30:kI9 K f30)(a31_0:W.findIn K (.ref c_Net) "change"=some (some (.ref f31)))(i31:W.isFn K (.ref f31)=true)(l31:K.lookup f31=some ⟨oc31,od31,.func (W.fnOf "change" "Net.change" (aR lW) (aM lW) (aD lW) .none kV31 dc31 pm31 an31 cd31 ct31),sl31⟩)(c31:W.codeIn K cd31 "Net.change"=true)(k31:kI9 K f31)(a32_0:W.findIn K (.ref c_Net) "rows"=some (some (.ref f32)))(i32:W.isFn K (.ref f32)=true)(l32:K.lookup f32=some ⟨oc32,od32,.func (W.fnOf "rows" "Net.rows" (aR xT) (aM xT) (aD xT) .none kV32 dc32 pm32 an32 cd32 ct32),sl32⟩)(c32:W.codeIn K cd32 "Net.rows"=true)(k32:kI9 K f32)(a33:W.nsIn K mainGlobals "fall_of"=some (some (.ref f33)))(l33:K.lookup f33=some ⟨oc33,od33,.func (W.fnOf "fall_of" "fall_of" (aR yD) (aM yD) (aD yD) .none kV33 dc33 pm33 an33 cd33 ct33),sl33⟩)(c33:W.codeIn K cd33 "fall_of"=true)(k33:kI9 K f33)(a34:W.nsIn K mainGlobals "joined"=some (some (.ref f34)))(l34:K.lookup f34=some ⟨oc34,od34,.func (W.fnOf "joined" "joined" (aR lZ) (aM lZ) (aD lZ) .none kV34 dc34 pm34 an34 cd34 ct34),sl34⟩)(c34:W.codeIn K cd34 "joined"=true)(k34:kI9 K f34)(a35:W.nsIn K mainGlobals "marks_of"=some (some (.ref f35)))(l35:K.lookup f35=some ⟨oc35,od35,.func (W.fnOf "marks_of" "marks_of" (aR qO) (aM qO) (aD qO) .none kV35 dc35 pm35 an35 cd35 ct35),sl35⟩)(c35:W.codeIn K cd35 "marks_of"=true)(k35:kI9 K f35)(a36:W.nsIn K mainGlobals "floating"=some (some (.ref f36)))(l36:K.lookup f36=some ⟨oc36,od36,.func (W.fnOf "floating" "floating" (aR pW) (aM pW) (aD pW) .none kV36 dc36 pm36 an36 cd36 ct36),sl36⟩)(c36:W.codeIn K cd36 "floating"=true)(k36:kI9 K f36)(a37:W.nsIn K mainGlobals "steps_from"=some (some (.ref f37)))(l37:K.lookup f37=some ⟨oc37,od37,.func (W.fnOf "steps_from" "steps_from" (aR pS) (aM pS) (aD pS) .none kV37 dc37 pm37 an37 cd37 ct37),sl37⟩)(c37:W.codeIn K cd37 "steps_from"=true)(k37:kI9 K f37)(a38:W.nsIn K mainGlobals "way_along"=some (some (.ref f38)))(l38:K.lookup f38=some ⟨oc38,od38,.func (W.fnOf "way_along" "way_along" (aR Jc) (aM Jc) (aD Jc) .none kV38 dc38 pm38 an38 cd38 ct38),sl38⟩)(c38:W.codeIn K cd38 "way_along"=true)(k38:kI9 K f38)(a39:W.nsIn K mainGlobals "rings"=some (some (.ref f39)))(l39:K.lookup f39=some ⟨oc39,od39,.func (W.fnOf "rings" "rings" (aR iI) (aM iI) (aD iI) (.ref T39) kV39 dc39 pm39 an39 cd39 ct39),sl39⟩)(c39:W.codeIn K cd39 "rings"=true)(k39:kI9 K f39)(lt39:K.lookup T39=some ⟨oT39,dT39,.seq #[.none] nT39,sT39⟩)(a40:W.nsIn K mainGlobals "raise_at"=some (some (.ref f40)))(l40:K.lookup f40=some ⟨oc40,od40,.func (W.fnOf "raise_at" "raise_at" (aR qW) (aM qW) (aD qW) .none kV40 dc40 pm40 an40 cd40 ct40),sl40⟩)(c40:W.codeIn K cd40 "raise_at"=true)(k40:kI9 K f40)(a41:W.nsIn K mainGlobals "enter_stream"=some (some (.ref f41)))(l41:K.lookup f41=some ⟨oc41,od41,.func (W.fnOf "enter_stream" "enter_stream" (aR rB) (aM rB) (aD rB) .none kV41 dc41 pm41 an41 cd41 ct41),sl41⟩)(c41:W.codeIn K cd41 "enter_stream"=true)(k41:kI9 K f41)(a42:W.nsIn K mainGlobals "enter_piece"=some (some (.ref f42)))(l42:K.lookup f42=some ⟨oc42,od42,.func (W.fnOf "enter_piece" "enter_piece" (aR mF) (aM mF) (aD mF) .none kV42 dc42 pm42 an42 cd42 ct42),sl42⟩)(c42:W.codeIn K cd42 "enter_piece"=true)(k42:kI9 K f42)(a43:W.nsIn K mainGlobals "enter_push"=some (some (.ref f43)))(l43:K.lookup f43=some ⟨oc43,od43,.func (W.fnOf "enter_push" "enter_push" (aR mG) (aM mG) (aD mG) .none kV43 dc43 pm43 an43 cd43 ct43),sl43⟩)(c43:W.codeIn K cd43 "enter_push"=true)(k43:kI9 K f43)(a44:W.nsIn K mainGlobals "enter_hold"=some (some (.ref f44)))(l44:K.lookup f44=some ⟨oc44,od44,.func (W.fnOf "enter_hold" "enter_hold" (aR mH) (aM mH) (aD mH) .none kV44 dc44 pm44 an44 cd44 ct44),sl44⟩)(c44:W.codeIn K cd44 "enter_hold"=true)(k44:kI9 K f44)(a45:W.nsIn K mainGlobals "equations"=some (some (.ref f45)))(l45:K.lookup f45=some ⟨oc45,od45,.func (W.fnOf "equations" "equations" (aR Jd) (aM Jd) (aD Jd) .none kV45 dc45 pm45 an45 cd45 ct45),sl45⟩)(c45:W.codeIn K cd45 "equations"=true)(k45:kI9 K f45)(a46:W.nsIn K mainGlobals "in_wholes"=some (some (.ref f46)))(l46:K.lookup f46=some ⟨oc46,od46,.func (W.fnOf "in_wholes" "in_wholes" (aR sIW) (aM sIW) (aD sIW) .none kV46 dc46 pm46 an46 cd46 ct46),sl46⟩)(c46:W.codeIn K cd46 "in_wholes"=true)(k46:kI9 K f46)(a47:W.nsIn K mainGlobals "pivot_place"=some (some (.ref f47)))(l47:K.lookup f47=some ⟨oc47,od47,.func (W.fnOf "pivot_place" "pivot_place" (aR Jw) (aM Jw) (aD Jw) .none kV47 dc47 pm47 an47 cd47 ct47),sl47⟩)(c47:W.codeIn K cd47 "pivot_place"=true)(k47:kI9 K f47)(a48:W.nsIn K mainGlobals "cleared"=some (some (.ref f48)))(l48:K.lookup f48=some ⟨oc48,od48,.func (W.fnOf "cleared" "cleared" (aR Kv) (aM Kv) (aD Kv) .none kV48 dc48 pm48 an48 cd48 ct48),sl48⟩)(c48:W.codeIn K cd48 "cleared"=true)(k48:kI9 K f48)(a49:W.nsIn K mainGlobals "cleared_rows"=some (some (.ref f49)))(l49:K.lookup f49=some ⟨oc49,od49,.func (W.fnOf "cleared_rows" "cleared_rows" (aR jP) (aM jP) (aD jP) .none kV49 dc49 pm49 an49 cd49 ct49),sl49⟩)(c49:W.codeIn K cd49 "cleared_rows"=true)(k49:kI9 K f49)(a50:W.nsIn K mainGlobals "eliminated"=some (some (.ref f50)))(l50:K.lookup f50=some ⟨oc50,od50,.func (W.fnOf "eliminated" "eliminated" (aR yB) (aM yB) (aD yB) .none kV50 dc50 pm50 an50 cd50 ct50),sl50⟩)(c50:W.codeIn K cd50 "eliminated"=true)(k50:kI9 K f50)(a51:W.nsIn K mainGlobals "solved"=some (some (.ref f51)))(l51:K.lookup f51=some ⟨oc51,od51,.func (W.fnOf "solved" "solved" (aR mQ) (aM mQ) (aD mQ) .none kV51 dc51 pm51 an51 cd51 ct51),sl51⟩)(c51:W.codeIn K cd51 "solved"=true)(k51:kI9 K f51)(a52:W.nsIn K mainGlobals "refuse_unanswered"=some (some (.ref f52)))(l52:K.lookup f52=some ⟨oc52,od52,.func (W.fnOf "refuse_unanswered" "refuse_unanswered" (aR Le) (aM Le) (aD Le) .none kV52 dc52 pm52 an52 cd52 ct52),sl52⟩)(c52:W.codeIn K cd52 "refuse_unanswered"=true)(k52:kI9 K f52)(a53:W.nsIn K mainGlobals "flows_of"=some (some (.ref f53)))(l53:K.lookup f53=some ⟨oc53,od53,.func (W.fnOf "flows_of" "flows_of" (aR qY) (aM qY) (aD qY) .none kV53 dc53 pm53 an53 cd53 ct53),sl53⟩)(c53:W.codeIn K cd53 "flows_of"=true)(k53:kI9 K f53)(a54_0:W.findIn K (.ref c_Answer) "__init__"=some (some (.ref f54)))(i54:W.isFn K (.ref f54)=true)(l54:K.lookup f54=some ⟨oc54,od54,.func (W.fnOf "__init__" "Answer.__init__" (aR qI) (aM qI) (aD qI) .none kV54 dc54 pm54 an54 cd54 ct54),sl54⟩)(c54:W.codeIn K cd54 "Answer.__init__"=true)(k54:kI9 K f54)(a55_0:W.findIn K (.ref c_Answer) "heights"=some (some (.ref f55)))(i55:W.isFn K (.ref f55)=true)(l55:K.lookup f55=some ⟨oc55,od55,.func (W.fnOf "heights" "Answer.heights" (aR yX) (aM yX) (aD yX) .none kV55 dc55 pm55 an55 cd55 ct55),sl55⟩)(c55:W.codeIn K cd55 "Answer.heights"=true)(k55:kI9 K f55)(a56_0:W.findIn K (.ref c_Answer) "streams"=some (some (.ref f56)))(i56:W.isFn K (.ref f56)=true)(l56:K.lookup f56=some ⟨oc56,od56,.func (W.fnOf "streams" "Answer.streams" (aR wS) (aM wS) (aD wS) .none kV56 dc56 pm56 an56 cd56 ct56),sl56⟩)(c56:W.codeIn K cd56 "Answer.streams"=true)(k56:kI9 K f56)(a57_0:W.findIn K (.ref c_Net) "copy"=some (some (.ref f57)))(i57:W.isFn K (.ref f57)=true)(l57:K.lookup f57=some ⟨oc57,od57,.func (W.fnOf "copy" "Net.copy" (aR xW) (aM xW) (aD xW) .none kV57 dc57 pm57 an57 cd57 ct57),sl57⟩)(c57:W.codeIn K cd57 "Net.copy"=true)(k57:kI9 K f57)(a58_0:W.findIn K (.ref c_Net) "count"=some (some (.ref f58)))(i58:W.isFn K (.ref f58)=true)(l58:K.lookup f58=some ⟨oc58,od58,.func (W.fnOf "count" "Net.count" (aR rD) (aM rD) (aD rD) .none kV58 dc58 pm58 an58 cd58 ct58),sl58⟩)(c58:W.codeIn K cd58 "Net.count"=true)(k58:kI9 K f58)(a59:W.nsIn K mainGlobals "heights_by"=some (some (.ref f59)))(l59:K.lookup f59=some ⟨oc59,od59,.func (W.fnOf "heights_by" "heights_by" (aR Ke) (aM Ke) (aD Ke) .none kV59 dc59 pm59 an59 cd59 ct59),sl59⟩)(c59:W.codeIn K cd59 "heights_by"=true)(k59:kI9 K f59)(a60:W.nsIn K mainGlobals "pushed_heights"=some (some (.ref f60)))(l60:K.lookup f60=some ⟨oc60,od60,.func (W.fnOf "pushed_heights" "pushed_heights" (aR Kt) (aM Kt) (aD Kt) .none kV60 dc60 pm60 an60 cd60 ct60),sl60⟩)(c60:W.codeIn K cd60 "pushed_heights"=true)(k60:kI9 K f60)(a61:W.nsIn K mainGlobals "held_heights"=some (some (.ref f61)))(l61:K.lookup f61=some ⟨oc61,od61,.func (W.fnOf "held_heights" "held_heights" (aR Kk) (aM Kk) (aD Kk) .none kV61 dc61 pm61 an61 cd61 ct61),sl61⟩)(c61:W.codeIn K cd61 "held_heights"=true)(k61:kI9 K f61)(a62:W.nsIn K mainGlobals "shape_of"=some (some (.ref f62)))(l62:K.lookup f62=some ⟨oc62,od62,.func (W.fnOf "shape_of" "shape_of" (aR qR) (aM qR) (aD qR) .none kV62 dc62 pm62 an62 cd62 ct62),sl62⟩)(c62:W.codeIn K cd62 "shape_of"=true)(k62:kI9 K f62)(a63:W.nsIn K mainGlobals "factor_of"=some (some (.ref f63)))(l63:K.lookup f63=some ⟨oc63,od63,.func (W.fnOf "factor_of" "factor_of" (aR Lh) (aM Lh) (aD Lh) .none kV63 dc63 pm63 an63 cd63 ct63),sl63⟩)(c63:W.codeIn K cd63 "factor_of"=true)(k63:kI9 K f63)(a64_0:W.findIn K (.ref c_Watch) "__init__"=some (some (.ref f64)))(i64:W.isFn K (.ref f64)=true)(l64:K.lookup f64=some ⟨oc64,od64,.func (W.fnOf "__init__" "Watch.__init__" (aR xH) (aM xH) (aD xH) .none kV64 dc64 pm64 an64 cd64 ct64),sl64⟩)(c64:W.codeIn K cd64 "Watch.__init__"=true)(k64:kI9 K f64)(a65_0:W.findIn K (.ref c_Watch) "change"=some (some (.ref f65)))(i65:W.isFn K (.ref f65)=true)(l65:K.lookup f65=some ⟨oc65,od65,.func (W.fnOf "change" "Watch.change" (aR yN) (aM yN) (aD yN) .none kV65 dc65 pm65 an65 cd65 ct65),sl65⟩)(c65:W.codeIn K cd65 "Watch.change"=true)(k65:kI9 K f65)(a66_0:W.findIn K (.ref c_Watch) "heights"=some (some (.ref f66)))(i66:W.isFn K (.ref f66)=true)(l66:K.lookup f66=some ⟨oc66,od66,.func (W.fnOf "heights" "Watch.heights" (aR xU) (aM xU) (aD xU) .none kV66 dc66 pm66 an66 cd66 ct66),sl66⟩)(c66:W.codeIn K cd66 "Watch.heights"=true)(k66:kI9 K f66)(a67_0:W.findIn K (.ref c_Watch) "streams"=some (some (.ref f67)))(i67:W.isFn K (.ref f67)=true)(l67:K.lookup f67=some ⟨oc67,od67,.func (W.fnOf "streams" "Watch.streams" (aR wO) (aM wO) (aD wO) .none kV67 dc67 pm67 an67 cd67 ct67),sl67⟩)(c67:W.codeIn K cd67 "Watch.streams"=true)(k67:kI9 K f67)(a68_0:W.findIn K (.ref c_Watch) "net"=some (some (.ref f68)))(i68:W.isFn K (.ref f68)=true)(l68:K.lookup f68=some ⟨oc68,od68,.func (W.fnOf "net" "Watch.net" (aR wY) (aM wY) (aD wY) .none kV68 dc68 pm68 an68 cd68 ct68),sl68⟩)(c68:W.codeIn K cd68 "Watch.net"=true)(k68:kI9 K f68)(a69:W.nsIn K mainGlobals "_law_draw"=some (some (.ref f69)))(l69:K.lookup f69=some ⟨oc69,od69,.func (W.fnOf "_law_draw" "_law_draw" (aR xY) (aM xY) (aD xY) .none kV69 dc69 pm69 an69 cd69 ct69),sl69⟩)(c69:W.codeIn K cd69 "_law_draw"=true)(k69:kI9 K f69)(a70:W.nsIn K mainGlobals "_law_mix"=some (some (.ref f70)))(l70:K.lookup f70=some ⟨oc70,od70,.func (W.fnOf "_law_mix" "_law_mix" (aR rN) (aM rN) (aD rN) .none kV70 dc70 pm70 an70 cd70 ct70),sl70⟩)(c70:W.codeIn K cd70 "_law_mix"=true)(k70:kI9 K f70)(a71:W.nsIn K mainGlobals "_law_far"=some (some (.ref f71)))(l71:K.lookup f71=some ⟨oc71,od71,.func (W.fnOf "_law_far" "_law_far" (aR Lf) (aM Lf) (aD Lf) .none kV71 dc71 pm71 an71 cd71 ct71),sl71⟩)(c71:W.codeIn K cd71 "_law_far"=true)(k71:kI9 K f71)(a72:W.nsIn K mainGlobals "_law_lowest"=some (some (.ref f72)))(l72:K.lookup f72=some ⟨oc72,od72,.func (W.fnOf "_law_lowest" "_law_lowest" (aR mO) (aM mO) (aD mO) .none kV72 dc72 pm72 an72 cd72 ct72),sl72⟩)(c72:W.codeIn K cd72 "_law_lowest"=true)(k72:kI9 K f72)(a73:W.nsIn K mainGlobals "_law_less"=some (some (.ref f73)))(l73:K.lookup f73=some ⟨oc73,od73,.func (W.fnOf "_law_less" "_law_less" (aR qZ) (aM qZ) (aD qZ) .none kV73 dc73 pm73 an73 cd73 ct73),sl73⟩)(c73:W.codeIn K cd73 "_law_less"=true)(k73:kI9 K f73)(a74:W.nsIn K mainGlobals "_law_told"=some (some (.ref f74)))(l74:K.lookup f74=some ⟨oc74,od74,.func (W.fnOf "_law_told" "_law_told" (aR wM) (aM wM) (aD wM) .none kV74 dc74 pm74 an74 cd74 ct74),sl74⟩)(c74:W.codeIn K cd74 "_law_told"=true)(k74:kI9 K f74)(a75:W.nsIn K mainGlobals "_law_size"=some (some (.ref f75)))(l75:K.lookup f75=some ⟨oc75,od75,.func (W.fnOf "_law_size" "_law_size" (aR yU) (aM yU) (aD yU) .none kV75 dc75 pm75 an75 cd75 ct75),sl75⟩)(c75:W.codeIn K cd75 "_law_size"=true)(k75:kI9 K f75)(a76:W.nsIn K mainGlobals "_law_net"=some (some (.ref f76)))(l76:K.lookup f76=some ⟨oc76,od76,.func (W.fnOf "_law_net" "_law_net" (aR pL) (aM pL) (aD pL) .none kV76 dc76 pm76 an76 cd76 ct76),sl76⟩)(c76:W.codeIn K cd76 "_law_net"=true)(k76:kI9 K f76)(a77:W.nsIn K mainGlobals "_law_put"=some (some (.ref f77)))(l77:K.lookup f77=some ⟨oc77,od77,.func (W.fnOf "_law_put" "_law_put" (aR Kc) (aM Kc) (aD Kc) .none kV77 dc77 pm77 an77 cd77 ct77),sl77⟩)(c77:W.codeIn K cd77 "_law_put"=true)(k77:kI9 K f77)(a78:W.nsIn K mainGlobals "_law_hanging"=some (some (.ref f78)))(l78:K.lookup f78=some ⟨oc78,od78,.func (W.fnOf "_law_hanging" "_law_hanging" (aR yR) (aM yR) (aD yR) .none kV78 dc78 pm78 an78 cd78 ct78),sl78⟩)(c78:W.codeIn K cd78 "_law_hanging"=true)(k78:kI9 K f78)(a79:W.nsIn K mainGlobals "_law_new_size"=some (some (.ref f79)))(l79:K.lookup f79=some ⟨oc79,od79,.func (W.fnOf "_law_new_size" "_law_new_size" (aR xJ) (aM xJ) (aD xJ) .none kV79 dc79 pm79 an79 cd79 ct79),sl79⟩)(c79:W.codeIn K cd79 "_law_new_size"=true)(k79:kI9 K f79)(a80:W.nsIn K mainGlobals "_law_told_by"=some (some (.ref f80)))(l80:K.lookup f80=some ⟨oc80,od80,.func (W.fnOf "_law_told_by" "_law_told_by" (aR Kx) (aM Kx) (aD Kx) .none kV80 dc80 pm80 an80 cd80 ct80),sl80⟩)(c80:W.codeIn K cd80 "_law_told_by"=true)(k80:kI9 K f80)(a81:W.nsIn K mainGlobals "_law_done"=some (some (.ref f81)))(l81:K.lookup f81=some ⟨oc81,od81,.func (W.fnOf "_law_done" "_law_done" (aR xL) (aM xL) (aD xL) .none kV81 dc81 pm81 an81 cd81 ct81),sl81⟩)(c81:W.codeIn K cd81 "_law_done"=true)(k81:kI9 K f81)(a82:W.nsIn K mainGlobals "law"=some (some (.ref f82)))(l82:K.lookup f82=some ⟨oc82,od82,.func (W.fnOf "law" "law" (aR zZ) (aM zZ) (aD zZ) .none kV82 dc82 pm82 an82 cd82 ct82),sl82⟩)(c82:W.codeIn K cd82 "law"=true)(k82:kI9 K f82)(v_ONE:W.nsIn K mainGlobals "ONE"=some (some (.ref aO)))(v_NOUGHT:W.nsIn K mainGlobals "NOUGHT"=some (some (.ref aN)))(v_JOINING_WORDS:W.nsIn K mainGlobals "JOINING_WORDS"=some (some (.ref aJ)))(v_MOST_POINTS:W.nsIn K mainGlobals "MOST_POINTS"=some (some (.int 20 tM)))(v_MOST_ROWS:W.nsIn K mainGlobals "MOST_ROWS"=some (some (.int 40 tR)))(lO:K.lookup aO=some ⟨.type "tuple",dO,.seq #[.int 1 t2,.int 1 t3] nO,sO⟩)(lN:K.lookup aN=some ⟨.type "tuple",dN,.seq #[.int 0 t0,.int 1 t1] nN,sN⟩)(lJ:K.lookup aJ=some ⟨.type "tuple",dJ,.seq #[.str "piece" tj0,.str "hold" tj1] nJ,sJ⟩)(pg_Piece:W.plainGet K c_Piece Str.empty=true)(hd_Piece:W.hasDictIn K c_Piece=true)(po_Piece:W.plainOver K c_Piece=true)(sa_Piece:W.findIn K (.ref c_Piece) "__setattr__"=some (some (.builtin "object.__setattr__")))(mk_Piece:W.makesIn K c_Piece=true)(kc_Piece:kI9 K c_Piece)(t1_Piece:W.findIn K (.ref c_Piece) "__class__"=some (some (.builtin "object.__class__")))(t4_Piece:W.mroIn K c_Piece (.type "object")=some true)(na_Piece_start:W.findIn K (.ref c_Piece) "start"=some none)(na_Piece_goal:W.findIn K (.ref c_Piece) "goal"=some none)(na_Piece_size:W.findIn K (.ref c_Piece) "size"=some none)(pg_Push:W.plainGet K c_Push Str.empty=true)(hd_Push:W.hasDictIn K c_Push=true)(po_Push:W.plainOver K c_Push=true)(sa_Push:W.findIn K (.ref c_Push) "__setattr__"=some (some (.builtin "object.__setattr__")))(mk_Push:W.makesIn K c_Push=true)(kc_Push:kI9 K c_Push)(t1_Push:W.findIn K (.ref c_Push) "__class__"=some (some (.builtin "object.__class__")))(t4_Push:W.mroIn K c_Push (.type "object")=some true)(na_Push_start:W.findIn K (.ref c_Push) "start"=some none)(na_Push_goal:W.findIn K (.ref c_Push) "goal"=some none)(na_Push_size:W.findIn K (.ref c_Push) "size"=some none)(pg_Hold:W.plainGet K c_Hold Str.empty=true)(hd_Hold:W.hasDictIn K c_Hold=true)(po_Hold:W.plainOver K c_Hold=true)(sa_Hold:W.findIn K (.ref c_Hold) "__setattr__"=some (some (.builtin "object.__setattr__")))(mk_Hold:W.makesIn K c_Hold=true)(kc_Hold:kI9 K c_Hold)(t1_Hold:W.findIn K (.ref c_Hold) "__class__"=some (some (.builtin "object.__class__")))(t4_Hold:W.mroIn K c_Hold (.type "object")=some true)(na_Hold_start:W.findIn K (.ref c_Hold) "start"=some none)(na_Hold_goal:W.findIn K (.ref c_Hold) "goal"=some none)(na_Hold_size:W.findIn K (.ref c_Hold) "size"=some none)(tt2:W.specialIn K (.builtin "object.__class__") "__get__"=some (some (.builtin "getset_descriptor.__get__")))(tt3:W.takesIn K (.builtin "object.__class__")=some true)(isR_Piece:W.kitOne K (.ref c_Piece) (.ref c_Row)=some true)(isR_Push:W.kitOne K (.ref c_Push) (.ref c_Row)=some true)(isR_Hold:W.kitOne K (.ref c_Hold) (.ref c_Row)=some true)(isK_Piece_Push:W.kitOne K (.ref c_Piece) (.ref c_Push)=some false)(isK_Piece_Hold:W.kitOne K (.ref c_Piece) (.ref c_Hold)=some false)(isK_Push_Piece:W.kitOne K (.ref c_Push) (.ref c_Piece)=some false)(isK_Push_Hold:W.kitOne K (.ref c_Push) (.ref c_Hold)=some false)(isK_Hold_Piece:W.kitOne K (.ref c_Hold) (.ref c_Piece)=some false)(isK_Hold_Push:W.kitOne K (.ref c_Hold) (.ref c_Push)=some false)(pg_Net:W.plainGet K c_Net Str.empty=true)(hd_Net:W.hasDictIn K c_Net=true)(po_Net:W.plainOver K c_Net=true)(sa_Net:W.findIn K (.ref c_Net) "__setattr__"=some (some (.builtin "object.__setattr__")))(mk_Net:W.makesIn K c_Net=true)(kc_Net:kI9 K c_Net)(t1_Net:W.findIn K (.ref c_Net) "__class__"=some (some (.builtin "object.__class__")))(t4_Net:W.mroIn K c_Net (.type "object")=some true)(na_Net_point_count:W.findIn K (.ref c_Net) "point_count"=some none)(na_Net_kept:W.findIn K (.ref c_Net) "kept"=some none)(pg_Answer:W.plainGet K c_Answer Str.empty=true)(hd_Answer:W.hasDictIn K c_Answer=true)(po_Answer:W.plainOver K c_Answer=true)(sa_Answer:W.findIn K (.ref c_Answer) "__setattr__"=some (some (.builtin "object.__setattr__")))(mk_Answer:W.makesIn K c_Answer=true)(kc_Answer:kI9 K c_Answer)(t1_Answer:W.findIn K (.ref c_Answer) "__class__"=some (some (.builtin "object.__class__")))(t4_Answer:W.mroIn K c_Answer (.type "object")=some true)(na_Answer_lines:W.findIn K (.ref c_Answer) "lines"=some none)(na_Answer_levels:W.findIn K (.ref c_Answer) "levels"=some none)(na_Answer_flows:W.findIn K (.ref c_Answer) "flows"=some none)(pg_Watch:W.plainGet K c_Watch Str.empty=true)(hd_Watch:W.hasDictIn K c_Watch=true)(po_Watch:W.plainOver K c_Watch=true)(sa_Watch:W.findIn K (.ref c_Watch) "__setattr__"=some (some (.builtin "object.__setattr__")))(mk_Watch:W.makesIn K c_Watch=true)(kc_Watch:kI9 K c_Watch)(t1_Watch:W.findIn K (.ref c_Watch) "__class__"=some (some (.builtin "object.__class__")))(t4_Watch:W.mroIn K c_Watch (.type "object")=some true)(na_Watch_current:W.findIn K (.ref c_Watch) "current"=some none)(na_Watch_followed:W.findIn K (.ref c_Watch) "followed"=some none)(z1:W.nsIn K mainGlobals "isinstance"=some none)(z2:W.nsIn K mainGlobals "int"=some none)(z3:W.nsIn K mainGlobals "bool"=some none)(z4:W.nsIn K mainGlobals "abs"=some none)(z5:W.nsIn K mainGlobals "len"=some none)(z6:W.nsIn K mainGlobals "range"=some none)(z7:W.nsIn K mainGlobals "str"=some none)(z8:W.nsIn K mainGlobals "tuple"=some none)(z9:W.nsIn K mainGlobals "list"=some none)(z10:W.nsIn K mainGlobals "all"=some none)(z11:W.nsIn K mainGlobals "zip"=some none)(z12:W.nsIn K mainGlobals "enumerate"=some none) :
  ∃fd:FuncData,(∀(s:Shared) (v:Value),BindsTo s fd ⟨[v],[]⟩ [("_law_script",v)])/\∀base:Heap,K.In base->base.Ns mainGlobals mg->aP l.prog w K mg base CX0 13 fa fd ["_law_script"] (Gx K):=by
 have e:=hfa.symm.trans (W.mg_of X G a82)
 cases e
 have mc_Row:=W.mg_of X G y_Row;have mc_Piece:=W.mg_of X G y_Piece;have mc_Push:=W.mg_of X G y_Push;have mc_Hold:=W.mg_of X G y_Hold;have mc_Net:=W.mg_of X G y_Net;have mc_Answer:=W.mg_of X G y_Answer;have mc_Watch:=W.mg_of X G y_Watch;have F1:=aU (st:=pO) l1 c1 k1;have m1:=W.mg_of X G a1;have b1:=F1.binds (ps:=["thing"]) fun _ _ _ _ _ _ us hl=>by obtain⟨_,rfl⟩:=cK hl;rfl
 have F2:=aU (st:=sGc) l2 c2 k2;have m2:=W.mg_of X G a2;have b2:=F2.binds (ps:=["one","other"]) fun _ _ _ _ _ _ us hl=>by obtain⟨_,_,rfl⟩:=cE hl;rfl
 have F3:=aU (st:=pY) l3 c3 k3;have m3:=W.mg_of X G a3;have b3:=F3.binds (ps:=["one","other"]) fun _ _ _ _ _ _ us hl=>by obtain⟨_,_,rfl⟩:=cE hl;rfl
 have F4:=aU (st:=kJ) l4 c4 k4;have m4:=W.mg_of X G a4;have b4:aQ K _ ["top","bottom"] []:=fun s us XX hl=>match us,hl with | [_,_],_=>W.binds_K (fd:=W.fnOf "fraction" "fraction" (aR kJ) (aM kJ) (aD kJ) (.ref T4) kV4 dc4 pm4 an4 cd4 ct4) XX rfl lt4 rfl rfl rfl
 have bd4:aQ K _ ["top","bottom"] [.int 1 tk4]:=fun s us XX hl=>match us,(show us.length=1 by simp at hl;lia) with | [_],_=>W.binds_K (fd:=W.fnOf "fraction" "fraction" (aR kJ) (aM kJ) (aD kJ) (.ref T4) kV4 dc4 pm4 an4 cd4 ct4) XX rfl lt4 rfl rfl rfl
 have F5:=aU (st:=qM) l5 c5 k5;have m5:=W.mg_of X G a5;have b5:=F5.binds (ps:=["one","other"]) fun _ _ _ _ _ _ us hl=>by obtain⟨_,_,rfl⟩:=cE hl;rfl
 have F6:=aU (st:=yL) l6 c6 k6;have m6:=W.mg_of X G a6;have b6:=F6.binds (ps:=["one","other"]) fun _ _ _ _ _ _ us hl=>by obtain⟨_,_,rfl⟩:=cE hl;rfl
 have F7:=aU (st:=yS) l7 c7 k7;have m7:=W.mg_of X G a7;have b7:=F7.binds (ps:=["one","other"]) fun _ _ _ _ _ _ us hl=>by obtain⟨_,_,rfl⟩:=cE hl;rfl
 have F8:=aU (st:=rA) l8 c8 k8;have m8:=W.mg_of X G a8;have b8:=F8.binds (ps:=["one","other"]) fun _ _ _ _ _ _ us hl=>by obtain⟨_,_,rfl⟩:=cE hl;rfl
 have F9:=aU (st:=Jk) l9 c9 k9;have m9:=W.mg_of X G a9;have b9:=F9.binds (ps:=["thing"]) fun _ _ _ _ _ _ us hl=>by obtain⟨_,rfl⟩:=cK hl;rfl
 have F10:=aU (st:=qV) l10 c10 k10;have b10:=F10.binds (ps:=["self","start","goal","size"]) fun _ _ _ _ _ _ us hl=>by obtain⟨_,_,_,_,rfl⟩:=iL hl;rfl
 have F11:=aU (st:=jS) l11 c11 k11;have b11:=F11.binds (ps:=["self"]) fun _ _ _ _ _ _ us hl=>by obtain⟨_,rfl⟩:=cK hl;rfl
 have F12:=aU (st:=jL) l12 c12 k12;have b12:=F12.binds (ps:=["self"]) fun _ _ _ _ _ _ us hl=>by obtain⟨_,rfl⟩:=cK hl;rfl
 have F13:=aU (st:=jT) l13 c13 k13;have b13:=F13.binds (ps:=["self"]) fun _ _ _ _ _ _ us hl=>by obtain⟨_,rfl⟩:=cK hl;rfl
 have F14:=aU (st:=iP) l14 c14 k14;have b14:=F14.binds (ps:=["self"]) fun _ _ _ _ _ _ us hl=>by obtain⟨_,rfl⟩:=cK hl;rfl
 have F15:=aU (st:=iO) l15 c15 k15;have b15:=F15.binds (ps:=["self"]) fun _ _ _ _ _ _ us hl=>by obtain⟨_,rfl⟩:=cK hl;rfl
 have F16:=aU (st:=iR) l16 c16 k16;have b16:=F16.binds (ps:=["self"]) fun _ _ _ _ _ _ us hl=>by obtain⟨_,rfl⟩:=cK hl;rfl
 have F17:=aU (st:=pP) l17 c17 k17;have b17:=F17.binds (ps:=["self"]) fun _ _ _ _ _ _ us hl=>by obtain⟨_,rfl⟩:=cK hl;rfl
 have F18:=aU (st:=pZ) l18 c18 k18;have m18:=W.mg_of X G a18;have b18:=F18.binds (ps:=["told"]) fun _ _ _ _ _ _ us hl=>by obtain⟨_,rfl⟩:=cK hl;rfl
 have F19:=aU (st:=hJ) l19 c19 k19;have b19:=F19.binds (ps:=["self","fall","held"]) fun _ _ _ _ _ _ us hl=>by obtain⟨_,_,_,rfl⟩:=fZ hl;rfl
 have F20:=aU (st:=gU) l20 c20 k20;have b20:=F20.binds (ps:=["self","fall","held"]) fun _ _ _ _ _ _ us hl=>by obtain⟨_,_,_,rfl⟩:=fZ hl;rfl
 have F21:=aU (st:=gV) l21 c21 k21;have b21:=F21.binds (ps:=["self","fall","held"]) fun _ _ _ _ _ _ us hl=>by obtain⟨_,_,_,rfl⟩:=fZ hl;rfl
 have F22:=aU (st:=sPS) l22 c22 k22;have m22:=W.mg_of X G a22;have b22:=F22.binds (ps:=["thing"]) fun _ _ _ _ _ _ us hl=>by obtain⟨_,rfl⟩:=cK hl;rfl
 have F23:=aU (st:=sNB) l23 c23 k23;have m23:=W.mg_of X G a23;have b23:=F23.binds (ps:=["thing","bound"]) fun _ _ _ _ _ _ us hl=>by obtain⟨_,_,rfl⟩:=cE hl;rfl
 have F24:=aU (st:=sRS) l24 c24 k24;have m24:=W.mg_of X G a24;have b24:=F24.binds (ps:=["word","size"]) fun _ _ _ _ _ _ us hl=>by obtain⟨_,_,rfl⟩:=cE hl;rfl
 have F25:=aU (st:=sRP) l25 c25 k25;have m25:=W.mg_of X G a25;have b25:=F25.binds (ps:=["some","many"]) fun _ _ _ _ _ _ us hl=>by obtain⟨_,_,rfl⟩:=cE hl;rfl
 have F26:=aU (st:=sRN) l26 c26 k26;have m26:=W.mg_of X G a26;have b26:=F26.binds (ps:=["k","count"]) fun _ _ _ _ _ _ us hl=>by obtain⟨_,_,rfl⟩:=cE hl;rfl
 have F27:=aU (st:=qJ) l27 c27 k27;have b27:=F27.binds (ps:=["self","many"]) fun _ _ _ _ _ _ us hl=>by obtain⟨_,_,rfl⟩:=cE hl;rfl
 have F28:=aU (st:=yZ) l28 c28 k28;have b28:=F28.binds (ps:=["self"]) fun _ _ _ _ _ _ us hl=>by obtain⟨_,rfl⟩:=cK hl;rfl
 have F29:=aU (st:=qT) l29 c29 k29;have b29:=F29.binds (ps:=["self"]) fun _ _ _ _ _ _ us hl=>by obtain⟨_,rfl⟩:=cK hl;rfl
 have F30:=aU (st:=Kp) l30 c30 k30;have b30:=F30.binds (ps:=["self","row"]) fun _ _ _ _ _ _ us hl=>by obtain⟨_,_,rfl⟩:=cE hl;rfl
 have F31:=aU (st:=lW) l31 c31 k31;have b31:=F31.binds (ps:=["self","k","size"]) fun _ _ _ _ _ _ us hl=>by obtain⟨_,_,_,rfl⟩:=fZ hl;rfl
 have F32:=aU (st:=xT) l32 c32 k32;have b32:=F32.binds (ps:=["self"]) fun _ _ _ _ _ _ us hl=>by obtain⟨_,rfl⟩:=cK hl;rfl
 have F33:=aU (st:=yD) l33 c33 k33;have m33:=W.mg_of X G a33;have b33:=F33.binds (ps:=["row","heights"]) fun _ _ _ _ _ _ us hl=>by obtain⟨_,_,rfl⟩:=cE hl;rfl
 have F34:=aU (st:=lZ) l34 c34 k34;have m34:=W.mg_of X G a34;have b34:=F34.binds (ps:=["marks","row"]) fun _ _ _ _ _ _ us hl=>by obtain⟨_,_,rfl⟩:=cE hl;rfl
 have F35:=aU (st:=qO) l35 c35 k35;have m35:=W.mg_of X G a35;have b35:=F35.binds (ps:=["net"]) fun _ _ _ _ _ _ us hl=>by obtain⟨_,rfl⟩:=cK hl;rfl
 have F36:=aU (st:=pW) l36 c36 k36;have m36:=W.mg_of X G a36;have b36:=F36.binds (ps:=["net"]) fun _ _ _ _ _ _ us hl=>by obtain⟨_,rfl⟩:=cK hl;rfl
 have F37:=aU (st:=pS) l37 c37 k37;have m37:=W.mg_of X G a37;have b37:=F37.binds (ps:=["rows","numbers","point"]) fun _ _ _ _ _ _ us hl=>by obtain⟨_,_,_,rfl⟩:=fZ hl;rfl
 have F38:=aU (st:=Jc) l38 c38 k38;have m38:=W.mg_of X G a38;have b38:=F38.binds (ps:=["rows","numbers","begin","end"]) fun _ _ _ _ _ _ us hl=>by obtain⟨_,_,_,_,rfl⟩:=iL hl;rfl
 have F39:=aU (st:=iI) l39 c39 k39;have m39:=W.mg_of X G a39;have b39:aQ K _ ["net","words"] []:=fun s us XX hl=>match us,hl with | [_,_],_=>W.binds_K (fd:=W.fnOf "rings" "rings" (aR iI) (aM iI) (aD iI) (.ref T39) kV39 dc39 pm39 an39 cd39 ct39) XX rfl lt39 rfl rfl rfl
 have bd39:aQ K _ ["net","words"] [.none]:=fun s us XX hl=>match us,(show us.length=1 by simp at hl;lia) with | [_],_=>W.binds_K (fd:=W.fnOf "rings" "rings" (aR iI) (aM iI) (aD iI) (.ref T39) kV39 dc39 pm39 an39 cd39 ct39) XX rfl lt39 rfl rfl rfl
 have F40:=aU (st:=qW) l40 c40 k40;have m40:=W.mg_of X G a40;have b40:=F40.binds (ps:=["line","column","amount"]) fun _ _ _ _ _ _ us hl=>by obtain⟨_,_,_,rfl⟩:=fZ hl;rfl
 have F41:=aU (st:=rB) l41 c41 k41;have m41:=W.mg_of X G a41;have b41:=F41.binds (ps:=["matrix","row","column","amount"]) fun _ _ _ _ _ _ us hl=>by obtain⟨_,_,_,_,rfl⟩:=iL hl;rfl
 have F42:=aU (st:=mF) l42 c42 k42;have m42:=W.mg_of X G a42;have b42:=F42.binds (ps:=["matrix","row"]) fun _ _ _ _ _ _ us hl=>by obtain⟨_,_,rfl⟩:=cE hl;rfl
 have F43:=aU (st:=mG) l43 c43 k43;have m43:=W.mg_of X G a43;have b43:=F43.binds (ps:=["right","row"]) fun _ _ _ _ _ _ us hl=>by obtain⟨_,_,rfl⟩:=cE hl;rfl
 have F44:=aU (st:=mH) l44 c44 k44;have m44:=W.mg_of X G a44;have b44:=F44.binds (ps:=["matrix","right","row","column"]) fun _ _ _ _ _ _ us hl=>by obtain⟨_,_,_,_,rfl⟩:=iL hl;rfl
 have F45:=aU (st:=Jd) l45 c45 k45;have m45:=W.mg_of X G a45;have b45:=F45.binds (ps:=["net"]) fun _ _ _ _ _ _ us hl=>by obtain⟨_,rfl⟩:=cK hl;rfl
 have F46:=aU (st:=sIW) l46 c46 k46;have m46:=W.mg_of X G a46;have b46:=F46.binds (ps:=["some"]) fun _ _ _ _ _ _ us hl=>by obtain⟨_,rfl⟩:=cK hl;rfl
 have F47:=aU (st:=Jw) l47 c47 k47;have m47:=W.mg_of X G a47;have b47:=F47.binds (ps:=["rows","rank","column"]) fun _ _ _ _ _ _ us hl=>by obtain⟨_,_,_,rfl⟩:=fZ hl;rfl
 have F48:=aU (st:=Kv) l48 c48 k48;have m48:=W.mg_of X G a48;have b48:=F48.binds (ps:=["row","upper","column","divisor"]) fun _ _ _ _ _ _ us hl=>by obtain⟨_,_,_,_,rfl⟩:=iL hl;rfl
 have F49:=aU (st:=jP) l49 c49 k49;have m49:=W.mg_of X G a49;have b49:=F49.binds (ps:=["rows","rank","column","divisor"]) fun _ _ _ _ _ _ us hl=>by obtain⟨_,_,_,_,rfl⟩:=iL hl;rfl
 have F50:=aU (st:=yB) l50 c50 k50;have m50:=W.mg_of X G a50;have b50:=F50.binds (ps:=["rows","width"]) fun _ _ _ _ _ _ us hl=>by obtain⟨_,_,rfl⟩:=cE hl;rfl
 have F51:=aU (st:=mQ) l51 c51 k51;have m51:=W.mg_of X G a51;have b51:=F51.binds (ps:=["matrix","right"]) fun _ _ _ _ _ _ us hl=>by obtain⟨_,_,rfl⟩:=cE hl;rfl
 have F52:=aU (st:=Le) l52 c52 k52;have m52:=W.mg_of X G a52;have b52:=F52.binds (ps:=["net"]) fun _ _ _ _ _ _ us hl=>by obtain⟨_,rfl⟩:=cK hl;rfl
 have F53:=aU (st:=qY) l53 c53 k53;have m53:=W.mg_of X G a53;have b53:=F53.binds (ps:=["rows","levels","held"]) fun _ _ _ _ _ _ us hl=>by obtain⟨_,_,_,rfl⟩:=fZ hl;rfl
 have F54:=aU (st:=qI) l54 c54 k54;have b54:=F54.binds (ps:=["self","net"]) fun _ _ _ _ _ _ us hl=>by obtain⟨_,_,rfl⟩:=cE hl;rfl
 have F55:=aU (st:=yX) l55 c55 k55;have b55:=F55.binds (ps:=["self"]) fun _ _ _ _ _ _ us hl=>by obtain⟨_,rfl⟩:=cK hl;rfl
 have F56:=aU (st:=wS) l56 c56 k56;have b56:=F56.binds (ps:=["self"]) fun _ _ _ _ _ _ us hl=>by obtain⟨_,rfl⟩:=cK hl;rfl
 have F57:=aU (st:=xW) l57 c57 k57;have b57:=F57.binds (ps:=["self"]) fun _ _ _ _ _ _ us hl=>by obtain⟨_,rfl⟩:=cK hl;rfl
 have F58:=aU (st:=rD) l58 c58 k58;have b58:=F58.binds (ps:=["self"]) fun _ _ _ _ _ _ us hl=>by obtain⟨_,rfl⟩:=cK hl;rfl
 have F59:=aU (st:=Ke) l59 c59 k59;have m59:=W.mg_of X G a59;have b59:=F59.binds (ps:=["net","matrix","right"]) fun _ _ _ _ _ _ us hl=>by obtain⟨_,_,_,rfl⟩:=fZ hl;rfl
 have F60:=aU (st:=Kt) l60 c60 k60;have m60:=W.mg_of X G a60;have b60:=F60.binds (ps:=["net","start","goal"]) fun _ _ _ _ _ _ us hl=>by obtain⟨_,_,_,rfl⟩:=fZ hl;rfl
 have F61:=aU (st:=Kk) l61 c61 k61;have m61:=W.mg_of X G a61;have b61:=F61.binds (ps:=["net","k"]) fun _ _ _ _ _ _ us hl=>by obtain⟨_,_,rfl⟩:=cE hl;rfl
 have F62:=aU (st:=qR) l62 c62 k62;have m62:=W.mg_of X G a62;have b62:=F62.binds (ps:=["net","k"]) fun _ _ _ _ _ _ us hl=>by obtain⟨_,_,rfl⟩:=cE hl;rfl
 have F63:=aU (st:=Lh) l63 c63 k63;have m63:=W.mg_of X G a63;have b63:=F63.binds (ps:=["net","answer","k","size"]) fun _ _ _ _ _ _ us hl=>by obtain⟨_,_,_,_,rfl⟩:=iL hl;rfl
 have F64:=aU (st:=xH) l64 c64 k64;have b64:=F64.binds (ps:=["self","net"]) fun _ _ _ _ _ _ us hl=>by obtain⟨_,_,rfl⟩:=cE hl;rfl
 have F65:=aU (st:=yN) l65 c65 k65;have b65:=F65.binds (ps:=["self","k","size"]) fun _ _ _ _ _ _ us hl=>by obtain⟨_,_,_,rfl⟩:=fZ hl;rfl
 have F66:=aU (st:=xU) l66 c66 k66;have b66:=F66.binds (ps:=["self"]) fun _ _ _ _ _ _ us hl=>by obtain⟨_,rfl⟩:=cK hl;rfl
 have F67:=aU (st:=wO) l67 c67 k67;have b67:=F67.binds (ps:=["self"]) fun _ _ _ _ _ _ us hl=>by obtain⟨_,rfl⟩:=cK hl;rfl
 have F68:=aU (st:=wY) l68 c68 k68;have b68:=F68.binds (ps:=["self"]) fun _ _ _ _ _ _ us hl=>by obtain⟨_,rfl⟩:=cK hl;rfl
 have F69:=aU (st:=xY) l69 c69 k69;have m69:=W.mg_of X G a69;have b69:=F69.binds (ps:=["_law_script","_law_k"]) fun _ _ _ _ _ _ us hl=>by obtain⟨_,_,rfl⟩:=cE hl;rfl
 have F70:=aU (st:=rN) l70 c70 k70;have m70:=W.mg_of X G a70;have b70:=F70.binds (ps:=["_law_cell","_law_turn","_law_many"]) fun _ _ _ _ _ _ us hl=>by obtain⟨_,_,_,rfl⟩:=fZ hl;rfl
 have F71:=aU (st:=Lf) l71 c71 k71;have m71:=W.mg_of X G a71;have b71:=F71.binds (ps:=["_law_cell","_law_turn"]) fun _ _ _ _ _ _ us hl=>by obtain⟨_,_,rfl⟩:=cE hl;rfl
 have F72:=aU (st:=mO) l72 c72 k72;have m72:=W.mg_of X G a72;have b72:=F72.binds (ps:=["_law_top","_law_bottom"]) fun _ _ _ _ _ _ us hl=>by obtain⟨_,_,rfl⟩:=cE hl;rfl
 have F73:=aU (st:=qZ) l73 c73 k73;have m73:=W.mg_of X G a73;have b73:=F73.binds (ps:=["_law_one","_law_other"]) fun _ _ _ _ _ _ us hl=>by obtain⟨_,_,rfl⟩:=cE hl;rfl
 have F74:=aU (st:=wM) l74 c74 k74;have m74:=W.mg_of X G a74;have b74:=F74.binds (ps:=["_law_found","_law_due"]) fun _ _ _ _ _ _ us hl=>by obtain⟨_,_,rfl⟩:=cE hl;rfl
 have F75:=aU (st:=yU) l75 c75 k75;have m75:=W.mg_of X G a75;have b75:=F75.binds (ps:=["_law_cell"]) fun _ _ _ _ _ _ us hl=>by obtain⟨_,rfl⟩:=cK hl;rfl
 have F76:=aU (st:=pL) l76 c76 k76;have m76:=W.mg_of X G a76;have b76:=F76.binds (ps:=["_law_many","_law_rows"]) fun _ _ _ _ _ _ us hl=>by obtain⟨_,_,rfl⟩:=cE hl;rfl
 have F77:=aU (st:=Kc) l77 c77 k77;have m77:=W.mg_of X G a77;have b77:=F77.binds (ps:=["_law_rows","_law_cell","_law_word","_law_ends"]) fun _ _ _ _ _ _ us hl=>by obtain⟨_,_,_,_,rfl⟩:=iL hl;rfl
 have F78:=aU (st:=yR) l78 c78 k78;have m78:=W.mg_of X G a78;have b78:=F78.binds (ps:=["_law_script","_law_many","_law_most","_law_words"]) fun _ _ _ _ _ _ us hl=>by obtain⟨_,_,_,_,rfl⟩:=iL hl;rfl
 have F79:=aU (st:=xJ) l79 c79 k79;have m79:=W.mg_of X G a79;have b79:=F79.binds (ps:=["_law_cell","_law_word"]) fun _ _ _ _ _ _ us hl=>by obtain⟨_,_,rfl⟩:=cE hl;rfl
 have F80:=aU (st:=Kx) l80 c80 k80;have m80:=W.mg_of X G a80;have b80:=F80.binds (ps:=["_law_watch","_law_first"]) fun _ _ _ _ _ _ us hl=>by obtain⟨_,_,rfl⟩:=cE hl;rfl
 have F81:=aU (st:=xL) l81 c81 k81;have m81:=W.mg_of X G a81;have b81:=F81.binds (ps:=["_law_watch","_law_rows","_law_deeds"]) fun _ _ _ _ _ _ us hl=>by obtain⟨_,_,_,rfl⟩:=fZ hl;rfl
 have F82:=aU (st:=zZ) l82 c82 k82;have m82:=W.mg_of X G a82;have b82:=F82.binds (ps:=["_law_script"]) fun _ _ _ _ _ _ us hl=>by obtain⟨_,rfl⟩:=cK hl;rfl
 have mv_ONE:=W.mg_of X G v_ONE;have mv_NOUGHT:=W.mg_of X G v_NOUGHT;have mv_JOINING_WORDS:=W.mg_of X G v_JOINING_WORDS;have mv_MOST_POINTS:=W.mg_of X G v_MOST_POINTS;have mv_MOST_ROWS:=W.mg_of X G v_MOST_ROWS;have n_isinstance:=W.mg_none_of X G z1;have n_int:=W.mg_none_of X G z2;have n_bool:=W.mg_none_of X G z3;have n_abs:=W.mg_none_of X G z4;have n_len:=W.mg_none_of X G z5;have n_range:=W.mg_none_of X G z6;have n_str:=W.mg_none_of X G z7;have n_tuple:=W.mg_none_of X G z8;have n_list:=W.mg_none_of X G z9;have n_all:=W.mg_none_of X G z10;have n_zip:=W.mg_none_of X G z11;have n_enumerate:=W.mg_none_of X G z12;refine⟨W.fnOf "law" "law" (aR zZ) (aM zZ) (aD zZ) .none kV82 dc82 pm82 an82 cd82 ct82,fun s v=>.of_eq rfl,fun base _ _=>?_⟩;have bl:Bl mg:=⟨n_isinstance,n_int,n_bool,n_abs⟩
 have T:RT K mg c_Row (kd3 c_Piece c_Push c_Hold):=⟨iT ⟨pg_Piece,hd_Piece,po_Piece,sa_Piece⟩ ⟨pg_Push,hd_Push,po_Push,sa_Push⟩ ⟨pg_Hold,hd_Hold,po_Hold,sa_Hold⟩,iT na_Piece_start na_Push_start na_Hold_start,iT na_Piece_goal na_Push_goal na_Hold_goal,iT na_Piece_size na_Push_size na_Hold_size,iT t1_Piece t1_Push t1_Hold,tt2,tt3,iT t4_Piece t4_Push t4_Hold,iT isR_Piece isR_Push isR_Hold,iT (iT (vW _ _) isK_Piece_Push isK_Piece_Hold) (iT isK_Push_Piece (vW _ _) isK_Push_Hold) (iT isK_Hold_Piece isK_Hold_Push (vW _ _)),mc_Row,iT mc_Piece mc_Push mc_Hold⟩
 have fN:∀H,Fq K H aN (0,1):=Fq.mod lN;have fO:∀H,Fq K H aO (1,1):=Fq.mod lO;have fJ:∀H,SqT K H aJ [.str "piece",.str "hold"]:=fun H=>.inr ⟨_,_,_,lJ,rfl,rfl,(zl9 2),.cons ⟨_,rfl⟩ (.cons ⟨_,rfl⟩ .nil)⟩;have NTx:NT K mg c_Net:=⟨⟨pg_Net,hd_Net,po_Net,sa_Net⟩,na_Net_point_count,na_Net_kept,t1_Net,tt2,tt3,t4_Net,mc_Net⟩
 have ABx:AB K mg c_Answer:=⟨⟨pg_Answer,hd_Answer,po_Answer,sa_Answer⟩,na_Answer_lines,na_Answer_levels,na_Answer_flows,mc_Answer⟩
 have WBx:WB K mg c_Watch:=⟨⟨pg_Watch,hd_Watch,po_Watch,sa_Watch⟩,na_Watch_current,na_Watch_followed,mc_Watch⟩
 have R1:=Nu (P:=l.prog) (w:=w) (mg:=mg) (base:=base) (CX:=CX0) F1 bl;have R2:=Zw (P:=l.prog) (w:=w) (mg:=mg) (base:=base) (CX:=CX0) F2 bl;have R3:=Ni (P:=l.prog) (w:=w) (mg:=mg) (base:=base) (CX:=CX0) F3;have R4:=Sz (P:=l.prog) (w:=w) (mg:=mg) (base:=base) (CX:=CX0) F4  R1 b1 k1 m1 R2 b2 k2 m2;have R5:=Oo (P:=l.prog) (w:=w) (mg:=mg) (base:=base) (CX:=CX0) F5  R4 b4 k4 m4;have R6:=Ty (P:=l.prog) (w:=w) (mg:=mg) (base:=base) (CX:=CX0) F6  R4 b4 k4 m4;have R7:=Rm (P:=l.prog) (w:=w) (mg:=mg) (base:=base) (CX:=CX0) F7  R4 b4 k4 m4;have R8:=Lm (P:=l.prog) (w:=w) (mg:=mg) (base:=base) (CX:=CX0) F8  R4 b4 k4 m4;have R9:=Yc (P:=l.prog) (w:=w) (mg:=mg) (base:=base) (CX:=CX0) F9 bl n_len n_tuple R1 b1 k1 m1 R2 b2 k2 m2;have R10:=Nr (P:=l.prog) (w:=w) (mg:=mg) (base:=base) (CX:=CX0) F10 T;have R11:=Ej (P:=l.prog) (w:=w) (mg:=mg) (base:=base) (CX:=CX0) F11;have R12:=Er (P:=l.prog) (w:=w) (mg:=mg) (base:=base) (CX:=CX0) F12;have R13:=Eo (P:=l.prog) (w:=w) (mg:=mg) (base:=base) (CX:=CX0) F13;have GW:∀k,aP l.prog w K mg base CX0 1 (kd3 f11 f12 f13 k) (kd3 _ _ _ k) ["self"] (jE k):=iT (R11) (R12) (R13);have bW:∀k,aQ K (kd3 _ _ _ k) ["self"] []:=iT (b11) (b12) (b13);have mW:∀k,dX K (kd3 c_Piece c_Push c_Hold k) "word" (kd3 f11 f12 f13 k):=iT (⟨a11_0,i11,k11⟩) (⟨a12_0,i12,k12⟩) (⟨a13_0,i13,k13⟩);have R14:=Cs (P:=l.prog) (w:=w) (mg:=mg) (base:=base) (CX:=CX0) F14;have R15:=Ed (P:=l.prog) (w:=w) (mg:=mg) (base:=base) (CX:=CX0) F15;have R16:=Dr (P:=l.prog) (w:=w) (mg:=mg) (base:=base) (CX:=CX0) F16;have GJ:∀k,aP l.prog w K mg base CX0 1 (kd3 f14 f15 f16 k) (kd3 _ _ _ k) ["self"] (pC k):=iT (R14) (R15) (R16);have bJ:∀k,aQ K (kd3 _ _ _ k) ["self"] []:=iT (b14) (b15) (b16);have mJ:∀k,dX K (kd3 c_Piece c_Push c_Hold k) "joins" (kd3 f14 f15 f16 k):=iT (⟨a14_0,i14,k14⟩) (⟨a15_0,i15,k15⟩) (⟨a16_0,i16,k16⟩);have R17:=Np (P:=l.prog) (w:=w) (mg:=mg) (base:=base) (CX:=CX0) F17 T GW bW mW;have mT:∀k,dX K (kd3 c_Piece c_Push c_Hold k) "told" f17:=iT (⟨a17_0,i17,k17⟩) (⟨a17_1,i17,k17⟩) (⟨a17_2,i17,k17⟩);have MK:∀k,Mk K (kd3 c_Piece c_Push c_Hold k) f10:=iT (⟨mk_Piece,a10_0,i10,kc_Piece⟩) (⟨mk_Push,a10_1,i10,kc_Push⟩) (⟨mk_Hold,a10_2,i10,kc_Hold⟩);have R18:=Oc (P:=l.prog) (w:=w) (mg:=mg) (base:=base) (CX:=CX0) F18 T bl n_str R10 b10 MK;have R19:=Bo (P:=l.prog) (w:=w) (mg:=mg) (base:=base) (CX:=CX0) F19 T R7 b7 k7 m7;have R20:=zR (P:=l.prog) (w:=w) (mg:=mg) (base:=base) (CX:=CX0) F20 T;have R21:=zF (P:=l.prog) (w:=w) (mg:=mg) (base:=base) (CX:=CX0) F21 T;have GS:∀k,aP l.prog w K mg base CX0 4 (kd3 f19 f20 f21 k) (kd3 _ _ _ k) ["self","fall","held"] (vC K (kd3 c_Piece c_Push c_Hold) k):=iT (R19) (R20) (R21);have bS:∀k,aQ K (kd3 _ _ _ k) ["self","fall","held"] []:=iT (b19) (b20) (b21);have mS:∀k,dX K (kd3 c_Piece c_Push c_Hold k) "stream" (kd3 f19 f20 f21 k):=iT (⟨a19_0,i19,k19⟩) (⟨a20_0,i20,k20⟩) (⟨a21_0,i21,k21⟩);have R22:=Zr (P:=l.prog) (w:=w) (mg:=mg) (base:=base) (CX:=CX0) F22 fN mv_NOUGHT (Ds R9) b9 k9 m9 R3 b3 k3 m3;have R23:=Zz (P:=l.prog) (w:=w) (mg:=mg) (base:=base) (CX:=CX0) F23  R1 b1 k1 m1;have R24:=qc7 (P:=l.prog) (w:=w) (mg:=mg) (base:=base) (CX:=CX0) F24 (Ds R9) b9 k9 m9 R22 b22 k22 m22;have R25:=qa8 (P:=l.prog) (w:=w) (mg:=mg) (base:=base) (CX:=CX0) F25 n_all R23 b23 k23 m23;have R26:=Zt (P:=l.prog) (w:=w) (mg:=mg) (base:=base) (CX:=CX0) F26  R23 b23 k23 m23;have R27:=Qr (P:=l.prog) (w:=w) (mg:=mg) (base:=base) (CX:=CX0) F27 NTx mv_MOST_POINTS R1 b1 k1 m1;have R28:=Ro (P:=l.prog) (w:=w) (mg:=mg) (base:=base) (CX:=CX0) F28 NTx;have R29:=Qc (P:=l.prog) (w:=w) (mg:=mg) (base:=base) (CX:=CX0) F29 NTx n_list;have R30:=Yn (P:=l.prog) (w:=w) (mg:=mg) (base:=base) (CX:=CX0) F30 NTx mv_MOST_ROWS n_len T R17 b17 mT R25 b25 k25 m25 R24 b24 k24 m24;have R31:=Jy (P:=l.prog) (w:=w) (mg:=mg) (base:=base) (CX:=CX0) F31 NTx n_len R26 b26 k26 m26 R24 b24 k24 m24;have R32:=Uo (P:=l.prog) (w:=w) (mg:=mg) (base:=base) (CX:=CX0) F32 NTx R18 b18 k18 m18;have MN:Mk K c_Net f27:=⟨mk_Net,a27_0,i27,kc_Net⟩
 have R33:=Sa (P:=l.prog) (w:=w) (mg:=mg) (base:=base) (CX:=CX0) F33 T R5 b5 k5 m5;have R34:=Kb (P:=l.prog) (w:=w) (mg:=mg) (base:=base) (CX:=CX0) F34 T;have R35:=Mp (P:=l.prog) (w:=w) (mg:=mg) (base:=base) (CX:=CX0) F35 n_list n_range NTx T GJ bJ mJ R28 b28 ⟨a28_0,i28,k28⟩ R32 b32 ⟨a32_0,i32,k32⟩ R34 b34 k34 m34;have R36:=Pp (P:=l.prog) (w:=w) (mg:=mg) (base:=base) (CX:=CX0) F36 n_enumerate R35 b35 k35 m35;have R37:=Pj (P:=l.prog) (w:=w) (mg:=mg) (base:=base) (CX:=CX0) F37 T;have R38:=Xv (P:=l.prog) (w:=w) (mg:=mg) (base:=base) (CX:=CX0) F38 n_len R37 b37 k37 m37;have R39:=Pn (P:=l.prog) (w:=w) (mg:=mg) (base:=base) (CX:=CX0) F39 NTx T n_enumerate fJ mv_JOINING_WORDS GW bW mW R32 b32 ⟨a32_0,i32,k32⟩ R38 b38 k38 m38;have R40:=Na (P:=l.prog) (w:=w) (mg:=mg) (base:=base) (CX:=CX0) F40  R6 b6 k6 m6;have R41:=Qa (P:=l.prog) (w:=w) (mg:=mg) (base:=base) (CX:=CX0) F41 T fN mv_NOUGHT R40 b40 k40 m40 R5 b5 k5 m5;have R42:=Lj (P:=l.prog) (w:=w) (mg:=mg) (base:=base) (CX:=CX0) F42 T fN mv_NOUGHT fO mv_ONE R7 b7 k7 m7 R41 b41 k41 m41 R5 b5 k5 m5;have R43:=Iv (P:=l.prog) (w:=w) (mg:=mg) (base:=base) (CX:=CX0) F43 T fN mv_NOUGHT R40 b40 k40 m40 R5 b5 k5 m5;have R44:=Ky (P:=l.prog) (w:=w) (mg:=mg) (base:=base) (CX:=CX0) F44 T fN mv_NOUGHT fO mv_ONE R41 b41 k41 m41 R40 b40 k40 m40 R5 b5 k5 m5;have R45:=Yf (P:=l.prog) (w:=w) (mg:=mg) (base:=base) (CX:=CX0) F45 NTx T n_len n_range fN mv_NOUGHT GW bW mW R32 b32 ⟨a32_0,i32,k32⟩ R28 b28 ⟨a28_0,i28,k28⟩ R42 b42 k42 m42 R43 b43 k43 m43 R44 b44 k44 m44;have R46:=qb3 (P:=l.prog) (w:=w) (mg:=mg) (base:=base) (CX:=CX0) F46  R2 b2 k2 m2;have R47:=Wz (P:=l.prog) (w:=w) (mg:=mg) (base:=base) (CX:=CX0) F47 n_len n_range;have R48:=Wi (P:=l.prog) (w:=w) (mg:=mg) (base:=base) (CX:=CX0) F48 n_zip;have R49:=Fi (P:=l.prog) (w:=w) (mg:=mg) (base:=base) (CX:=CX0) F49 n_enumerate R48 b48 k48 m48;have R50:=Th (P:=l.prog) (w:=w) (mg:=mg) (base:=base) (CX:=CX0) F50 n_range n_list R47 b47 k47 m47 R49 b49 k49 m49;have R51:=Ld (P:=l.prog) (w:=w) (mg:=mg) (base:=base) (CX:=CX0) F51 n_len n_zip R46 b46 k46 m46 R50 b50 k50 m50 R4 b4 k4 m4;have R52:=Yy (P:=l.prog) (w:=w) (mg:=mg) (base:=base) (CX:=CX0) F52 n_len R39 b39 k39 m39 R36 b36 k36 m36;have R53:=Ox (P:=l.prog) (w:=w) (mg:=mg) (base:=base) (CX:=CX0) F53 T fN mv_NOUGHT GW bW mW GS bS mS R33 b33 k33 m33;have R54:=Mc (P:=l.prog) (w:=w) (mg:=mg) (base:=base) (CX:=CX0) F54 ABx NTx fN mv_NOUGHT R32 b32 ⟨a32_0,i32,k32⟩ R28 b28 ⟨a28_0,i28,k28⟩ R52 b52 k52 m52 R45 b45 k45 m45 R51 b51 k51 m51 R53 b53 k53 m53;have MA:Mk K c_Answer f54:=⟨mk_Answer,a54_0,i54,kc_Answer⟩
 have R55:=Tf (P:=l.prog) (w:=w) (mg:=mg) (base:=base) (CX:=CX0) F55 ABx n_list;have R56:=Uh (P:=l.prog) (w:=w) (mg:=mg) (base:=base) (CX:=CX0) F56 ABx n_list;have R57:=Qv (P:=l.prog) (w:=w) (mg:=mg) (base:=base) (CX:=CX0) F57 NTx n_list R27 b27 MN;have R58:=Nl (P:=l.prog) (w:=w) (mg:=mg) (base:=base) (CX:=CX0) F58 NTx n_len;have R59:=Vq (P:=l.prog) (w:=w) (mg:=mg) (base:=base) (CX:=CX0) F59 NTx fN mv_NOUGHT R28 b28 ⟨a28_0,i28,k28⟩ R51 b51 k51 m51;have R60:=Wk (P:=l.prog) (w:=w) (mg:=mg) (base:=base) (CX:=CX0) F60 T n_len fN mv_NOUGHT fO mv_ONE R10 b10 MK R45 b45 k45 m45 R43 b43 k43 m43 R59 b59 k59 m59;have R61:=We (P:=l.prog) (w:=w) (mg:=mg) (base:=base) (CX:=CX0) F61 NTx T n_len fN mv_NOUGHT fO mv_ONE GW bW mW R28 b28 ⟨a28_0,i28,k28⟩ R32 b32 ⟨a32_0,i32,k32⟩ R45 b45 k45 m45 R59 b59 k59 m59;have R62:=Po (P:=l.prog) (w:=w) (mg:=mg) (base:=base) (CX:=CX0) F62 NTx T GW bW mW R58 b58 ⟨a58_0,i58,k58⟩ R32 b32 ⟨a32_0,i32,k32⟩ R26 b26 k26 m26 R52 b52 k52 m52 R61 b61 k61 m61 R60 b60 k60 m60;have R63:=Vw (P:=l.prog) (w:=w) (mg:=mg) (base:=base) (CX:=CX0) F63 NTx T ABx fN mv_NOUGHT fO mv_ONE GW bW mW R32 b32 ⟨a32_0,i32,k32⟩ R55 b55 ⟨a55_0,i55,k55⟩ R5 b5 k5 m5 R7 b7 k7 m7 R33 b33 k33 m33 R62 b62 k62 m62 R8 b8 k8 m8 R6 b6 k6 m6;have R64:=Su (P:=l.prog) (w:=w) (mg:=mg) (base:=base) (CX:=CX0) F64 WBx NTx ABx R54 b54 MA R57 b57 ⟨a57_0,i57,k57⟩;have MWa:Mk K c_Watch f64:=⟨mk_Watch,a64_0,i64,kc_Watch⟩
 have R65:=Sc (P:=l.prog) (w:=w) (mg:=mg) (base:=base) (CX:=CX0) F65 WBx NTx ABx R54 b54 MA R57 b57 ⟨a57_0,i57,k57⟩ R31 b31 ⟨a31_0,i31,k31⟩ R63 b63 k63 m63;have R66:=Qx (P:=l.prog) (w:=w) (mg:=mg) (base:=base) (CX:=CX0) F66 (CN:=c_Net) WBx ABx R55 b55 ⟨a55_0,i55,k55⟩;have R67:=Tw (P:=l.prog) (w:=w) (mg:=mg) (base:=base) (CX:=CX0) F67 (CN:=c_Net) WBx ABx R56 b56 ⟨a56_0,i56,k56⟩;have R68:=Um (P:=l.prog) (w:=w) (mg:=mg) (base:=base) (CX:=CX0) F68 (CA:=c_Answer) WBx NTx R57 b57 ⟨a57_0,i57,k57⟩;have R69:=Tx (P:=l.prog) (w:=w) (mg:=mg) (base:=base) (CX:=CX0) F69;have R70:=Wx (P:=l.prog) (w:=w) (mg:=mg) (base:=base) (CX:=CX0) F70 n_range;have R71:=Wt (P:=l.prog) (w:=w) (mg:=mg) (base:=base) (CX:=CX0) F71 n_range;have R72:=Kl (P:=l.prog) (w:=w) (mg:=mg) (base:=base) (CX:=CX0) F72 bl;have R73:=Ph (P:=l.prog) (w:=w) (mg:=mg) (base:=base) (CX:=CX0) F73  R72 b72 k72 m72;have R74:=Qz (P:=l.prog) (w:=w) (mg:=mg) (base:=base) (CX:=CX0) F74 bl n_len n_tuple;have R75:=Tb (P:=l.prog) (w:=w) (mg:=mg) (base:=base) (CX:=CX0) F75  R70 b70 k70 m70 R72 b72 k72 m72;have R76:=Nk (P:=l.prog) (w:=w) (mg:=mg) (base:=base) (CX:=CX0) F76 NTx R30 b30 ⟨a30_0,i30,k30⟩ R27 b27 MN R18 b18 k18 m18;have R77:=Wj (P:=l.prog) (w:=w) (mg:=mg) (base:=base) (CX:=CX0) F77 n_len R70 b70 k70 m70 R72 b72 k72 m72 R75 b75 k75 m75;have R78:=Rs (P:=l.prog) (w:=w) (mg:=mg) (base:=base) (CX:=CX0) F78 n_range n_len R69 b69 k69 m69 R70 b70 k70 m70 R77 b77 k77 m77;have R79:=Ul (P:=l.prog) (w:=w) (mg:=mg) (base:=base) (CX:=CX0) F79 bl R70 b70 k70 m70 R71 b71 k71 m71 R72 b72 k72 m72;have R80:=Vl (P:=l.prog) (w:=w) (mg:=mg) (base:=base) (CX:=CX0) F80 WBx R66 b66 ⟨a66_0,i66,k66⟩ R67 b67 ⟨a67_0,i67,k67⟩;have R81:=Sy (P:=l.prog) (w:=w) (mg:=mg) (base:=base) (CX:=CX0) F81 WBx R65 b65 ⟨a65_0,i65,k65⟩ R74 b74 k74 m74 R73 b73 k73 m73;exact Vv (P:=l.prog) (w:=w) (mg:=mg) (base:=base) (CX:=CX0) F82 NTx WBx n_len n_list R64 b64 MWa R68 b68 ⟨a68_0,i68,k68⟩ R29 b29 ⟨a29_0,i29,k29⟩ R69 b69 k69 m69 R78 b78 k78 m78 R76 b76 k76 m76 R80 b80 k80 m80 R70 b70 k70 m70 R79 b79 k79 m79 R81 b81 k81 m81
theorem qe4 {l:W.OpenLaw}{q:Program}{loose:List Str}{XP:(Str->Option Value)->Heap->Prop}{YP:World->Heap->Prop}{d:DefRec}{K:Params->Frag}(hn:l.most=some 63)(hdf:d.params.defaults=[])(hY:∀(w:World) (h:Heap),YP w h->(K w.params).In h)(F:∀(w:World) (mg:Str->Option Value) (fa:Addr) (h:Heap),(K w.params).In h->h.Ns mainGlobals mg->mg d.name=some (.ref fa)->
   ∃fd:FuncData,(∀(s:Shared) (u:Value),BindsTo s fd ⟨[u],[]⟩ [("_law_script",u)])/\∀base:Heap,(K w.params).In base->base.Ns mainGlobals mg->aP l.prog w (K w.params) mg base CX0 13 fa fd ["_law_script"] (Gx (K w.params))) :
  W.WalkO q loose XP YP l.row.toRowW d [] (fun f vs=>PySem.call f vs):=
 L2.To (n:=63) (k:=13) (x:="_law_script") (CX:=fun _=>CX0) (sp:=fun w=>Gx (K w.params)) hn (by decide) hdf ⟨rfl,by decide,by decide⟩ hY F (fun _ _ a ns hl _ hS=>⟨a,ns,rfl,hS,hl,fun _=>rfl⟩) fun _ _ _ _ _ z=>z
end K75
namespace PySem.W.Fast
def Q:=Nat
def tw2703407675221983001:=Q
def tw16972186470858219335:=Q
def tw6707819984631332759:=Q
def tw16835149112618134671:=Q
def tw12284600950847252659:=Q
def tw10263909778009731597:=Q
def tw2337302267713107641:=Q
def tw16470103669912718029:=Q
def tw11805552410398072355:=Q
def tw5122202010670304302:=Q
def tw17095907285450877372:=Q
def tw17405317148692344719:=Q
def tw12925989164027416382:=Q
def tw5165722555288388438:=Q
def tw17889278583148215164:=Q
def tw10872994575691118562:=Q
def tw14965145976265197589:=Q
def tw16063967216382845033:=Q
def tw15620881214070876960:=Q
def tw8956091478009335833:=Q
def tw6055737996400915934:=Q
def tw6102170787772666780:=Q
def tw14987217286786226221:=Q
def tw13109373247060246207:=Q
def tw6520796310142737092:=Q
def tw2201471817103547548:=Q
def tw4896308154430781484:=Q
def tw1396597126039939300:=Q
def tw13250047487881479298:=Q
def tw8892705111082176513:=Q
def tw13936037056245663682:=Q
def tw10647105168770158246:=Q
def tw9655327323965344940:=Q
def tw14139874661143098435:=Q
def tw13565580014275680141:=Q
def tw4938494038682719172:=Q
def tw3816959298678032241:=Q
def tw15970831874794607202:=Q
def tw3326330953063020566:=Q
def tw6615082173632792121:=Q
def tw2509700045599812444:=Q
def tw1485161333031905713:=Q
def tw9107550897525776615:=Q
def tw12039858953385089162:=Q
def tw15630376458461503796:=Q
def tw9297169070469908164:=Q
def tw8837119490354938654:=Q
def tw17316391326309180637:=Q
def tw9742792648862807555:=Q
def tw8593317857003560908:=Q
def tw5424474543519702890:=Q
def tw143663191244099239:=Q
def tw3592257221094179246:=Q
def tw14999124732303271244:=Q
def tw8295135815857281558:=Q
def tw179607634079446108:=Q
def tw2924116269071375430:=Q
def tw773704401244144958:=Q
def tw15715567051674272432:=Q
def tw8252610643014436927:=Q
def tw16842413078124915615:=Q
def tw1500537781632493466:=Q
def tw9247074898624534206:=Q
def tw17817844619293108079:=Q
def tw5240933648482910792:=Q
def tw13361488080255027636:=Q
def tw924822274563318251:=Q
def tw11563496402190991222:=Q
def tw2036001958448008508:=Q
def tw11752596167666270215:=Q
def tw14918628204787846988:=Q
def tw3458831153450736906:=Q
def tw10301131691246417924:=Q
def tw6964678881638919107:=Q
def tw3071512749598112779:=Q
def tw9273875188913654021:=Q
def tw16077512085486548409:=Q
def tw12471063917570591737:=Q
def tw18188240076903211544:=Q
def tw10826313346897043963:=Q
def tw1752313454264909755:=Q
def tw5851104566972079320:=Q
def tw12792648334368699013:=Q
def tw4853953519881158561:=Q
def tw16582316580858812074:=Q
def tw13360239693147759022:=Q
def tw10373522172702987539:=Q
def tw2326950471946925503:=Q
def tw1631707722913763224:=Q
def tw8825626908049316873:=Q
def tw17757997492748187919:=Q
def tw9637279167319254333:=Q
def tw10290050327912349025:=Q
def tw2833253682769377412:=Q
def tw16539354378597156466:=Q
def tw4501407801400981728:=Q
def tw4962054785781540835:=Q
def tw16179249551186021509:=Q
def tw14570208813897395960:=Q
def tw12185209961906994058:=Q
def tw2737289332042306850:=Q
def tw150814464916475105:=Q
def tw14325618392205440787:=Q
def tw10293482763610966589:=Q
def tw2430659789419246152:=Q
def tw3352724054181292012:=Q
def tw4859984879061189939:=Q
def tw17272113351679005049:=Q
def tw10154094430971923444:=Q
def tw25251231485880700:=Q
def tw3236683974366693796:=Q
def tw15492134252117547031:=Q
def tw16032824616338200981:=Q
def tw8875573964200846952:=Q
def tw8129952595288907735:=Q
def tw8940568054562279737:=Q
def tw2675863336795454207:=Q
def tw1934215156011612660:=Q
def tw618835327559103153:=Q
def tw5379469900179292565:=Q
def tw6084347684677725180:=Q
def tw15096860353249699461:=Q
def tw12793721822714428639:=Q
def tw6436305484195752155:=Q
def tw10848936372300359864:=Q
def tw18405668035145343282:=Q
def tw14777746208699352969:=Q
def tw17191022274125494112:=Q
def tw616038831859982868:=Q
def tw6274419098734940505:=Q
def tw9558104932780403472:=Q
def tw6988659458963181718:=Q
def tw3123606572407278173:=Q
def tw11077092195375015632:=Q
def tw6001960602316298363:=Q
def tw16452179127942658399:=Q
def tw1000139677603995995:=Q
def tw16009347738980682865:=Q
def tw13130522490082795684:=Q
def tw17786539549891267466:=Q
def tw15288175933365093111:=Q
def tw3614668586932091476:=Q
def tw11560985102163373910:=Q
def tw3394166813319707936:=Q
def tw10890247761702715893:=Q
def tw1087835713599227928:=Q
def tw8776061859279423152:=Q
def tw2693052904059587867:=Q
def tw3664907355203336098:=Q
def tw2551805916720322440:=Q
def tw16751071160179969880:=Q
def tw3016536049972217550:=Q
def tw12393399659464526125:=Q
def tw7796615326280211677:=Q
def tw14748978216086909440:=Q
def tw15757994499522578649:=Q
def tw1949254754856838873:=Q
def tw3317696127147441422:=Q
def tw2110906607972724826:=Q
def tw16630149974301156839:=Q
def tw4321232115185358828:=Q
def tw6976146615198648426:=Q
def tw12371614252176761400:=Q
def tw8876190991108303407:=Q
def tw12627658088893116711:=Q
def tw3687257095571134412:=Q
def tw2457918739794520628:=Q
def tw18043765121539403582:=Q
def tw14938516416648812628:=Q
def tw9734433437843301019:=Q
def tw4070675319690932004:=Q
def tw12349278220942162596:=Q
def tw10367885177366522384:=Q
def tw8669881880980136834:=Q
def tw13854326169066156667:=Q
def tw17855739154613622114:=Q
def tw14624484878888892828:=Q
def tw18108438096106591764:=Q
def tw3834102163297920628:=Q
def tw17123193022177551703:=Q
def tw16950334074833486437:=Q
def tw3995626597401231949:=Q
def tw15937744310961979901:=Q
def tw2250698270462189295:=Q
def tw6646419620616653674:=Q
def tw5439186288976793209:=Q
def tw228878767666353975:=Q
def tw15483195304615788322:=Q
def tw11959957072796973127:=Q
def tw14695464046335089646:=Q
def tw6035415976316730327:=Q
def tw6657609235248594279:=Q
def tw5622414047841050297:=Q
def tw18364936615040395818:=Q
def tw15651393658582717925:=Q
def tw1155363828811418264:=Q
def tw15948906689198397244:=Q
def tw6852784707249503161:=Q
def tw1656935756123411163:=Q
def tw6934316661817048927:=Q
def tw17731253031050206220:=Q
def tw15963493922452350179:=Q
def tw12618542762964706467:=Q
def tw3117033385022986640:=Q
def tw5108044090795326873:=Q
def tw7950062035223413791:=Q
def tw2440962310661448255:=Q
def tw10664889645565370260:=Q
def tw11720715958171796501:=Q
def tw8988389586441018183:=Q
def tw5272199588603227663:=Q
def tw17266010065771231691:=Q
def tw1697127281181287683:=Q
def tw5932805402223836441:=Q
def tw17739803888588507243:=Q
def tw17786775643124716498:=Q
def tw11742509548546422739:=Q
def tw12953914849092339670:=Q
def tw9746236561869191714:=Q
def tw16624112817741518873:=Q
def tw3730767600845362904:=Q
def tw4659675721873370948:=Q
def tw2533941358593657130:=Q
def tw9572234350585451771:=Q
def tw12262515234076440845:=Q
def tw15853974174345570454:=Q
def tw448927326780926236:=Q
def tw3694236365210019038:=Q
end PySem.W.Fast
open PySem PySem.W PyProof.Rows
set_option maxRecDepth 100000 in
set_option maxHeartbeats 0 in
theorem PySem.Challenge.cw_ohmyard_k75_there_and_back_holds : PySem.Challenge.rw_ohmyard_k75_there_and_back.Holds := by
  w_on; o_law; z_head; (case hw => w_witness2)
  k_fill
  refine L2.Nt (fun _ => by kernel_rfl) (K75.qe4 (l := PySem.Challenge.rw_ohmyard_k75_there_and_back) rfl rfl (fun w h Y => Y) ?F)
  case F =>
    intro w mg fa h KX G hmg
    refine' K75.Wo KX G hmg ?y_Row ?y_Piece ?y_Push ?y_Hold ?y_Net ?y_Answer ?y_Watch ?a1 ?l1 ?c1 ?k1 ?a2 ?l2 ?c2 ?k2 ?a3 ?l3 ?c3 ?k3 ?a4 ?l4 ?c4 ?k4 ?lt4 ?a5 ?l5 ?c5 ?k5 ?a6 ?l6 ?c6 ?k6 ?a7 ?l7 ?c7 ?k7 ?a8 ?l8 ?c8 ?k8 ?a9 ?l9 ?c9 ?k9 ?a10_0 ?a10_1 ?a10_2 ?i10 ?l10 ?c10 ?k10 ?a11_0 ?i11 ?l11 ?c11 ?k11 ?a12_0 ?i12 ?l12 ?c12 ?k12 ?a13_0 ?i13 ?l13 ?c13 ?k13 ?a14_0 ?i14 ?l14 ?c14 ?k14 ?a15_0 ?i15 ?l15 ?c15 ?k15 ?a16_0 ?i16 ?l16 ?c16 ?k16 ?a17_0 ?a17_1 ?a17_2 ?i17 ?l17 ?c17 ?k17 ?a18 ?l18 ?c18 ?k18 ?a19_0 ?i19 ?l19 ?c19 ?k19 ?a20_0 ?i20 ?l20 ?c20 ?k20 ?a21_0 ?i21 ?l21 ?c21 ?k21 ?a22 ?l22 ?c22 ?k22 ?a23 ?l23 ?c23 ?k23 ?a24 ?l24 ?c24 ?k24 ?a25 ?l25 ?c25 ?k25 ?a26 ?l26 ?c26 ?k26 ?a27_0 ?i27 ?l27 ?c27 ?k27 ?a28_0 ?i28 ?l28 ?c28 ?k28 ?a29_0 ?i29 ?l29 ?c29 ?k29 ?a30_0 ?i30 ?l30 ?c30 ?k30 ?a31_0 ?i31 ?l31 ?c31 ?k31 ?a32_0 ?i32 ?l32 ?c32 ?k32 ?a33 ?l33 ?c33 ?k33 ?a34 ?l34 ?c34 ?k34 ?a35 ?l35 ?c35 ?k35 ?a36 ?l36 ?c36 ?k36 ?a37 ?l37 ?c37 ?k37 ?a38 ?l38 ?c38 ?k38 ?a39 ?l39 ?c39 ?k39 ?lt39 ?a40 ?l40 ?c40 ?k40 ?a41 ?l41 ?c41 ?k41 ?a42 ?l42 ?c42 ?k42 ?a43 ?l43 ?c43 ?k43 ?a44 ?l44 ?c44 ?k44 ?a45 ?l45 ?c45 ?k45 ?a46 ?l46 ?c46 ?k46 ?a47 ?l47 ?c47 ?k47 ?a48 ?l48 ?c48 ?k48 ?a49 ?l49 ?c49 ?k49 ?a50 ?l50 ?c50 ?k50 ?a51 ?l51 ?c51 ?k51 ?a52 ?l52 ?c52 ?k52 ?a53 ?l53 ?c53 ?k53 ?a54_0 ?i54 ?l54 ?c54 ?k54 ?a55_0 ?i55 ?l55 ?c55 ?k55 ?a56_0 ?i56 ?l56 ?c56 ?k56 ?a57_0 ?i57 ?l57 ?c57 ?k57 ?a58_0 ?i58 ?l58 ?c58 ?k58 ?a59 ?l59 ?c59 ?k59 ?a60 ?l60 ?c60 ?k60 ?a61 ?l61 ?c61 ?k61 ?a62 ?l62 ?c62 ?k62 ?a63 ?l63 ?c63 ?k63 ?a64_0 ?i64 ?l64 ?c64 ?k64 ?a65_0 ?i65 ?l65 ?c65 ?k65 ?a66_0 ?i66 ?l66 ?c66 ?k66 ?a67_0 ?i67 ?l67 ?c67 ?k67 ?a68_0 ?i68 ?l68 ?c68 ?k68 ?a69 ?l69 ?c69 ?k69 ?a70 ?l70 ?c70 ?k70 ?a71 ?l71 ?c71 ?k71 ?a72 ?l72 ?c72 ?k72 ?a73 ?l73 ?c73 ?k73 ?a74 ?l74 ?c74 ?k74 ?a75 ?l75 ?c75 ?k75 ?a76 ?l76 ?c76 ?k76 ?a77 ?l77 ?c77 ?k77 ?a78 ?l78 ?c78 ?k78 ?a79 ?l79 ?c79 ?k79 ?a80 ?l80 ?c80 ?k80 ?a81 ?l81 ?c81 ?k81 ?a82 ?l82 ?c82 ?k82 ?v_ONE ?v_NOUGHT ?v_JOINING_WORDS ?v_MOST_POINTS ?v_MOST_ROWS ?lO ?lN ?lJ ?pg_Piece ?hd_Piece ?po_Piece ?sa_Piece ?mk_Piece ?kc_Piece ?t1_Piece ?t4_Piece ?na_Piece_start ?na_Piece_goal ?na_Piece_size ?pg_Push ?hd_Push ?po_Push ?sa_Push ?mk_Push ?kc_Push ?t1_Push ?t4_Push ?na_Push_start ?na_Push_goal ?na_Push_size ?pg_Hold ?hd_Hold ?po_Hold ?sa_Hold ?mk_Hold ?kc_Hold ?t1_Hold ?t4_Hold ?na_Hold_start ?na_Hold_goal ?na_Hold_size ?tt2 ?tt3 ?isR_Piece ?isR_Push ?isR_Hold ?isK_Piece_Push ?isK_Piece_Hold ?isK_Push_Piece ?isK_Push_Hold ?isK_Hold_Piece ?isK_Hold_Push ?pg_Net ?hd_Net ?po_Net ?sa_Net ?mk_Net ?kc_Net ?t1_Net ?t4_Net ?na_Net_point_count ?na_Net_kept ?pg_Answer ?hd_Answer ?po_Answer ?sa_Answer ?mk_Answer ?kc_Answer ?t1_Answer ?t4_Answer ?na_Answer_lines ?na_Answer_levels ?na_Answer_flows ?pg_Watch ?hd_Watch ?po_Watch ?sa_Watch ?mk_Watch ?kc_Watch ?t1_Watch ?t4_Watch ?na_Watch_current ?na_Watch_followed ?z1 ?z2 ?z3 ?z4 ?z5 ?z6 ?z7 ?z8 ?z9 ?z10 ?z11 ?z12
    (case y_Row=>k_is)
    (case y_Piece=>k_is)
    (case y_Push=>k_is)
    (case y_Hold=>k_is)
    (case y_Net=>k_is)
    (case y_Answer=>k_is)
    (case y_Watch=>k_is)
    (case a1=>k_is);(case l1=>k_is);(case c1=>k_is);(case k1=>show _=_;k_is)
    (case a2=>k_is);(case l2=>k_is);(case c2=>k_is);(case k2=>show _=_;k_is)
    (case a3=>k_is);(case l3=>k_is);(case c3=>k_is);(case k3=>show _=_;k_is)
    (case a4=>k_is);(case l4=>k_is);(case c4=>k_is);(case k4=>show _=_;k_is);(case lt4=>k_is)
    (case a5=>k_is);(case l5=>k_is);(case c5=>k_is);(case k5=>show _=_;k_is)
    (case a6=>k_is);(case l6=>k_is);(case c6=>k_is);(case k6=>show _=_;k_is)
    (case a7=>k_is);(case l7=>k_is);(case c7=>k_is);(case k7=>show _=_;k_is)
    (case a8=>k_is);(case l8=>k_is);(case c8=>k_is);(case k8=>show _=_;k_is)
    (case a9=>k_is);(case l9=>k_is);(case c9=>k_is);(case k9=>show _=_;k_is)
    (case a10_0=>k_is);(case a10_1=>k_is);(case a10_2=>k_is);(case i10=>k_is);(case l10=>k_is);(case c10=>k_is);(case k10=>show _=_;k_is)
    (case a11_0=>k_is);(case i11=>k_is);(case l11=>k_is);(case c11=>k_is);(case k11=>show _=_;k_is)
    (case a12_0=>k_is);(case i12=>k_is);(case l12=>k_is);(case c12=>k_is);(case k12=>show _=_;k_is)
    (case a13_0=>k_is);(case i13=>k_is);(case l13=>k_is);(case c13=>k_is);(case k13=>show _=_;k_is)
    (case a14_0=>k_is);(case i14=>k_is);(case l14=>k_is);(case c14=>k_is);(case k14=>show _=_;k_is)
    (case a15_0=>k_is);(case i15=>k_is);(case l15=>k_is);(case c15=>k_is);(case k15=>show _=_;k_is)
    (case a16_0=>k_is);(case i16=>k_is);(case l16=>k_is);(case c16=>k_is);(case k16=>show _=_;k_is)
    (case a17_0=>k_is);(case a17_1=>k_is);(case a17_2=>k_is);(case i17=>k_is);(case l17=>k_is);(case c17=>k_is);(case k17=>show _=_;k_is)
    (case a18=>k_is);(case l18=>k_is);(case c18=>k_is);(case k18=>show _=_;k_is)
    (case a19_0=>k_is);(case i19=>k_is);(case l19=>k_is);(case c19=>k_is);(case k19=>show _=_;k_is)
    (case a20_0=>k_is);(case i20=>k_is);(case l20=>k_is);(case c20=>k_is);(case k20=>show _=_;k_is)
    (case a21_0=>k_is);(case i21=>k_is);(case l21=>k_is);(case c21=>k_is);(case k21=>show _=_;k_is)
    (case a22=>k_is);(case l22=>k_is);(case c22=>k_is);(case k22=>show _=_;k_is)
    (case a23=>k_is);(case l23=>k_is);(case c23=>k_is);(case k23=>show _=_;k_is)
    (case a24=>k_is);(case l24=>k_is);(case c24=>k_is);(case k24=>show _=_;k_is)
    (case a25=>k_is);(case l25=>k_is);(case c25=>k_is);(case k25=>show _=_;k_is)
    (case a26=>k_is);(case l26=>k_is);(case c26=>k_is);(case k26=>show _=_;k_is)
    (case a27_0=>k_is);(case i27=>k_is);(case l27=>k_is);(case c27=>k_is);(case k27=>show _=_;k_is)
    (case a28_0=>k_is);(case i28=>k_is);(case l28=>k_is);(case c28=>k_is);(case k28=>show _=_;k_is)
    (case a29_0=>k_is);(case i29=>k_is);(case l29=>k_is);(case c29=>k_is);(case k29=>show _=_;k_is)
    (case a30_0=>k_is);(case i30=>k_is);(case l30=>k_is);(case c30=>k_is);(case k30=>show _=_;k_is)
    (case a31_0=>k_is);(case i31=>k_is);(case l31=>k_is);(case c31=>k_is);(case k31=>show _=_;k_is)
    (case a32_0=>k_is);(case i32=>k_is);(case l32=>k_is);(case c32=>k_is);(case k32=>show _=_;k_is)
    (case a33=>k_is);(case l33=>k_is);(case c33=>k_is);(case k33=>show _=_;k_is)
    (case a34=>k_is);(case l34=>k_is);(case c34=>k_is);(case k34=>show _=_;k_is)
    (case a35=>k_is);(case l35=>k_is);(case c35=>k_is);(case k35=>show _=_;k_is)
    (case a36=>k_is);(case l36=>k_is);(case c36=>k_is);(case k36=>show _=_;k_is)
    (case a37=>k_is);(case l37=>k_is);(case c37=>k_is);(case k37=>show _=_;k_is)
    (case a38=>k_is);(case l38=>k_is);(case c38=>k_is);(case k38=>show _=_;k_is)
    (case a39=>k_is);(case l39=>k_is);(case c39=>k_is);(case k39=>show _=_;k_is);(case lt39=>k_is)
    (case a40=>k_is);(case l40=>k_is);(case c40=>k_is);(case k40=>show _=_;k_is)
    (case a41=>k_is);(case l41=>k_is);(case c41=>k_is);(case k41=>show _=_;k_is)
    (case a42=>k_is);(case l42=>k_is);(case c42=>k_is);(case k42=>show _=_;k_is)
    (case a43=>k_is);(case l43=>k_is);(case c43=>k_is);(case k43=>show _=_;k_is)
    (case a44=>k_is);(case l44=>k_is);(case c44=>k_is);(case k44=>show _=_;k_is)
    (case a45=>k_is);(case l45=>k_is);(case c45=>k_is);(case k45=>show _=_;k_is)
    (case a46=>k_is);(case l46=>k_is);(case c46=>k_is);(case k46=>show _=_;k_is)
    (case a47=>k_is);(case l47=>k_is);(case c47=>k_is);(case k47=>show _=_;k_is)
    (case a48=>k_is);(case l48=>k_is);(case c48=>k_is);(case k48=>show _=_;k_is)
    (case a49=>k_is);(case l49=>k_is);(case c49=>k_is);(case k49=>show _=_;k_is)
    (case a50=>k_is);(case l50=>k_is);(case c50=>k_is);(case k50=>show _=_;k_is)
    (case a51=>k_is);(case l51=>k_is);(case c51=>k_is);(case k51=>show _=_;k_is)
    (case a52=>k_is);(case l52=>k_is);(case c52=>k_is);(case k52=>show _=_;k_is)
    (case a53=>k_is);(case l53=>k_is);(case c53=>k_is);(case k53=>show _=_;k_is)
    (case a54_0=>k_is);(case i54=>k_is);(case l54=>k_is);(case c54=>k_is);(case k54=>show _=_;k_is)
    (case a55_0=>k_is);(case i55=>k_is);(case l55=>k_is);(case c55=>k_is);(case k55=>show _=_;k_is)
    (case a56_0=>k_is);(case i56=>k_is);(case l56=>k_is);(case c56=>k_is);(case k56=>show _=_;k_is)
    (case a57_0=>k_is);(case i57=>k_is);(case l57=>k_is);(case c57=>k_is);(case k57=>show _=_;k_is)
    (case a58_0=>k_is);(case i58=>k_is);(case l58=>k_is);(case c58=>k_is);(case k58=>show _=_;k_is)
    (case a59=>k_is);(case l59=>k_is);(case c59=>k_is);(case k59=>show _=_;k_is)
    (case a60=>k_is);(case l60=>k_is);(case c60=>k_is);(case k60=>show _=_;k_is)
    (case a61=>k_is);(case l61=>k_is);(case c61=>k_is);(case k61=>show _=_;k_is)
    (case a62=>k_is);(case l62=>k_is);(case c62=>k_is);(case k62=>show _=_;k_is)
    (case a63=>k_is);(case l63=>k_is);(case c63=>k_is);(case k63=>show _=_;k_is)
    (case a64_0=>k_is);(case i64=>k_is);(case l64=>k_is);(case c64=>k_is);(case k64=>show _=_;k_is)
    (case a65_0=>k_is);(case i65=>k_is);(case l65=>k_is);(case c65=>k_is);(case k65=>show _=_;k_is)
    (case a66_0=>k_is);(case i66=>k_is);(case l66=>k_is);(case c66=>k_is);(case k66=>show _=_;k_is)
    (case a67_0=>k_is);(case i67=>k_is);(case l67=>k_is);(case c67=>k_is);(case k67=>show _=_;k_is)
    (case a68_0=>k_is);(case i68=>k_is);(case l68=>k_is);(case c68=>k_is);(case k68=>show _=_;k_is)
    (case a69=>k_is);(case l69=>k_is);(case c69=>k_is);(case k69=>show _=_;k_is)
    (case a70=>k_is);(case l70=>k_is);(case c70=>k_is);(case k70=>show _=_;k_is)
    (case a71=>k_is);(case l71=>k_is);(case c71=>k_is);(case k71=>show _=_;k_is)
    (case a72=>k_is);(case l72=>k_is);(case c72=>k_is);(case k72=>show _=_;k_is)
    (case a73=>k_is);(case l73=>k_is);(case c73=>k_is);(case k73=>show _=_;k_is)
    (case a74=>k_is);(case l74=>k_is);(case c74=>k_is);(case k74=>show _=_;k_is)
    (case a75=>k_is);(case l75=>k_is);(case c75=>k_is);(case k75=>show _=_;k_is)
    (case a76=>k_is);(case l76=>k_is);(case c76=>k_is);(case k76=>show _=_;k_is)
    (case a77=>k_is);(case l77=>k_is);(case c77=>k_is);(case k77=>show _=_;k_is)
    (case a78=>k_is);(case l78=>k_is);(case c78=>k_is);(case k78=>show _=_;k_is)
    (case a79=>k_is);(case l79=>k_is);(case c79=>k_is);(case k79=>show _=_;k_is)
    (case a80=>k_is);(case l80=>k_is);(case c80=>k_is);(case k80=>show _=_;k_is)
    (case a81=>k_is);(case l81=>k_is);(case c81=>k_is);(case k81=>show _=_;k_is)
    (case a82=>k_is);(case l82=>k_is);(case c82=>k_is);(case k82=>show _=_;k_is)
    (case v_ONE=>k_is)
    (case v_NOUGHT=>k_is)
    (case v_JOINING_WORDS=>k_is)
    (case v_MOST_POINTS=>k_is)
    (case v_MOST_ROWS=>k_is)
    (case lO=>k_is)
    (case lN=>k_is)
    (case lJ=>k_is)
    (case pg_Piece=>k_is)
    (case hd_Piece=>k_is)
    (case po_Piece=>k_is)
    (case sa_Piece=>k_is)
    (case mk_Piece=>k_is)
    (case kc_Piece=>show _=_;k_is)
    (case t1_Piece=>k_is)
    (case t4_Piece=>k_is)
    (case na_Piece_start=>k_is)
    (case na_Piece_goal=>k_is)
    (case na_Piece_size=>k_is)
    (case pg_Push=>k_is)
    (case hd_Push=>k_is)
    (case po_Push=>k_is)
    (case sa_Push=>k_is)
    (case mk_Push=>k_is)
    (case kc_Push=>show _=_;k_is)
    (case t1_Push=>k_is)
    (case t4_Push=>k_is)
    (case na_Push_start=>k_is)
    (case na_Push_goal=>k_is)
    (case na_Push_size=>k_is)
    (case pg_Hold=>k_is)
    (case hd_Hold=>k_is)
    (case po_Hold=>k_is)
    (case sa_Hold=>k_is)
    (case mk_Hold=>k_is)
    (case kc_Hold=>show _=_;k_is)
    (case t1_Hold=>k_is)
    (case t4_Hold=>k_is)
    (case na_Hold_start=>k_is)
    (case na_Hold_goal=>k_is)
    (case na_Hold_size=>k_is)
    (case tt2=>k_is)
    (case tt3=>k_is)
    (case isR_Piece=>kit_is)
    (case isR_Push=>kit_is)
    (case isR_Hold=>kit_is)
    (case isK_Piece_Push=>kit_is)
    (case isK_Piece_Hold=>kit_is)
    (case isK_Push_Piece=>kit_is)
    (case isK_Push_Hold=>kit_is)
    (case isK_Hold_Piece=>kit_is)
    (case isK_Hold_Push=>kit_is)
    (case pg_Net=>k_is)
    (case hd_Net=>k_is)
    (case po_Net=>k_is)
    (case sa_Net=>k_is)
    (case mk_Net=>k_is)
    (case kc_Net=>show _=_;k_is)
    (case t1_Net=>k_is)
    (case t4_Net=>k_is)
    (case na_Net_point_count=>k_is)
    (case na_Net_kept=>k_is)
    (case pg_Answer=>k_is)
    (case hd_Answer=>k_is)
    (case po_Answer=>k_is)
    (case sa_Answer=>k_is)
    (case mk_Answer=>k_is)
    (case kc_Answer=>show _=_;k_is)
    (case t1_Answer=>k_is)
    (case t4_Answer=>k_is)
    (case na_Answer_lines=>k_is)
    (case na_Answer_levels=>k_is)
    (case na_Answer_flows=>k_is)
    (case pg_Watch=>k_is)
    (case hd_Watch=>k_is)
    (case po_Watch=>k_is)
    (case sa_Watch=>k_is)
    (case mk_Watch=>k_is)
    (case kc_Watch=>show _=_;k_is)
    (case t1_Watch=>k_is)
    (case t4_Watch=>k_is)
    (case na_Watch_current=>k_is)
    (case na_Watch_followed=>k_is)
    (case z1=>k_is)
    (case z2=>k_is)
    (case z3=>k_is)
    (case z4=>k_is)
    (case z5=>k_is)
    (case z6=>k_is)
    (case z7=>k_is)
    (case z8=>k_is)
    (case z9=>k_is)
    (case z10=>k_is)
    (case z11=>k_is)
    (case z12=>k_is)
