import PyProof.Rows.All
import Wide.All
import OpenK.AllK
import Wide.FinOn
import Lean
import PyProof.EqAt
import PyProof.EqKinds
import PyProof.TupleCall
import PyProof.Cells
import PyProof.SumWalkG
import PyProof.EnumStmt
import PyProof.EnumMake
import PyProof.InstStoreFacts
import KE.KDictList
import PyProof.Rows.SeqMore2
import PyProof.Rows.SortWalk
import PySem.Challenge.RW_ohmyard_k58_tables_refused
set_option Elab.async false
set_option linter.all false
set_option maxRecDepth 100000
open PySem.W (Frag)
set_option maxHeartbeats 4000000
open List
namespace L2
open PySem PySem.Spec PyProof.Rows
abbrev Key:=Sum Int Str
def vT:Key->Value->Bool
 | .inl k,v=>Value.isInt k v
 | .inr x,v=>Value.isStrOf x v
def qh2 (w:World):Key->Int
 | .inl k=>hashInt k
 | .inr x=>hashStr w x
theorem dE:∀{k:Key} {v:Value},vT k v=true->(∃i t,k=Sum.inl i/\v=Value.int i t)\/(∃x t,k=Sum.inr x/\v=Value.str x t)
 | .inl i,v,h=>by
  obtain⟨t,e⟩:=Value.isInt_shape (k:=i) (v:=v) h;exact .inl ⟨i,t,rfl,e⟩
 | .inr x,v,h=>by
  obtain⟨t,e⟩:=Value.isStrOf_shape (x:=x) (v:=v) h;exact .inr ⟨x,t,rfl,e⟩
theorem Ii (i:Int)(t:Tok):vT (.inl i) (.int i t)=true:=by simp[vT,Value.isInt]
theorem Io (x:Str)(t:Tok):vT (.inr x) (.str x t)=true:=by simp[vT,Value.isStrOf]
theorem Vz (a b:Int):decide ((Sum.inl a:Key)=Sum.inl b)=(a == b):=by
 by_cases e:a=b
 ·subst e;simp
 ·have h:¬(Sum.inl a:Key)=Sum.inl b:=fun q=>e (Sum.inl.inj q);rw[decide_eq_false h];exact(beq_eq_false_iff_ne.mpr e).symm
theorem We (a b:Str):decide ((Sum.inr a:Key)=Sum.inr b)=decide (a=b):=by
 by_cases e:a=b
 ·subst e;simp
 ·have h:¬(Sum.inr a:Key)=Sum.inr b:=fun q=>e (Sum.inr.inj q);rw[decide_eq_false h,decide_eq_false e]
theorem Xn (a:Int)(b:Str):decide ((Sum.inl a:Key)=Sum.inr b)=false:=decide_eq_false (fun q=>nomatch q)
theorem Xc (a:Str)(b:Int):decide ((Sum.inr a:Key)=Sum.inl b)=false:=decide_eq_false (fun q=>nomatch q)
def dD (prog:Program)(w:World):PySem.KeyKind prog w Key where
 is:=vT
 hash:=qh2 w
 inj:=fun v a b ha hb=>by
  rcases dE ha with ⟨i,t,rfl,rfl⟩ | ⟨x,t,rfl,rfl⟩
  ·rcases dE hb with ⟨j,u,rfl,e⟩ | ⟨y,u,rfl,e⟩
   ·injection e with e1 _;rw[e1]
   ·exact nomatch e
  ·rcases dE hb with ⟨j,u,rfl,e⟩ | ⟨y,u,rfl,e⟩
   ·exact nomatch e
   ·injection e with e1 _;rw[e1]
 byValue:=fun k v h=>by
  rcases dE h with ⟨i,t,rfl,rfl⟩ | ⟨x,t,rfl,rfl⟩<;>rfl
 pyHash:=fun hv h=>by
  rcases dE hv with ⟨i,t,rfl,rfl⟩ | ⟨x,t,rfl,rfl⟩
  ·exact wpAny_pyHash_int h
  ·exact wpAny_pyHash_str h
 eqBool:=fun hu hv h=>by
  rcases dE hu with ⟨i,t,rfl,rfl⟩ | ⟨x,t,rfl,rfl⟩
  ·rcases dE hv with ⟨j,u,rfl,rfl⟩ | ⟨y,u,rfl,rfl⟩
   ·rw[Vz] at h;exact wpAny_eqBool_int h
   ·rw[Xn] at h;exact SeqAt.EqAt.int_str i t y u _ _ _ _ h
  ·rcases dE hv with ⟨j,u,rfl,rfl⟩ | ⟨y,u,rfl,rfl⟩
   ·rw[Xc] at h;exact SeqAt.EqAt.str_int x t j u _ _ _ _ h
   ·rw[We] at h;exact wpAny_eqBool_str h
 «strs»:=fun k x t v h=>by
  rcases dE h with ⟨i,u,rfl,e⟩ | ⟨y,u,rfl,e⟩
  ·exact nomatch e
  ·injection e with e1 _
   subst e1
   cases v<;>rfl
theorem Cc (prog:Program)(w:World)(i:Int)(t:Tok):(dD prog w).is (.inl i) (.int i t)=true:=Ii i t
theorem Bi (prog:Program)(w:World)(x:Str)(t:Tok):(dD prog w).is (.inr x) (.str x t)=true:=Io x t
inductive V where
 |non | bl (b:Bool) | int (i:Int) | str (x:Str) | byt (b:Array UInt8) | flt (b:UInt64) | ref (a:Addr) | ty (n:String)
 deriving DecidableEq
def bS:V->Value->Prop
 | .non,u=>u=Value.none
 | .bl b,u=>u=Value.bool b
 | .int i,u=>∃t,u=Value.int i t
 | .str x,u=>∃t,u=Value.str x t
 | .byt b,u=>∃t,u=Value.bytes b t
 | .flt b,u=>∃t,u=Value.float b t
 | .ref a,u=>u=Value.ref a
 | .ty n,u=>u=Value.type n
abbrev bL:List V->List Value->Prop:=Paired bS
theorem bL.length {xs:List V}{us:List Value}(r:bL xs us):xs.length=us.length:=Paired.length r
theorem bL.get:∀{xs:List V} {us:List Value} {i:Nat} {x:V},bL xs us->xs[i]?=some x->∃u,us[i]?=some u/\bS x u
 |_,_,_,_,.nil,e=>by simp at e
 |_,_,0,_,.cons r _,e=>by simp at e;subst e;exact⟨_,rfl,r⟩
 |_,_,i+1,x,.cons _ t,e=>by
  obtain⟨u,h1,h2⟩:=bL.get (i:=i) (x:=x) t (by simpa using e);exact⟨u,by simpa using h1,h2⟩
theorem bL.set {x:V}{u:Value}(r:bS x u):∀{xs:List V} {us:List Value} (i:Nat),bL xs us->bL (xs.set i x) (us.set i u)
 |_,_,_,.nil=>.nil
 |_,_,0,.cons _ t=>.cons r t
 |_,_,i+1,.cons q t=>.cons q (bL.set r i t)
theorem bL.append:∀{xs ys:List V} {us ws:List Value},bL xs us->bL ys ws->bL (xs++ys) (us++ws)
 |_,_,_,_,.nil,s=>s
 |_,_,_,_,.cons r t,s=>.cons r (bL.append t s)
theorem bL.take:∀{xs:List V} {us:List Value} (n:Nat),bL xs us->bL (xs.take n) (us.take n)
 |_,_,0,_=>.nil
 |_,_,_+1,.nil=>.nil
 |_,_,n+1,.cons r t=>.cons r (bL.take n t)
theorem bL.drop:∀{xs:List V} {us:List Value} (n:Nat),bL xs us->bL (xs.drop n) (us.drop n)
 |_,_,0,r=>r
 |_,_,_+1,.nil=>.nil
 |_,_,n+1,.cons _ t=>bL.drop n t
def iZ:Option V->Option Value->Prop
 |some v,some u=>bS v u
 |none,none=>True
 |_,_=>False
def KV {κ:Type}:List (κ × V)->List (κ × Value)->Prop:=Paired fun (p:κ × V) (q:κ × Value)=>p.1=q.1/\bS p.2 q.2
def kV:Key->V
 | .inl i=>.int i
 | .inr x=>.str x
inductive HO where
 |lst (xs:List V)
 |tup (xs:List V)
 |dK (kvs:List (Key × V)) | dT (kvs:List (List Key × V))
 |set (S:Int->Bool) (n:Nat)
 |ins (C dx:Addr) (fs:List (Str × V))
 |own (x:Addr)
 |xd (fs:List (Str × V))
 |met (f x:Addr)
 |rng (lo hi:Int)
 |frz (o:Obj) (u:HO)
 |tbl (ps:Array Value)
 |ext (φ:Heap->Prop)
abbrev Hp:=Addr->Option HO
def upd (H:Hp)(a:Addr)(o:HO):Hp:=fun b=>if b=a then some o else H b
theorem aB {H:Hp}{a:Addr}{o:HO}:upd H a o a=some o:=by unfold upd;rw[if_pos rfl]
theorem aM {H:Hp}{a b:Addr}{o:HO}(h:b≠a):upd H a o b=H b:=by unfold upd;rw[if_neg h]
theorem oU {H:Hp}{a:Addr}{o u:HO}:upd (upd H a o) a u=upd H a u:=by
 funext b;unfold upd;split<;>rfl
theorem kN {H:Hp}{a b:Addr}{o u:HO}(h:H a=some o)(h':H b=some u)(d:o≠u):a≠b:=by
 intro e;subst e;rw[h] at h';exact d (Option.some.inj h')
theorem bB {H:Hp}{a b:Addr}{o:HO}(h:H a=some o)(h':H b=none):a≠b:=by
 intro e;subst e;rw[h] at h';cases h'
section
variable (P:Program) (w:World)
def cD (H:Hp)(h:Heap)(a:Addr):HO->Prop
 | .lst xs=>xs.length<=sizeLine/\∃(its:List Value) (n:Nat),bL xs its/\h.get? a=some { cls:=.type "list",data:=.seq its.toArray n }
 | .tup xs=>xs.length<=sizeLine/\∃its:List Value,bL xs its/\IsTup h a its.toArray
 | .dK kvs=>kvs.length<=sizeLine/\(a == sysModules)=false/\∃vs,KV kvs vs/\h.DictOf (dD P w) a vs
 | .dT kvs=>kvs.length<=sizeLine/\(a == sysModules)=false/\∃xs:List (List Key × Addr × Value),
   Paired (fun (p:List Key × V) (q:List Key × Addr × Value)=>p.1=q.1/\H q.2.1=some (.tup (p.1.map kV))/\bS p.2 q.2.2) kvs xs/\
   ∃o es ep,h.get? a=some o/\o.ExactDict/\o.data=.dict es ep/\es.toList=xs.map (entryOfKey (tupleKind (dD P w)))/\(xs.map (·.1)).Nodup
 | .set S n=>h.SetOf (intKind P w) a S n
 | .ins C dx fs=>H dx=some (.own a)/\fs.length<=1000/\dx≠a/\h.get? a=some (W.instObj C dx)/\
   ∃mA,h.Ns1 dx mA/\(∀f,iZ (fs.lookup f) (mA f))/\PySem.Within mA (fs.map (·.1))
 | .own _=>∃o,h.get? a=some o
 | .xd fs=>∃mA,h.Ns1 a mA/\∀f,iZ (fs.lookup f) (mA f)
 | .rng lo hi=>∃t u v,h.get? a=some { cls:=.type "range",data:=.fields #[.int lo t,.int hi u,.int 1 v] }
 | .frz o u=>h.get? a=some o/\cD H h a u
 | .tbl ps=>h.get? a=some { cls:=.none,data:=.fields ps }
 | .met f x=>h.get? a=some (W.methodObj (.ref f) (.ref x))
 | .ext φ=>φ h/\(∃o,h.get? a=some o)/\∀h1 h2:Heap,φ h1->(∀o,h1.get? a=some o->h2.get? a=some o)->φ h2
def HOk (H:Hp)(h:Heap):Prop:=∀a o,H a=some o->cD P w H h a o
end
section
variable {P:Program} {w:World} {H H':Hp} {h h':Heap} {a:Addr} {o:HO}
theorem cD.lt (x:cD P w H h a o):a < h.objs.size:=by
 cases o with
 |lst xs=>obtain⟨_,_,_,_,e⟩:=x;exact Heap.lt_size e
 |tup xs=>obtain⟨_,_,_,p⟩:=x;exact p.lt
 |dK kvs=>obtain⟨_,_,_,_,o,_,_,e,_⟩:=x;exact Heap.lt_size e
 |dT kvs=>obtain⟨_,_,_,_,o,_,_,e,_⟩:=x;exact Heap.lt_size e
 |set S n=>obtain⟨o,_,_,_,e,_⟩:=x;exact Heap.lt_size e
 |ins C dx fs=>obtain⟨_,_,_,e,_⟩:=x;exact Heap.lt_size e
 |own y=>obtain⟨_,e⟩:=x;exact Heap.lt_size e
 |xd fs=>obtain⟨_,⟨_,_,_,e,_⟩,_⟩:=x;exact Heap.lt_size e
 |rng lo hi=>obtain⟨_,_,_,e⟩:=x;exact Heap.lt_size e
 |frz ob u=>obtain⟨e,_⟩:=x;exact Heap.lt_size e
 |tbl ps=>exact Heap.lt_size (show h.get? a=some _ from x)
 |met f y=>exact Heap.lt_size (show h.get? a=some _ from x)
 |ext φ=>obtain⟨_,⟨_,e⟩,_⟩:=x;exact Heap.lt_size e
theorem Paired.mapP {α β:Type}{F G:α->β->Prop}:∀{l₁:List α} {l₂:List β},Paired F l₁ l₂->(∀a b,F a b->G a b)->Paired G l₁ l₂
 |_,_,.nil,_=>.nil
 |_,_,.cons r t,f=>.cons (f _ _ r) (Paired.mapP t f)
theorem cD.stay (x:cD P w H h a o)(k:∀b u,(b=a\/H b=some (.own a))->h.get? b=some u->h'.get? b=some u)(ho:∀b,H b=some (.own a)->H' b=some (.own a))(ht:∀b xs,H b=some (.tup xs)->H' b=some (.tup xs)):cD P w H' h' a o:=by
 induction o with
 |lst xs=>obtain⟨z,its,n,r,e⟩:=x;exact⟨z,its,n,r,k _ _ (.inl rfl) e⟩
 |tup xs=>obtain⟨z,its,r,ob,e,c⟩:=x;exact⟨z,its,r,ob,k _ _ (.inl rfl) e,c⟩
 |dK kvs=>obtain⟨z,y,vs,r,ob,es,ep,e,c⟩:=x;exact⟨z,y,vs,r,ob,es,ep,k _ _ (.inl rfl) e,c⟩
 |dT kvs=>
  obtain⟨z,y,xs,r,ob,es,ep,e,c⟩:=x;exact⟨z,y,xs,Paired.mapP r fun p q z=>⟨z.1,ht _ _ z.2.1,z.2.2⟩,ob,es,ep,k _ _ (.inl rfl) e,c⟩
 |set S n=>obtain⟨ob,es,ep,t,e,c⟩:=x;exact⟨ob,es,ep,t,k _ _ (.inl rfl) e,c⟩
 |ins C dx fs=>
  obtain⟨d,z,ne,e,mA,⟨od,es,ep,e2,c⟩,r⟩:=x;exact⟨ho _ d,z,ne,k _ _ (.inl rfl) e,mA,⟨od,es,ep,k _ _ (.inr d) e2,c⟩,r⟩
 |own y=>obtain⟨ob,e⟩:=x;exact⟨ob,k _ _ (.inl rfl) e⟩
 |xd fs=>obtain⟨mA,⟨od,es,ep,e,c⟩,r⟩:=x;exact⟨mA,⟨od,es,ep,k _ _ (.inl rfl) e,c⟩,r⟩
 |rng lo hi=>obtain⟨t,u,v,e⟩:=x;exact⟨t,u,v,k _ _ (.inl rfl) e⟩
 |frz ob u ih=>obtain⟨e,q⟩:=x;exact⟨k _ _ (.inl rfl) e,ih q⟩
 |tbl ps=>
  have e:h.get? a=some { cls:=.none,data:=.fields ps }:=x;show h'.get? a=some { cls:=.none,data:=.fields ps };exact k a _ (.inl rfl) e
 |met f y=>
  have e:h.get? a=some (W.methodObj (.ref f) (.ref y)):=x;show h'.get? a=some (W.methodObj (.ref f) (.ref y));exact k a _ (.inl rfl) e
 |ext φ=>obtain⟨p,⟨o,e⟩,st⟩:=x;exact⟨st _ _ p fun o q=>k _ _ (.inl rfl) q,⟨o,k _ _ (.inl rfl) e⟩,st⟩
theorem HOk.lt (x:HOk P w H h)(e:H a=some o):a < h.objs.size:=(x a o e).lt
theorem HOk.fresh (x:HOk P w H h)(e:h.objs.size<=a):H a=none:=by
 cases q:H a with
 |none=>rfl
 |some u=>exact absurd (Nat.lt_of_lt_of_le (x.lt q) e) (Nat.lt_irrefl _)
theorem HOk.kept (x:HOk P w H h)(k:∀b u,h.get? b=some u->h'.get? b=some u):HOk P w H h':=fun a o e=>
 (x a o e).stay (fun b u _ q=>k b u q) (fun _ q=>q) fun _ _ q=>q
theorem HOk.laid (x:HOk P w H h)(k:∀b u,h.get? b=some u->h'.get? b=some u)(hp:h.objs.size<=a)(new:cD P w (upd H a o) h' a o):HOk P w (upd H a o) h':=fun b u e=>by
 have hn:=x.fresh hp
 by_cases hb:b=a
 ·subst hb;rw[aB] at e;cases e;exact new
 ·rw[aM hb] at e;exact(x b u e).stay (fun c v _ q=>k c v q) (fun c q=>by rw[aM (bB q hn)];exact q) fun c xs q=>by rw[aM (bB q hn)];exact q
end
def Rd (H:Hp)(a:Addr)(u:HO):Prop:=H a=some u\/∃o,H a=some (.frz o u)
theorem Rd.ok {P:Program}{w:World}{H:Hp}{h:Heap}{a:Addr}{u:HO}(r:Rd H a u)(x:HOk P w H h):cD P w H h a u:=by
 rcases r with r | ⟨o,r⟩
 ·exact x a u r
 ·obtain⟨_,q⟩:=x a _ r;exact q
def Mut:Option HO->Prop
 |some (.lst _)=>True
 |some (.dK _)=>True
 |some (.dT _)=>True
 |some (.set _ _)=>True
 |some (.ins _ _ _)=>True
 |some (.ext _)=>True
 |_=>False
section
variable {P:Program} {w:World} {H:Hp} {h h':Heap} {x e:Addr} {o':HO}
theorem HOk.write (ok:HOk P w H h)(mu:Mut (H x))(he:e=x\/H e=some (.own x))(k:∀b u,b≠e->h.get? b=some u->h'.get? b=some u)(heo:∃u,h'.get? e=some u)(new:cD P w (upd H x o') h' x o'):HOk P w (upd H x o') h':=fun b u q=>by
 have nown:∀c y,H c=some (.own y)->c≠x:=fun c y r z=>by subst z;rw[r] at mu;exact mu
 have ntup:∀c xs,H c=some (.tup xs)->c≠x:=fun c xs r z=>by subst z;rw[r] at mu;exact mu
 by_cases hb:b=x
 ·subst hb;rw[aB] at q;cases q;exact new
 ·rw[aM hb] at q
  by_cases hbe:b=e
  ·have q':H b=some (.own x):=by
    rcases he with z | z
    ·exact absurd (hbe.trans z) hb
    ·rw[hbe];exact z
   rw[q] at q';cases q';obtain⟨v,hv⟩:=heo;exact⟨v,by rw[hbe];exact hv⟩
  ·refine(ok b u q).stay (fun c v hc r=>k c v ?_ r) (fun c r=>by rw[aM (nown c b r)];exact r) fun c xs r=>by rw[aM (ntup c xs r)];exact r
   rcases hc with rfl | hc
   ·exact hbe
   ·rintro rfl;rcases he with z | z
    ·exact nown c b hc z
    ·rw[hc] at z;cases z;exact hb rfl
end
structure Un (fs ex:List Addr) (H H':Hp) (h h':Heap):Prop where
 keep:∀b o,h.get? b=some o->H b=none->b∉fs->b∉ex->h'.get? b=some o
 slot:∀b o,h.get? b=some o->H b=none->b∈fs->b∉ex->∃sl,h'.get? b=some { o with slots:=sl }
 free:∀b o,h.get? b=some o->H b=none->b∉ex->H' b=none
 there:∀b o,h.get? b=some o->b∉ex->∃o',h'.get? b=some o'
 tups:∀b xs,H b=some (.tup xs)->H' b=some (.tup xs)
 frzs:∀b o u,H b=some (.frz o u)->H' b=some (.frz o u)
 tbls:∀b ps,H b=some (.tbl ps)->∃more,H' b=some (.tbl (ps++more))
section
variable {fs fs' ex ex':List Addr} {H H1 H2:Hp} {h h1 h2 h':Heap} {a x e:Addr} {o:HO}
theorem Un.any (u:Un fs ex H H1 h h1){b:Addr}{ob:Obj}(q:h.get? b=some ob)(n:H b=none)(hx:b∉ex):∃sl,h1.get? b=some { ob with slots:=sl }:=by
 by_cases hb:b∈fs
 ·exact u.slot b ob q n hb hx
 ·exact⟨ob.slots,u.keep b ob q n hb hx⟩
theorem Un.kept (k:∀b u,h.get? b=some u->h'.get? b=some u):Un fs ex H H h h':=
 ⟨fun b ob q _ _ _=>k b ob q,fun b ob q _ _ _=>⟨ob.slots,k b ob q⟩,fun _ _ _ n _=>n,fun b ob q _=>⟨ob,k b ob q⟩,fun _ _ q=>q,fun _ _ _ q=>q,fun _ ps q=>⟨#[],by rw[q];simp⟩⟩
theorem Un.refl:Un fs ex H H h h:=Un.kept fun _ _ q=>q
theorem Un.laid (k:∀b u,h.get? b=some u->h'.get? b=some u)(hp:h.objs.size<=a)(hn:H a=none):Un fs ex H (upd H a o) h h' where
 keep:=fun b u q _ _ _=>k b u q
 slot:=fun b u q _ _ _=>⟨u.slots,k b u q⟩
 free:=fun b u q n _=>by rw[aM (Nat.ne_of_lt (Nat.lt_of_lt_of_le (Heap.lt_size q) hp))];exact n
 there:=fun b u q _=>⟨u,k b u q⟩
 tups:=fun b xs q=>by rw[aM (bB q hn)];exact q
 frzs:=fun b u xs q=>by rw[aM (bB q hn)];exact q
 tbls:=fun b ps q=>⟨#[],by rw[aM (bB q hn),q];simp⟩
theorem Un.write (mu:Mut (H x))(he:e=x\/H e=some (.own x))(k:∀b u,b≠e->h.get? b=some u->h'.get? b=some u)(heo:∃u,h'.get? e=some u):Un fs ex H (upd H x o) h h':=by
 have hx:∀b,H b=none->b≠x:=fun b n z=>by subst z;rw[n] at mu;exact mu
 have hb:∀b,H b=none->b≠e:=fun b n z=>by
  subst z;rcases he with r | r
  ·exact hx b n r
  ·rw[n] at r;cases r
 have hm:∀b u,H b=some u->¬Mut (some u)->b≠x:=fun b u q nm z=>by subst z;rw[q] at mu;exact nm mu
 refine⟨fun b u q n _ _=>k b u (hb b n) q,fun b u q n _ _=>⟨u.slots,k b u (hb b n) q⟩,fun b u q n _=>by rw[aM (hx b n)];exact n,fun b u q _=>?_,
  fun b xs q=>by rw[aM (hm b _ q fun z=>z)];exact q,fun b u xs q=>by rw[aM (hm b _ q fun z=>z)];exact q,fun b ps q=>⟨#[],by rw[aM (hm b _ q fun z=>z),q];simp⟩⟩
 by_cases hbe:b=e
 ·subst hbe;exact heo
 ·exact⟨u,k b u hbe q⟩
end
def trk (h:Heap)(H:Hp):List Addr:=(List.range h.objs.size).filter fun a=>(H a).isSome
def yV (h:Heap)(H:Hp):Heap:=W.hideAll h (trk h H)
theorem Kj (h:Heap)(H:Hp):(yV h H).objs.size=h.objs.size:=W.hideAll_size _ _
theorem Nj {h:Heap}{H:Hp}{b:Addr}{o:Obj}(e:h.get? b=some o)(n:H b=none):(yV h H).get? b=some o:=
 W.hideAll_get _ e fun hm=>by
  have q:(H b).isSome=true:=(mem_filter.mp hm).2;rw[n] at q;simp at q
theorem Qz {h:Heap}{H:Hp}{b:Addr}{o:Obj}(e:(yV h H).get? b=some o):h.get? b=some o/\H b=none:=by
 have e':h.get? b=some o:=W.of_hideAll (trk h H) e;refine⟨e',?_⟩
 cases q:H b with
 |none=>rfl
 |some x=>
  have hm:b∈trk h H:=mem_filter.mpr ⟨mem_range.mpr (Heap.lt_size e'),by simp[q]⟩;have z:(yV h H).get? b=none:=W.hideAll_none (trk h H) hm;rw[z] at e;cases e
structure Mod (K:Frag) (mg:Str->Option Value) (base:Heap):Prop where
 kin:K.In base
 glob:base.Ns mainGlobals mg
 blt:∃mb,base.Ns builtinsNs mb/\∀x:Str,x≠"__name__"->mb x=bootBuiltins x
 nolimit:base.NoLimit
structure Cx where
 prog:Program
 w:World
 K:Frag
 mg:Str->Option Value
 base:Heap
 A:Around
 N:List Str
 s₀:Shared
 H₀:Hp
 env:Env
 outer:List Env
 stack:List Env
 ex:List Addr
 fn:Str->Bool
 calm:Bool
 pn:List (Addr × Obj)
 xe:Value->Shared->Prop
def frs (l:List Env):List Addr:=l.filterMap (·.frame)
abbrev Cx.fs (X:Cx):List Addr:=frs X.outer
def Vis (sc:Scope)(x:Str):Prop:=sc.names.lookup x=some .local\/sc.names.lookup x=some .cell\/sc.names.lookup x=some .free
def Loc (sc:Scope)(x:Str):Prop:=sc.names.lookup x=some .local\/sc.names.lookup x=some .cell
def qd9 (env:Env)(h:Heap)(m:Str->Option Value)(x:Str)(u:Value):Prop:=
 (env.kindOf x=some .local/\m x=some u)\/((env.kindOf x=some .cell\/env.kindOf x=some .free)/\∃c,env.cells.lookup x=some c/\h.IsCell c (some u))
structure Cx.Ok (X:Cx):Prop where
 mod:Mod X.K X.mg X.base
 kind:X.env.scope.kind=.function
 glob:X.env.globals=mainGlobals
 blt:X.env.builtins=builtinsNs
 above:X.s₀.heap.objs.size<=X.env.locals
 inj:∀x y c,X.env.cells.lookup x=some c->X.env.cells.lookup y=some c->x=y
 has:∀x,(X.env.kindOf x=some .cell\/X.env.kindOf x=some .free)->∃c,X.env.cells.lookup x=some c
 cab:∀x c,X.fn x=true->X.env.cells.lookup x=some c->X.s₀.heap.objs.size<=c
 hd:X.calm=true->X.A.handled=none
 frames:X.A.frames=some X.stack
 stk:X.stack=X.outer\/(X.stack=X.env :: X.outer/\X.env.frame=some X.env.locals)
 exf:∀b∈X.ex,b≠X.env.locals/\∀x c,X.env.cells.lookup x=some c->c≠b
 bs:∀b o,X.base.get? b=some o->X.s₀.heap.get? b=some o/\X.H₀ b=none
 bsz:X.base.objs.size<=X.s₀.heap.objs.size
 noex:∀b o,X.base.get? b=some o->b∉X.ex
 exfs:∀b∈X.ex,b∉X.fs
 funs:X.s₀.heap.FunFrames X.base X.outer
 frf:∀b∈X.fs,X.H₀ b=none
structure Inv (X:Cx) (pins:List (Addr × Obj)) (σ:List (Option V)) (H:Hp) (s:Shared):Prop where
 ok:X.Ok
 os:s.os=X.s₀.os
 bare:AllBare s.gens
 base:Un X.fs X.ex X.H₀ H X.s₀.heap s.heap
 loc:∃m,s.heap.Ns X.env.locals m/\∀(i:Nat) (x:Str) (v:V),X.N[i]?=some x->σ[i]?=some (some v)->Vis X.env.scope x->∃u,bS v u/\qd9 X.env s.heap m x u
 cell:∀x c,X.env.cells.lookup x=some c->∃v,s.heap.IsCell c v
 free:H X.env.locals=none
 freeC:∀x c,X.env.cells.lookup x=some c->H c=none
 pin:∀p∈X.pn++pins,s.heap.get? p.1=some p.2/\H p.1=none/\p.1≠X.env.locals/\p.1∉X.fs/\∀v,p.2.data≠.cell v
 hok:HOk X.prog X.w H s.heap
 len:σ.length=X.N.length
section
variable {X:Cx} {pins:List (Addr × Obj)} {σ:List (Option V)} {H H':Hp} {s:Shared} {h':Heap}
theorem Cx.Ok.nofr (ok:X.Ok){b:Addr}{o:Obj}(e:X.base.get? b=some o):b∉X.fs:=fun hb=>by
 have:=(ok.funs.mem hb).1;rw[e] at this;cases this
theorem Inv.bs (I:Inv X pins σ H s):∀b o,X.base.get? b=some o->s.heap.get? b=some o/\H b=none:=fun b o e=>
 ⟨I.base.keep b o (I.ok.bs b o e).1 (I.ok.bs b o e).2 (I.ok.nofr e) (I.ok.noex b o e),I.base.free b o (I.ok.bs b o e).1 (I.ok.bs b o e).2 (I.ok.noex b o e)⟩
theorem Inv.bk (I:Inv X pins σ H s):∀b o,X.base.get? b=some o->s.heap.get? b=some o:=fun b o e=>(I.bs b o e).1
theorem Inv.mod (I:Inv X pins σ H s):Mod X.K X.mg X.base:=I.ok.mod
theorem Inv.kIn (I:Inv X pins σ H s):X.K.In s.heap:=I.ok.mod.kin.keeps I.bk
theorem Inv.lt (I:Inv X pins σ H s):X.env.locals < s.heap.objs.size:=let ⟨_,hn,_⟩:=I.loc;hn.lt
theorem Inv.sz (I:Inv X pins σ H s):X.s₀.heap.objs.size<=s.heap.objs.size:=Nat.le_trans I.ok.above (Nat.le_of_lt I.lt)
theorem Inv.nofs (I:Inv X pins σ H s){a:Addr}(h:s.heap.objs.size<=a):a∉X.fs:=fun hb=>by
 obtain⟨_,o,ho,_⟩:=I.ok.funs.mem hb;exact absurd (Nat.lt_of_lt_of_le (Heap.lt_size ho) (Nat.le_trans I.sz h)) (Nat.lt_irrefl _)
theorem Inv.cne (I:Inv X pins σ H s):∀x c,X.env.cells.lookup x=some c->c≠X.env.locals:=fun x c e z=>by
 obtain⟨v,o,ho,hd⟩:=I.cell x c e;obtain⟨m,⟨o',es,ep,ho',hd',_⟩,_⟩:=I.loc;rw[z,ho'] at ho;cases ho;rw[hd'] at hd;cases hd
theorem Inv.funs (I:Inv X pins σ H s):s.heap.FunFrames X.base X.outer:=by
 have all:∀(l:List Env),(∀b∈frs l,b∈X.fs)->X.s₀.heap.FunFrames X.base l->s.heap.FunFrames X.base l:=by
  intro l
  induction l with
  |nil=>intro _ _;trivial
  |cons env r ih=>
   intro hs hl;obtain⟨hk,⟨L,o,hf,hn,ho,hd⟩,hr⟩:=hl;have hL:L∈X.fs:=hs L (by unfold frs;rw[filterMap_cons,hf];exact mem_cons_self);obtain⟨sl,e⟩:=I.base.slot L o ho (I.ok.frf L hL) hL fun z=>I.ok.exfs L z hL;exact⟨hk,⟨L,_,hf,hn,e,hd⟩,ih (fun b hb=>hs b (by unfold frs;rw[filterMap_cons,hf];exact mem_cons_of_mem _ hb)) hr⟩
 exact all X.outer (fun _ hb=>hb) I.ok.funs
theorem Inv.stack (I:Inv X pins σ H s):s.heap.FunFrames X.base X.stack:=by
 rcases I.ok.stk with e | ⟨e,hf⟩
 ·rw[e];exact I.funs
 ·rw[e];obtain⟨m,hn,_⟩:=I.loc;refine .cons (by rw[I.ok.kind];decide) hf hn ?_ I.funs;exact Heap.get?_none_of_le (Nat.le_trans I.ok.bsz I.ok.above)
theorem Inv.stkSub (I:Inv X pins σ H s):∀b∈frs X.stack,b∈X.env.locals :: X.fs:=fun b hb=>by
 rcases I.ok.stk with e | ⟨e,hf⟩
 ·rw[e] at hb;exact mem_cons_of_mem _ hb
 ·rw[e] at hb;unfold frs at hb;rw[filterMap_cons,hf] at hb;exact hb
theorem Inv.stkFree (I:Inv X pins σ H s):∀b∈frs X.stack,H b=none:=fun b hb=>by
 rcases mem_cons.mp (I.stkSub b hb) with e | hb
 ·rw[e];exact I.free
 ·obtain⟨_,o,ho,_⟩:=I.ok.funs.mem hb;exact I.base.free b o ho (I.ok.frf b hb) fun z=>I.ok.exfs b z hb
theorem Inv.step {g':Array GenState}{t':Nat}{d':Drawn}{ch:List Addr}(I:Inv X pins σ H s)(hch:∀b∈ch,(b∈X.ex\/X.s₀.heap.objs.size<=b)/\b≠X.env.locals/\(∀x c,X.env.cells.lookup x=some c->c≠b)/\∀p∈X.pn++pins,p.1≠b)(keep:∀b o,b≠X.env.locals->b∉X.fs->b∉ch->s.heap.get? b=some o->H b=none->h'.get? b=some o)(slot:∀b o,b≠X.env.locals->b∈X.fs->b∉ch->s.heap.get? b=some o->H b=none->∃sl,h'.get? b=some { o with slots:=sl })(free:∀b o,b∉ch->s.heap.get? b=some o->H b=none->H' b=none)(there:∀b o,b∉ch->s.heap.get? b=some o->∃o',h'.get? b=some o')(tups:∀b xs,H b=some (.tup xs)->H' b=some (.tup xs))(frzs:∀b o u,H b=some (.frz o u)->H' b=some (.frz o u))(tbls:∀b ps,H b=some (.tbl ps)->∃more,H' b=some (.tbl (ps++more)))(ns:∀m,s.heap.Ns X.env.locals m->h'.Ns X.env.locals m)(hok:HOk X.prog X.w H' h')(hg:AllBare g') :
  Inv X pins σ H' { s with heap:=h',gens:=g',drawn:=d',toks:=t' }:=by
 have neL:∀b o,X.s₀.heap.get? b=some o->b≠X.env.locals:=fun b o e=>Nat.ne_of_lt (Nat.lt_of_lt_of_le (Heap.lt_size e) I.ok.above);have neC:∀b o,X.s₀.heap.get? b=some o->b∉X.ex->b∉ch:=fun b o e hx hb=>by
  rcases (hch b hb).1 with z | z
  ·exact hx z
  ·exact absurd (Nat.lt_of_lt_of_le (Heap.lt_size e) z) (Nat.lt_irrefl _)
 have cellK:∀x c,X.env.cells.lookup x=some c->∀v,s.heap.IsCell c v->h'.IsCell c v:=fun x c e v ⟨o,ho,hd⟩=>by
  have nch:c∉ch:=fun z=>(hch c z).2.2.1 x c e rfl
  by_cases hc:c∈X.fs
  ·obtain⟨sl,q⟩:=slot c o (I.cne x c e) hc nch ho (I.freeC x c e);exact⟨_,q,hd⟩
  ·exact⟨o,keep c o (I.cne x c e) hc nch ho (I.freeC x c e),hd⟩
 refine⟨I.ok,I.os,hg,⟨fun b o e n hb hx=>?_,fun b o e n hb hx=>?_,fun b o e n hx=>?_,fun b o e hx=>?_,fun b xs e=>tups b xs (I.base.tups b xs e),fun b o xs e=>frzs b o xs (I.base.frzs b o xs e),fun b ps e=>?_⟩,?_,fun x c e=>?_,?_,fun x c e=>?_,fun p hp=>?_,hok,I.len⟩
 ·exact keep b o (neL b o e) hb (neC b o e hx) (I.base.keep b o e n hb hx) (I.base.free b o e n hx)
 ·obtain⟨sl,e1⟩:=I.base.slot b o e n hb hx;obtain⟨sl',e2⟩:=slot b _ (neL b o e) hb (neC b o e hx) e1 (I.base.free b o e n hx);exact⟨sl',e2⟩
 ·obtain⟨o',e1⟩:=I.base.there b o e hx;exact free b o' (neC b o e hx) e1 (I.base.free b o e n hx)
 ·obtain⟨o',e1⟩:=I.base.there b o e hx;exact there b o' (neC b o e hx) e1
 ·obtain⟨m1,e1⟩:=I.base.tbls b ps e;obtain⟨m2,e2⟩:=tbls b _ e1;exact⟨m1++m2,by rw[e2,Array.append_assoc]⟩
 ·obtain⟨m,hn,hl⟩:=I.loc;refine⟨m,ns m hn,fun i x v e1 e2 e3=>?_⟩;obtain⟨u,r,l⟩:=hl i x v e1 e2 e3;refine⟨u,r,?_⟩;rcases l with l | ⟨k,c,e,z⟩
  ·exact .inl l
  ·exact .inr ⟨k,c,e,cellK x c e _ z⟩
 ·obtain⟨v,z⟩:=I.cell x c e;exact⟨v,cellK x c e v z⟩
 ·obtain⟨m,⟨o,_,_,ho,_⟩,_⟩:=I.loc;exact free _ o (fun z=>(hch _ z).2.1 rfl) ho I.free
 ·obtain⟨v,o,ho,hd⟩:=I.cell x c e;exact free c o (fun z=>(hch c z).2.2.1 x c e rfl) ho (I.freeC x c e)
 ·obtain⟨e,n,ne,nf,d⟩:=I.pin p hp;have nch:p.1∉ch:=fun z=>(hch p.1 z).2.2.2 p hp rfl;exact⟨keep p.1 p.2 ne nf nch e n,free p.1 p.2 nch e n,ne,nf,d⟩
theorem Inv.un {t':Nat}(I:Inv X pins σ H s)(u:Un X.fs [] H H' s.heap h')(hok:HOk X.prog X.w H' h'):Inv X pins σ H' { s with heap:=h',toks:=t' }:=by
 obtain⟨m,⟨o,es,ep,ho,r⟩,_⟩:=id I.loc;obtain⟨sl,hL⟩:=u.any ho I.free (by simp);exact I.step (g':=s.gens) (d':=s.drawn) (ch:=[]) (fun _ z=>nomatch z) (fun b o _ hb _ e n=>u.keep b o e n hb (by simp)) (fun b o _ hb _ e n=>u.slot b o e n hb (by simp)) (fun b o _ e n=>u.free b o e n (by simp)) (fun b o _ e=>u.there b o e (by simp)) u.tups u.frzs u.tbls (fun m' hm=>by
  obtain⟨o',es',ep',ho',r'⟩:=hm;rw[ho] at ho';cases ho';exact⟨_,es',ep',hL,r'⟩) hok I.bare
theorem Inv.call {g':Array GenState}{t':Nat}{d':Drawn}{ch:List Addr}(I:Inv X pins σ H s)(u:Un (frs X.stack) ch H H' s.heap h')(hok:HOk X.prog X.w H' h')(hg:AllBare g')(hch:∀b∈ch,(b∈X.ex\/X.s₀.heap.objs.size<=b)/\b≠X.env.locals/\(∀x c,X.env.cells.lookup x=some c->c≠b)/\∀p∈X.pn++pins,p.1≠b) :
  Inv X pins σ H' { s with heap:=h',gens:=g',drawn:=d',toks:=t' }:=by
 obtain⟨m,⟨o,es,ep,ho,r⟩,_⟩:=id I.loc;obtain⟨sl,hL⟩:=u.any ho I.free fun z=>(hch _ z).2.1 rfl;exact I.step (ch:=ch) hch (fun b o hL hb hc e n=>u.keep b o e n (fun z=>(mem_cons.mp (I.stkSub b z)).elim hL hb) hc) (fun b o _ _ hc e n=>u.any e n hc) (fun b o hc e n=>u.free b o e n hc) (fun b o hc e=>u.there b o e hc) u.tups u.frzs u.tbls (fun m' hm=>by
  obtain⟨o',es',ep',ho',r'⟩:=hm;rw[ho] at ho';cases ho';exact⟨_,es',ep',hL,r'⟩) hok hg
theorem Inv.turned {t':Nat}{it:Addr}(I:Inv X pins σ H s)(k:∀b o,b≠it->s.heap.get? b=some o->h'.get? b=some o)(hn:H it=none)(hL:it≠X.env.locals)(h1:it∈X.ex\/X.s₀.heap.objs.size<=it)(h2:∀x c,X.env.cells.lookup x=some c->c≠it)(h3:∀p∈X.pn++pins,p.1≠it):Inv X pins σ H { s with heap:=h',toks:=t' }:=by
 have nit:∀b u,H b=some u->b≠it:=fun b u e z=>by rw[z,hn] at e;cases e
 refine I.step (g':=s.gens) (d':=s.drawn) (ch:=[it]) (fun b hb=>?_) (fun b o _ _ hc e _=>k b o (fun z=>hc (by simp[z])) e) (fun b o _ _ hc e _=>⟨o.slots,k b o (fun z=>hc (by simp[z])) e⟩) (fun _ _ _ _ n=>n)
  (fun b o hc e=>⟨o,k b o (fun z=>hc (by simp[z])) e⟩) (fun _ _ e=>e) (fun _ _ _ e=>e) (fun b ps e=>⟨#[],by rw[e];simp⟩) (fun m hm=>?_) (fun b u e=>?_) I.bare
 ·have e:b=it:=by simpa using hb
  subst e;exact⟨h1,hL,h2,h3⟩
 ·obtain⟨o,es,ep,ho,r⟩:=hm;exact⟨o,es,ep,k _ o (Ne.symm hL) ho,r⟩
 ·refine(I.hok b u e).stay (fun c v hc q=>k c v ?_ q) (fun _ q=>q) fun _ _ q=>q;rcases hc with z | z
  ·rw[z];exact nit b u e
  ·exact nit c _ z
theorem Inv.tok (I:Inv X pins σ H s)(t:Nat):Inv X pins σ H { s with toks:=t }:=I.un (h':=s.heap) (t':=t) Un.refl I.hok
theorem Inv.kept {t':Nat}(I:Inv X pins σ H s)(k:∀b u,s.heap.get? b=some u->h'.get? b=some u):Inv X pins σ H { s with heap:=h',toks:=t' }:=I.un (Un.kept k) (I.hok.kept k)
theorem Inv.laid {a:Addr}{o:HO}{t':Nat}(I:Inv X pins σ H s)(k:∀b u,s.heap.get? b=some u->h'.get? b=some u)(hp:s.heap.objs.size<=a)(new:cD X.prog X.w (upd H a o) h' a o) :
  Inv X pins σ (upd H a o) { s with heap:=h',toks:=t' }:=I.un (Un.laid k hp (I.hok.fresh hp)) (I.hok.laid k hp new)
theorem Inv.write {x e:Addr}{o:HO}{t':Nat}(I:Inv X pins σ H s)(mu:Mut (H x))(he:e=x\/H e=some (.own x))(k:∀b u,b≠e->s.heap.get? b=some u->h'.get? b=some u)(heo:∃u,h'.get? e=some u)(new:cD X.prog X.w (upd H x o) h' x o):Inv X pins σ (upd H x o) { s with heap:=h',toks:=t' }:=I.un (Un.write mu he k heo) (I.hok.write mu he k heo new)
theorem Inv.weak {σ':List (Option V)}(I:Inv X pins σ H s)(hl:σ'.length=σ.length)(w:∀(i:Nat) v,σ'[i]?=some (some v)->σ[i]?=some (some v)):Inv X pins σ' H s:=
 ⟨I.ok,I.os,I.bare,I.base,let ⟨m,hn,hl'⟩:=I.loc;⟨m,hn,fun i x v e1 e2 e3=>hl' i x v e1 (w i v e2) e3⟩,I.cell,I.free,I.freeC,I.pin,I.hok,hl.trans I.len⟩
theorem Inv.pins_of {pins':List (Addr × Obj)}(I:Inv X pins σ H s)(h:∀p∈pins',s.heap.get? p.1=some p.2/\H p.1=none/\p.1≠X.env.locals/\p.1∉X.fs/\∀v,p.2.data≠.cell v):Inv X pins' σ H s:=
 ⟨I.ok,I.os,I.bare,I.base,I.loc,I.cell,I.free,I.freeC,fun p hp=>(mem_append.mp hp).elim (fun z=>I.pin p (mem_append_left _ z)) (h p),I.hok,I.len⟩
theorem uT {N:List Str}(hN:N.Nodup){i j:Nat}{x:Str}(a:N[i]?=some x)(b:N[j]?=some x):i=j:=by
 obtain⟨h1,e1⟩:=List.getElem?_eq_some_iff.mp a;obtain⟨h2,e2⟩:=List.getElem?_eq_some_iff.mp b;exact(getElem_inj hN).mp (e1.trans e2.symm)
theorem vW {M:Model}{A:Around}{E:Value->Shared->Prop}{i:Nat}{x:Str}{v:V}{u:Value}{Q:Unit->Shared->Prop}(I:Inv X pins σ H s)(hN:X.N.Nodup)(hi:X.N[i]?=some x)(hx:Loc X.env.scope x)(r:bS v u)(h:∀s',Inv X pins (σ.set i (some v)) H s'->(∃a,Heap.SameBut a s.heap s'.heap/\(a=X.env.locals\/X.env.cells.lookup x=some a))->Q () s')(hf:X.fn x=true\/X.env.scope.names.lookup x=some .local:=by first | exact .inl rfl | exact .inr rfl | assumption):wpAny M A (storeName X.env x u) Q E s:=by
 obtain⟨m,hn,hl⟩:=id I.loc;have hcls:(X.env.scope.kind == .class || (X.env.scope.kind == .module && X.env.locals != X.env.globals))=false:=by rw[I.ok.kind];rfl
 have hiσ:i < σ.length:=by rw[I.len];exact(List.getElem?_eq_some_iff.mp hi).1
 have cne:=I.cne;have tracked:∀{a:Addr} {h':Heap},(∃o,s.heap.get? a=some o/\H a=none)->Heap.SameBut a s.heap h'->HOk X.prog X.w H h':=fun {a h'} ha hs b ob e=>by
  obtain⟨_,_,hfree⟩:=ha;refine(I.hok b ob e).stay (fun c w' hc q=>(hs.2 c ?_).trans q) (fun _ q=>q) fun _ _ q=>q;rintro rfl;rcases hc with rfl | hc
  ·rw[hfree] at e;cases e
  ·rw[hfree] at hc;cases hc
 rcases hx with hk | hk
 ·refine wpAny_storeName_local hk hn (fun h' hn' hs=>?_) hcls;obtain⟨oL,_,_,hoL,_⟩:=id hn;refine h _ ⟨I.ok,I.os,I.bare,⟨fun b o e n hb hx=>?_,fun b o e n hb hx=>?_,I.base.free,fun b o e hx=>?_,I.base.tups,I.base.frzs,I.base.tbls⟩,⟨_,hn',fun j y v' e1 e2 e3=>?_⟩,fun y c e=>?_,I.free,I.freeC,fun p hp=>?_,tracked ⟨oL,hoL,I.free⟩ hs,by simpa using I.len⟩ ⟨_,hs,.inl rfl⟩
  ·exact(hs.2 b (Nat.ne_of_lt (Nat.lt_of_lt_of_le (Heap.lt_size e) I.ok.above))).trans (I.base.keep b o e n hb hx)
  ·obtain⟨sl,e1⟩:=I.base.slot b o e n hb hx;exact⟨sl,(hs.2 b (Nat.ne_of_lt (Nat.lt_of_lt_of_le (Heap.lt_size e) I.ok.above))).trans e1⟩
  ·obtain⟨o',e1⟩:=I.base.there b o e hx;exact⟨o',(hs.2 b (Nat.ne_of_lt (Nat.lt_of_lt_of_le (Heap.lt_size e) I.ok.above))).trans e1⟩
  ·by_cases hj:j=i
   ·subst hj;rw[hi] at e1;cases e1;rw[getElem?_set_self hiσ] at e2
    cases e2
    exact⟨u,r,.inl ⟨hk,by simp⟩⟩
   ·rw[getElem?_set_ne (Ne.symm hj)] at e2;obtain⟨u',r',q⟩:=hl j y v' e1 e2 e3;refine⟨u',r',?_⟩;rcases q with ⟨k,e⟩ | ⟨k,c,e,z⟩
    ·refine .inl ⟨k,?_⟩;have:y≠x:=fun e=>hj (uT hN e1 (e ▸ hi));simp[this,e]
    ·exact .inr ⟨k,c,e,z.sameBut hs (cne y c e)⟩
  ·obtain⟨w',z⟩:=I.cell y c e;exact⟨w',z.sameBut hs (cne y c e)⟩
  ·obtain⟨e,n,ne,nf,d⟩:=I.pin p hp;exact⟨(hs.2 p.1 ne).trans e,n,ne,nf,d⟩
 ·have hfn:X.fn x=true:=by
   rcases hf with z | z
   ·exact z
   ·rw[z] at hk;cases hk
  obtain⟨c,hc⟩:=I.ok.has x (.inl hk);obtain⟨w',z⟩:=I.cell x c hc;refine wpAny_storeName_cell I.ok.kind hk hc z (fun h' hc' hs=>?_);obtain⟨oc,hoc,hocd⟩:=id z;refine h { s with heap:=h' } ⟨I.ok,I.os,I.bare,⟨fun b o e n hb hx=>?_,fun b o e n hb hx=>?_,I.base.free,fun b o e hx=>?_,I.base.tups,I.base.frzs,I.base.tbls⟩,⟨m,hn.sameBut hs (Ne.symm (cne x c hc)),fun j y v' e1 e2 e3=>?_⟩,fun y c' e=>?_,I.free,I.freeC,fun p hp=>?_,tracked ⟨oc,hoc,I.freeC x c hc⟩ hs,by simpa using I.len⟩ ⟨c,hs,.inr hc⟩
  ·exact(hs.2 b (Nat.ne_of_lt (Nat.lt_of_lt_of_le (Heap.lt_size e) (I.ok.cab x c hfn hc)))).trans (I.base.keep b o e n hb hx)
  ·obtain⟨sl,e1⟩:=I.base.slot b o e n hb hx;exact⟨sl,(hs.2 b (Nat.ne_of_lt (Nat.lt_of_lt_of_le (Heap.lt_size e) (I.ok.cab x c hfn hc)))).trans e1⟩
  ·obtain⟨o',e1⟩:=I.base.there b o e hx;exact⟨o',(hs.2 b (Nat.ne_of_lt (Nat.lt_of_lt_of_le (Heap.lt_size e) (I.ok.cab x c hfn hc)))).trans e1⟩
  ·by_cases hj:j=i
   ·subst hj;rw[hi] at e1;cases e1;rw[getElem?_set_self hiσ] at e2
    cases e2
    exact⟨u,r,.inr ⟨.inl hk,c,hc,hc'⟩⟩
   ·rw[getElem?_set_ne (Ne.symm hj)] at e2;obtain⟨u',r',q⟩:=hl j y v' e1 e2 e3;refine⟨u',r',?_⟩;rcases q with q | ⟨k,c',e,z'⟩
    ·exact .inl q
    ·refine .inr ⟨k,c',e,z'.sameBut hs ?_⟩;rintro rfl;exact hj (uT hN e1 (I.ok.inj _ _ _ e hc ▸ hi))
  ·by_cases hcc:c'=c
   ·subst hcc;exact⟨_,hc'⟩
   ·obtain⟨w2,z2⟩:=I.cell y c' e;exact⟨w2,z2.sameBut hs hcc⟩
  ·obtain⟨e,n,ne,nf,d⟩:=I.pin p hp;refine⟨(hs.2 p.1 ?_).trans e,n,ne,nf,d⟩;intro q;rw[q,hoc] at e;have q':oc=p.2:=Option.some.inj e;exact d w' (by rw[<- q'];exact hocd)
theorem lM {M:Model}{A:Around}{E:Value->Shared->Prop}{i:Nat}{x:Str}{v:V}{u:Value}{Q:Unit->Shared->Prop}(I:Inv X pins σ H s)(hN:X.N.Nodup)(hi:X.N[i]?=some x)(hx:Loc X.env.scope x)(r:bS v u)(h:∀s',Inv X pins (σ.set i (some v)) H s'->Q () s')(hf:X.fn x=true\/X.env.scope.names.lookup x=some .local:=by first | exact .inl rfl | exact .inr rfl | assumption):wpAny M A (storeName X.env x u) Q E s:=
 vW I hN hi hx r (fun s' I' _=>h s' I') hf
theorem Inv.call' {s':Shared}{ch:List Addr}(I:Inv X pins σ H s)(ho:s'.os=s.os)(u:Un (frs X.stack) ch H H' s.heap s'.heap)(hok:HOk X.prog X.w H' s'.heap)(hg:AllBare s'.gens)(hch:∀b∈ch,(b∈X.ex\/X.s₀.heap.objs.size<=b)/\b≠X.env.locals/\(∀x c,X.env.cells.lookup x=some c->c≠b)/\∀p∈X.pn++pins,p.1≠b):Inv X pins σ H' s':=by
 obtain⟨h',g',d',t',o'⟩:=s';have e:o'=s.os:=ho;subst e;exact I.call (g':=g') (t':=t') (d':=d') u hok hg hch
end
abbrev XK:=Value->Option Addr->Hp->Prop
abbrev St:=List (Option V)
abbrev VK:=V->Hp->Prop
abbrev TE:=St->Hp->VK->Prop
abbrev TT:=St->Hp->(Bool->Hp->Prop)->Prop
abbrev TA:=St->Hp->(List V->Hp->Prop)->Prop
structure jX where
 nx:St->Hp->Prop
 rt:VK
 bk:St->Hp->Prop:=fun _ _=>False
 ct:St->Hp->Prop:=fun _ _=>False
abbrev TS:=jX->St->Hp->Prop
def EP (X:Cx)(pins:List (Addr × Obj))(σ:St)(Q:VK)(u:Value)(s':Shared):Prop:=∃v H',Inv X pins σ H' s'/\bS v u/\Q v H'
def TP (X:Cx)(pins:List (Addr × Obj))(σ:St)(Q:Bool->Hp->Prop)(b:Bool)(s':Shared):Prop:=∃H',Inv X pins σ H' s'/\Q b H'
def AP (X:Cx)(pins:List (Addr × Obj))(σ:St)(Q:List V->Hp->Prop)(us:List Value)(s':Shared):Prop:=∃vs H',Inv X pins σ H' s'/\bL vs us/\Q vs H'
def SP (X:Cx)(pins:List (Addr × Obj))(D:jX)(f:Flow)(s':Shared):Prop:=
 match f with
 | .next=>∃σ' H',Inv X pins σ' H' s'/\D.nx σ' H'
 | .brk=>∃σ' H',Inv X pins σ' H' s'/\D.bk σ' H'
 | .cont=>∃σ' H',Inv X pins σ' H' s'/\D.ct σ' H'
 | .ret u=>∃v σ' H',Inv X pins σ' H' s'/\bS v u/\D.rt v H'
def PE (X:Cx)(e:Expr)(t:TE):Prop:=
 ∀(pins:List (Addr × Obj)) (s:Shared) (σ:St) (H:Hp) (Q:VK),Inv X pins σ H s->t σ H Q->wpAny (model X.prog X.w) X.A (eval e X.env) (EP X pins σ Q) X.xe s
def PT (X:Cx)(e:Expr)(t:TT):Prop:=
 ∀(pins:List (Addr × Obj)) (s:Shared) (σ:St) (H:Hp) (Q:Bool->Hp->Prop),Inv X pins σ H s->t σ H Q->wpAny (model X.prog X.w) X.A (isTrue e X.env (eval e X.env)) (TP X pins σ Q) X.xe s
def PW (X:Cx)(e:Expr)(t:TT):Prop:=
 ∀(whole:Sem Value) (pins:List (Addr × Obj)) (s:Shared) (σ:St) (H:Hp) (Q:Bool->Hp->Prop),Inv X pins σ H s->t σ H Q->wpAny (model X.prog X.w) X.A (isTrue e X.env whole) (TP X pins σ Q) X.xe s
theorem PW.pt {X:Cx}{e:Expr}{t:TT}(h:PW X e t):PT X e t:=h _
def PA (X:Cx)(es:List Expr)(t:TA):Prop:=
 ∀(pos:Pos) (pins:List (Addr × Obj)) (s:Shared) (σ:St) (H:Hp) (Q:List V->Hp->Prop),Inv X pins σ H s->t σ H Q->wpAny (model X.prog X.w) X.A (spliced (backTo pos (starEach es X.env))) (AP X pins σ Q) X.xe s
def PS (X:Cx)(st:Stmt)(t:TS):Prop:=
 ∀(pins:List (Addr × Obj)) (s:Shared) (σ:St) (H:Hp) (D:jX),Inv X pins σ H s->t D σ H->wpAny (model X.prog X.w) X.A (exec st X.env) (SP X pins D) X.xe s
def PSs (X:Cx)(st:List Stmt)(t:TS):Prop:=
 ∀(pins:List (Addr × Obj)) (s:Shared) (σ:St) (H:Hp) (D:jX),Inv X pins σ H s->t D σ H->wpAny (model X.prog X.w) X.A (execs st X.env) (SP X pins D) X.xe s
theorem thn {α:Type}{t:Sem α}{Q Q':α->Shared->Prop}{M:Model}{A:Around}{E:Value->Shared->Prop}{s:Shared}(h:wpAny M A t Q E s)(hQ:∀a s,Q a s->Q' a s):wpAny M A t Q' E s:=wpAny_mono h hQ fun _ _ x=>x
section
variable {X:Cx}
def Up (i:Nat):TE:=fun σ H Q=>∃v,σ[i]?=some (some v)/\Q v H
def tC (v:V):TE:=fun _ H Q=>Q v H
theorem Mt {i:Nat}{x:Str}{pos:Pos}(hN:X.N[i]?=some x)(hv:Vis X.env.scope x)(hd:(x == ("__debug__":Str))=false:=by decide)(hcd:(x == ("__classdict__":Str))=false:=by decide):PE X (.Name x pos) (Up i):=by
 intro pins s σ H Q I h;obtain⟨v,e,h⟩:=h;obtain⟨m,hn,hl⟩:=I.loc;obtain⟨u,r,l⟩:=hl i x v hN e hv;have fin:EP X pins σ Q u s:=⟨v,H,I,r,h⟩
 rcases l with ⟨hk,hm⟩ | ⟨hk,c,hc,hcell⟩
 ·exact wpAny_Name (wpAny_loadName_local I.ok.kind hk hn hm fin) hd
 ·rcases hk with hk | hk
  ·exact wpAny_Name (wpAny_loadName_cell I.ok.kind hk hc hcell fin) hd
  ·exact wpAny_Name (wpAny_loadName_free I.ok.kind hk hc hcell fin hcd) hd
theorem aG {i j pos}:PE X (.Constant (.int i) j pos) (tC (.int i)):=fun _ _ _ H _ I h=>wpAny_Constant_int ⟨.int i,H,I.tok _,⟨_,rfl⟩,h⟩
theorem fM {b j pos}:PE X (.Constant (.bool b) j pos) (tC (.bl b)):=fun _ _ _ H _ I h=>Constant_bool ⟨.bl b,H,I,rfl,h⟩
theorem yT {j pos}:PE X (.Constant .none j pos) (tC .non):=fun _ _ _ H _ I h=>Constant_none ⟨.non,H,I,rfl,h⟩
theorem bV {x j pos}:PE X (.Constant (.str x) j pos) (tC (.str x)):=fun _ _ _ H _ I h=>Calls.Constant_str ⟨.str x,H,I.tok _,⟨_,rfl⟩,h⟩
def Gl (X:Cx)(x:Str):Prop:=X.env.kindOf x=some .globalImplicit
theorem iR {E:Value->Shared->Prop}{pins:List (Addr × Obj)}{s:Shared}{σ:St}{H:Hp}{x:Str}{u:Value}{pos:Pos}{Q:Value->Shared->Prop}(I:Inv X pins σ H s)(hg:Gl X x)(hm:X.mg x=some u)(h:Q u s)(hd:(x == ("__debug__":Str))=false:=by decide):wpAny (model X.prog X.w) X.A (eval (.Name x pos) X.env) Q E s:=
 Calls.Name_function_global I.ok.kind hg (Calls.loadGlobal_global (by rw[I.ok.glob];exact I.mod.glob.keeps I.bk) hm h) hd
theorem gJ {E:Value->Shared->Prop}{pins:List (Addr × Obj)}{s:Shared}{σ:St}{H:Hp}{x:Str}{u:Value}{pos:Pos}{Q:Value->Shared->Prop}(I:Inv X pins σ H s)(hg:Gl X x)(hm:X.mg x=none)(hv:bootBuiltins x=some u)(h:Q u s)(hn:x≠"__name__":=by decide)(hd:(x == ("__debug__":Str))=false:=by decide):wpAny (model X.prog X.w) X.A (eval (.Name x pos) X.env) Q E s:=by
 obtain⟨mb,h1,h2⟩:=I.mod.blt;exact Calls.Name_function_global I.ok.kind hg (Calls.loadGlobal_builtin (by rw[I.ok.glob];exact I.mod.glob.keeps I.bk) hm (by rw[I.ok.blt];exact h1.keeps I.bk) ((h2 x hn).trans hv) h) hd
theorem eV {x:Str}{v:V}{u:Value}{pos:Pos}(hg:Gl X x)(hm:X.mg x=some u)(r:bS v u)(hd:(x == ("__debug__":Str))=false:=by decide):PE X (.Name x pos) (tC v):=
 fun _ _ _ H _ I h=>iR I hg hm ⟨v,H,I,r,h⟩ hd
theorem Qp {x:Str}{v:V}{u:Value}{pos:Pos}(hg:Gl X x)(hm:X.mg x=none)(hv:bootBuiltins x=some u)(r:bS v u)(hn:x≠"__name__":=by decide)(hd:(x == ("__debug__":Str))=false:=by decide):PE X (.Name x pos) (tC v):=
 fun _ _ _ H _ I h=>gJ I hg hm hv ⟨v,H,I,r,h⟩ hn hd
variable {a b:Expr} {ta tb:TE} {pos:Pos}
def PC (X:Cx)(op:CmpOp)(a b:Expr)(t:TE):Prop:=
 ∀(pins:List (Addr × Obj)) (s:Shared) (σ:St) (H:Hp) (Q:VK),Inv X pins σ H s->t σ H Q->
  wpAny (model X.prog X.w) X.A (eval a X.env) (fun v s₁=>wpAny (model X.prog X.w) X.A (eval b X.env) (fun u s₂=>wpAny (model X.prog X.w) X.A (compareOp op v u) (EP X pins σ Q) X.xe s₂) X.xe s₁) X.xe s
theorem Ly (b:Expr){op:CmpOp}(h:op≠.In)(h2:op≠.NotIn):behindInMarks op b=false:=by
 have e1:(op == CmpOp.In)=false:=by cases op<;>first | rfl | exact absurd rfl h
 have e2:(op == CmpOp.NotIn)=false:=by cases op<;>first | rfl | exact absurd rfl h2
 cases b<;>simp[behindInMarks,e1,e2]
def qe2 (ta:TE):TE:=fun σ H Q=>ta σ H fun x H1=>Q (.bl (decide (x=.non))) H1
theorem bS.none_iff {x:V}{v:Value}(r:bS x v):(v == Value.none)=decide (x=.non):=by
 cases x with
 |non=>cases r;rfl
 |bl _=>cases r;rfl
 |int _=>obtain⟨t,rfl⟩:=r;rfl
 |str _=>obtain⟨t,rfl⟩:=r;rfl
 |byt _=>obtain⟨t,rfl⟩:=r;rfl
 |flt _=>obtain⟨t,rfl⟩:=r;rfl
 |ref _=>cases r;rfl
 |ty _=>cases r;rfl
theorem Xo {j pos'}(ha:PE X a ta):PC X .Is a (.Constant .none j pos') (qe2 ta):=by
 intro pins s σ H Q I h;refine thn (ha pins s σ H _ I h) fun v s1 ⟨x,H1,I1,r1,q1⟩=>?_;exact Constant_none (is_none_gen ⟨.bl _,H1,I1,by rw[r1.none_iff];rfl,q1⟩)
def tB (t:TE):TT:=fun σ H Q=>t σ H fun x H1=>∃c,x=.bl c/\Q c H1
theorem Ws {op:CmpOp}{t:TE}(h:PC X op a b t)(h1:behindInMarks op b=false:=by first | exact Ly _ (by decide) (by decide) | rfl):PT X (.Compare a [op] [b] pos) (tB t):=by
 intro pins s σ H Q I hw;refine wpAny_isTrue_Compare1 (thn (h pins s σ H _ I hw) fun v s1 h1=>thn h1 fun u s2 h2=>thn h2 fun c s3 ⟨x,H1,I1,r1,q1⟩=>?_) h1;obtain⟨d,rfl,q⟩:=q1
 cases r1
 exact wpAny_truthy_bool ⟨H1,I1,q⟩
theorem cY {e:Expr}{t:TE}(h:PE X e t)(he:∀whole,isTrue e X.env whole=(do let v <- whole;standAt e.pos;holding [v] (truthy v)):=by intro _;rfl):PT X e (tB t):=by
 intro pins s σ H Q I hw;refine isTrue_plain (thn (h pins s σ H _ I hw) fun v s1 ⟨x,H1,I1,r1,q1⟩=>?_) (he _);obtain⟨d,rfl,q⟩:=q1
 cases r1
 exact wpAny_truthy_bool ⟨H1,I1,q⟩
variable {tA tB':TT} {rest:List Expr}
def qf1 (t u:TT):TT:=fun σ H Q=>t σ H fun c H1=>if c=true then u σ H1 Q else Q false H1
def tOr (t u:TT):TT:=fun σ H Q=>t σ H fun c H1=>if c=true then Q true H1 else u σ H1 Q
def qg1 (t:TT):TT:=fun σ H Q=>t σ H fun c H1=>Q (!c) H1
theorem lS (ha:PT X a tA):PW X (.BoolOp .And [a] pos) tA:=by
 intro wh pins s σ H Q I h;refine isTrue_and (thn (ha pins s σ H Q I h) fun c s1 e=>?_)
 cases c with
 |true=>exact isTrue_and_nil e
 |false=>exact e
theorem nJ (ha:PT X a tA):PW X (.BoolOp .Or [a] pos) tA:=by
 intro wh pins s σ H Q I h;refine isTrue_or (thn (ha pins s σ H Q I h) fun c s1 e=>?_)
 cases c with
 |false=>exact isTrue_or_nil e
 |true=>exact e
theorem pS (ha:PT X a tA)(hb:PW X (.BoolOp .And (b :: rest) pos) tB'):PW X (.BoolOp .And (a :: b :: rest) pos) (qf1 tA tB'):=by
 intro wh pins s σ H Q I h;refine isTrue_and (thn (ha pins s σ H _ I h) fun c s1 ⟨H1,I1,q1⟩=>?_)
 cases c with
 |true=>exact hb wh pins s1 σ H1 Q I1 q1
 |false=>exact⟨H1,I1,q1⟩
theorem mX (ha:PT X a tA)(hb:PW X (.BoolOp .Or (b :: rest) pos) tB'):PW X (.BoolOp .Or (a :: b :: rest) pos) (tOr tA tB'):=by
 intro wh pins s σ H Q I h;refine isTrue_or (thn (ha pins s σ H _ I h) fun c s1 ⟨H1,I1,q1⟩=>?_)
 cases c with
 |true=>exact⟨H1,I1,q1⟩
 |false=>exact hb wh pins s1 σ H1 Q I1 q1
theorem fA (ha:PT X a tA):PT X (.UnaryOp .Not a pos) (qg1 tA):=by
 intro pins s σ H Q I h;exact isTrue_not (ha pins s σ H (fun c H1=>Q (!c) H1) I h)
def qc0 (ta tb:TE):TE:=fun σ H Q=>ta σ H fun x H1=>∃c,x=.bl c/\if c=true then tb σ H1 Q else Q (.bl false) H1
def Zg (ta:TE):TE:=fun σ H Q=>ta σ H fun x H1=>∃c,x=.bl c/\Q (.bl (!c)) H1
theorem nY {op}{t:TE}(h:PE X a t):PE X (.BoolOp op [a] pos) t:=fun pins s σ H Q I hw=>BoolOp_one (h pins s σ H Q I hw)
theorem jZ (ha:PE X a ta)(hb:PE X (.BoolOp .And (b :: rest) pos) tb):PE X (.BoolOp .And (a :: b :: rest) pos) (qc0 ta tb):=by
 intro pins s σ H Q I h;refine BoolOp_and (thn (ha pins s σ H _ I h) fun v s1 ⟨x,H1,I1,r1,q1⟩=>?_);obtain⟨c,rfl,q1⟩:=q1
 cases r1
 refine wpAny_truthy_bool ?_
 cases c with
 |true=>exact hb pins s1 σ H1 Q I1 q1
 |false=>exact⟨.bl false,H1,I1,rfl,q1⟩
theorem Xd (ha:PE X a ta):PE X (.UnaryOp .Not a pos) (Zg ta):=by
 intro pins s σ H Q I h;refine UnaryOp_ (thn (ha pins s σ H _ I h) fun v s1 ⟨x,H1,I1,r1,q1⟩=>?_);obtain⟨c,rfl,q1⟩:=q1
 cases r1
 exact not_of (wpAny_truthy_bool ⟨.bl (!c),H1,I1,rfl,q1⟩)
def tIf (t:TT)(ta tb:TE):TE:=fun σ H Q=>t σ H fun c H1=>if c=true then ta σ H1 Q else tb σ H1 Q
theorem uI {c:Expr}(hc:PT X c tA)(ha:PE X a ta)(hb:PE X b tb):PE X (.IfExp c a b pos) (tIf tA ta tb):=by
 intro pins s σ H Q I h;refine wpAny_IfExp (thn (hc pins s σ H _ I h) fun d s1 ⟨H1,I1,q1⟩=>?_)
 cases d with
 |true=>exact ha pins s1 σ H1 Q I1 q1
 |false=>exact hb pins s1 σ H1 Q I1 q1
end
def SqL (K:Frag)(H:Hp)(a:Addr)(xs:List V):Prop:=
 Rd H a (.lst xs)\/
  ∃(o:Obj) (its:Array Value) (n:Nat),K.lookup a=some o/\o.cls=.type "list"/\o.dict=none/\o.data=.seq its n/\its.size<=sizeLine/\bL xs its.toList
def SqT (K:Frag)(H:Hp)(a:Addr)(xs:List V):Prop:=
 Rd H a (.tup xs)\/
  ∃(o:Obj) (its:Array Value) (n:Nat),K.lookup a=some o/\o.cls=.type "tuple"/\o.data=.seq its n/\its.size<=sizeLine/\bL xs its.toList
def qg8:Value->Option V
 | .none=>some .non
 | .bool b=>some (.bl b)
 | .int i _=>some (.int i)
 | .str x _=>some (.str x)
 | .bytes b _=>some (.byt b)
 | .float b _=>some (.flt b)
 | .ref a=>some (.ref a)
 | .type n=>some (.ty n)
 |_=>none
theorem bS.abs {x:V}{u:Value}(r:bS x u):qg8 u=some x:=by
 cases x with
 |non=>cases r;rfl
 |bl _=>cases r;rfl
 |int _=>obtain⟨t,rfl⟩:=r;rfl
 |str _=>obtain⟨t,rfl⟩:=r;rfl
 |byt _=>obtain⟨t,rfl⟩:=r;rfl
 |flt _=>obtain⟨t,rfl⟩:=r;rfl
 |ref _=>cases r;rfl
 |ty _=>cases r;rfl
theorem bS.inj {x y:V}{u:Value}(r:bS x u)(q:bS y u):x=y:=Option.some.inj (r.abs.symm.trans q.abs)
theorem bL.inj:∀{xs ys:List V} {us:List Value},bL xs us->bL ys us->xs=ys
 |_,_,_,.nil,.nil=>rfl
 |_,_,_,.cons r t,.cons r' t'=>by rw[r.inj r',bL.inj t t']
section
variable {X:Cx} {pins:List (Addr × Obj)} {σ:St} {H:Hp} {s:Shared} {a:Addr} {xs ys:List V}
theorem SqL.of {K:Frag}(h:H a=some (.lst xs)):SqL K H a xs:=.inl (.inl h)
theorem SqT.of {K:Frag}(h:H a=some (.tup xs)):SqT K H a xs:=.inl (.inl h)
theorem Inv.list (I:Inv X pins σ H s)(h:SqL X.K H a xs):∃its:List Value,bL xs its/\PlainL s.heap a its.toArray/\xs.length<=sizeLine:=by
 rcases h with h | ⟨o,its,n,hk,hc,hd,hs,hz,r⟩
 ·obtain⟨z,its,n,r,e⟩:=h.ok I.hok;exact⟨its,r,⟨_,n,e,rfl,rfl,rfl⟩,z⟩
 ·refine⟨its.toList,r,⟨o,n,I.kIn a o hk,hc,hd,by simpa using hs⟩,?_⟩;have e:=r.length;simp only[Array.length_toList] at e;lia
theorem Inv.tuple (I:Inv X pins σ H s)(h:SqT X.K H a xs):∃its:List Value,bL xs its/\IsTup s.heap a its.toArray/\xs.length<=sizeLine:=by
 rcases h with h | ⟨o,its,n,hk,hc,hs,hz,r⟩
 ·obtain⟨z,its,r,p⟩:=h.ok I.hok;exact⟨its,r,p,z⟩
 ·refine⟨its.toList,r,⟨o,I.kIn a o hk,hc,n,by simpa using hs⟩,?_⟩;have e:=r.length;simp only[Array.length_toList] at e;lia
theorem Inv.list_inj (I:Inv X pins σ H s)(h:SqL X.K H a xs)(h':SqL X.K H a ys):xs=ys:=by
 obtain⟨its,r,⟨o,n,e,_,_,d⟩,_⟩:=I.list h;obtain⟨its',r',⟨o',n',e',_,_,d'⟩,_⟩:=I.list h';rw[e] at e';cases e';rw[d] at d';injection d' with d1 _
 have:its=its':=by simpa using congrArg Array.toList d1
 subst this;exact r.inj r'
end
abbrev Cx.wish (X:Cx)(E:Value->Shared->Prop):Cx:={ X with xe:=E }
abbrev Cx.nox (X:Cx):Cx:=X.wish fun _ _=>False
theorem Cx.Ok.wish {X:Cx}(ok:X.Ok)(E:Value->Shared->Prop):(X.wish E).Ok:=
 ⟨ok.mod,ok.kind,ok.glob,ok.blt,ok.above,ok.inj,ok.has,ok.cab,ok.hd,ok.frames,ok.stk,ok.exf,ok.bs,ok.bsz,ok.noex,ok.exfs,ok.funs,ok.frf⟩
theorem Cx.Ok.unwish {X:Cx}{E:Value->Shared->Prop}(ok:(X.wish E).Ok):X.Ok:=
 ⟨ok.mod,ok.kind,ok.glob,ok.blt,ok.above,ok.inj,ok.has,ok.cab,ok.hd,ok.frames,ok.stk,ok.exf,ok.bs,ok.bsz,ok.noex,ok.exfs,ok.funs,ok.frf⟩
section
variable {X:Cx} {pins:List (Addr × Obj)} {σ:St} {H:Hp} {s:Shared} {E:Value->Shared->Prop}
theorem Inv.wish (I:Inv X pins σ H s)(E:Value->Shared->Prop):Inv (X.wish E) pins σ H s:=⟨I.ok.wish E,I.os,I.bare,I.base,I.loc,I.cell,I.free,I.freeC,I.pin,I.hok,I.len⟩
theorem Inv.unwish (I:Inv (X.wish E) pins σ H s):Inv X pins σ H s:=⟨I.ok.unwish,I.os,I.bare,I.base,I.loc,I.cell,I.free,I.freeC,I.pin,I.hok,I.len⟩
theorem SP.unwish {D:jX}{f:Flow}{s':Shared}(h:SP (X.wish E) pins D f s'):SP X pins D f s':=by
 cases f with
 |next=>obtain⟨σ',H',I,q⟩:=h;exact⟨σ',H',I.unwish,q⟩
 |brk=>obtain⟨σ',H',I,q⟩:=h;exact⟨σ',H',I.unwish,q⟩
 |cont=>obtain⟨σ',H',I,q⟩:=h;exact⟨σ',H',I.unwish,q⟩
 |ret u=>obtain⟨v,σ',H',I,r,q⟩:=h;exact⟨v,σ',H',I.unwish,r,q⟩
theorem PSs.nox {st:List Stmt}{t:TS}(h:PSs X.nox st t):PSs X st t:=fun pins s σ H D I hw=>
 wpAny_mono (h pins s σ H D (I.wish _) hw) (fun _ _ q=>q.unwish) fun _ _ z=>False.elim z
end
section
variable {X:Cx} {st:Stmt} {rest:List Stmt} {t u:TS} {e:Expr} {te:TE} {pos:Pos}
def qd2:TS:=fun D σ H=>D.nx σ H
def jI (t u:TS):TS:=fun D σ H=>t { D with nx:=u D } σ H
theorem bM:PSs X [] qd2:=fun _ _ σ H _ I h=>wpAny_execs_nil ⟨σ,H,I,h⟩
theorem aE (h1:PS X st t)(h2:PSs X rest u):PSs X (st :: rest) (jI t u):=by
 intro pins s σ H D I h;refine wpAny_execs_cons (thn (h1 pins s σ H { D with nx:=u D } I h) fun f s1 q=>?_)
 cases f with
 |next=>
  obtain⟨σ',H',I',q⟩:=q;exact h2 pins s1 σ' H' D I' q
 |ret v=>exact q
 |brk=>exact q
 |cont=>exact q
theorem aF (h1:PS X st t):PSs X [st] t:=by
 intro pins s σ H D I h;refine wpAny_execs_cons (thn (h1 pins s σ H D I h) fun f s1 q=>?_)
 cases f with
 |next=>exact wpAny_execs_nil q
 |ret v=>exact q
 |brk=>exact q
 |cont=>exact q
def Zm:TS:=fun D σ H=>D.ct σ H
theorem zV:PS X (.Continue pos) Zm:=fun _ _ σ H _ I h=>wpAny_Continue ⟨σ,H,I,h⟩
theorem Inv.quiet {pins:List (Addr × Obj)}{σ:St}{H:Hp}{s:Shared}(I:Inv X pins σ H s):interactive X.env=false:=by simp[interactive,I.ok.kind]
def qb2 (te:TE):TS:=fun D σ H=>te σ H fun _ H1=>D.nx σ H1
theorem cG (he:PE X e te)(hs:swapsWith e none pos.line X.env=pure false:=by rfl):PS X (.Expr e pos) (qb2 te):=by
 intro pins s σ H D I h;exact wpAny_Expr_any (thn (he pins s σ H _ I h) fun v s1 ⟨x,H1,I1,r1,q1⟩=>⟨σ,H1,I1,q1⟩) I.quiet hs
def qf9 (te:TE):TS:=fun D σ H=>te σ H D.rt
theorem aX (he:PE X e te):PS X (.Return (some e) pos) (qf9 te):=by
 intro pins s σ H D I h;exact wpAny_Return_some (thn (he pins s σ H _ I h) fun v s1 ⟨x,H1,I1,r1,q1⟩=>⟨x,σ,H1,I1,r1,q1⟩)
def qf3 (c:TT)(t u:TS):TS:=fun D σ H=>c σ H fun b H1=>if b=true then t D σ H1 else u D σ H1
theorem cS {c:Expr}{a b:List Stmt}{tc:TT}(hc:PT X c tc)(ha:PSs X a t)(hb:PSs X b u):PS X (.If c a b pos) (qf3 tc t u):=by
 intro pins s σ H D I h;refine wpAny_If (thn (hc pins s σ H _ I h) fun d s1 ⟨H1,I1,q1⟩=>?_)
 cases d with
 |true=>exact ha pins s1 σ H1 D I1 q1
 |false=>exact hb pins s1 σ H1 D I1 q1
def Ng:TS:=fun _ _ _=>False
theorem iI:PS X st Ng:=fun _ _ _ _ _ _ h=>h.elim
theorem Iz {sts:List Stmt}:PSs X sts Ng:=fun _ _ _ _ _ _ h=>h.elim
end
abbrev TG:=V->St->Hp->(St->Hp->Prop)->Prop
abbrev TGs:=List V->St->Hp->(St->Hp->Prop)->Prop
def PG (X:Cx)(target:Expr)(t:TG):Prop:=
 ∀(pins:List (Addr × Obj)) (s:Shared) (σ:St) (H:Hp) (v:V) (u:Value) (Q:St->Hp->Prop),Inv X pins σ H s->bS v u->t v σ H Q->
  wpAny (model X.prog X.w) X.A (assign target X.env u) (fun _ s'=>∃σ' H',Inv X pins σ' H' s'/\Q σ' H') X.xe s
def PGs (X:Cx)(ts:List Expr)(t:TGs):Prop:=
 ∀(pins:List (Addr × Obj)) (s:Shared) (σ:St) (H:Hp) (vs:List V) (us:List Value) (Q:St->Hp->Prop),Inv X pins σ H s->bL vs us->t vs σ H Q->
  wpAny (model X.prog X.w) X.A (assignInOrder ((assignEach ts X.env).map (·.2)) us) (fun _ s'=>∃σ' H',Inv X pins σ' H' s'/\Q σ' H') X.xe s
abbrev Vy:=V->V->V->Hp->(Hp->Prop)->Prop
def Zn (X:Cx)(t:Vy):Prop:=
 ∀(pins:List (Addr × Obj)) (s:Shared) (σ:St) (H:Hp) (o i v:V) (ov iv u:Value) (Q:Hp->Prop),Inv X pins σ H s->bS o ov->bS i iv->bS v u->t o i v H Q->
  wpAny (model X.prog X.w) X.A (setItem ov iv u) (fun _ s'=>∃H',Inv X pins σ H' s'/\Q H') X.xe s
abbrev TIp:=V->V->Hp->VK->Prop
def PIp (X:Cx)(op:Operator)(t:TIp):Prop:=
 ∀(pins:List (Addr × Obj)) (s:Shared) (σ:St) (H:Hp) (x y:V) (v u:Value) (Q:VK),Inv X pins σ H s->bS x v->bS y u->t x y H Q->
  wpAny (model X.prog X.w) X.A (inplaceOp op v u) (EP X pins σ Q) X.xe s
section
variable {X:Cx} {pos:Pos}
def gD (i:Nat):TG:=fun v σ H Q=>Q (σ.set i (some v)) H
theorem aR {i:Nat}{x:Str}(hN:X.N.Nodup)(hi:X.N[i]?=some x)(hx:Loc X.env.scope x)(hf:X.fn x=true\/X.env.scope.names.lookup x=some .local:=by first | exact .inl rfl | exact .inr rfl | assumption):PG X (.Name x pos) (gD i):=by
 intro pins s σ H v u Q I r h;exact wpAny_assign_Name (lM I hN hi hx r (fun s' I'=>⟨_,H,I',h⟩) hf)
def Ch:TGs:=fun vs σ H Q=>vs=[]/\Q σ H
def iF (t:TG)(u:TGs):TGs:=fun vs σ H Q=>∃v r,vs=v :: r/\t v σ H fun σ' H'=>u r σ' H' Q
theorem fE:PGs X [] Ch:=by
 intro pins s σ H vs us Q I r h;obtain⟨e,h⟩:=h;subst e
 cases r
 exact assignInOrder_nil ⟨σ,H,I,h⟩
theorem bQ {e:Expr}{es:List Expr}{t:TG}{u:TGs}(h1:PG X e t)(h2:PGs X es u)(hs:(assignEach (e :: es) X.env).map (·.2)=assign e X.env :: (assignEach es X.env).map (·.2):=by rfl):PGs X (e :: es) (iF t u):=by
 intro pins s σ H vs us Q I r h;obtain⟨v,vr,e1,h⟩:=h;subst e1
 cases r with
 |cons r rr=>
  rw[hs];refine assignInOrder_cons (thn (h1 pins s σ H _ _ _ I r h) fun _ s1 ⟨σ1,H1,I1,q1⟩=>?_);exact h2 pins s1 σ1 H1 _ _ Q I1 rr q1
def Aa (K:Frag)(n:Nat)(t:TGs):TG:=fun v σ H Q=>∃a xs,v=.ref a/\SqT K H a xs/\xs.length=n/\t xs σ H Q
theorem gW {es:List Expr}{k:Nat}{t:TGs}{n:Nat}(hc:X.calm=true)(h:PGs X es t)(hn:(assignEach es X.env).length=n:=by rfl)(hst:(assignEach es X.env).findIdx? (·.1)=none:=by rfl):PG X (.Tuple es k pos) (Aa X.K n t):=by
 intro pins s σ H v u Q I r hw;obtain⟨a,xs,e1,hq,hl,hw⟩:=hw;subst e1
 cases r
 obtain⟨its,rv,ht,hz⟩:=I.tuple hq;refine assign_Tuple_tuple (I.ok.hd hc) ht (by simp[hn,<- hl,rv.length]) hst fun h' hx=>?_;have I1:Inv X pins σ H { s with heap:=h' }:=I.kept (t':=s.toks) fun b o e=>hx b o (Nat.ne_of_lt (Heap.lt_size e)) e;exact h pins _ σ H xs _ Q I1 (by simpa using rv) hw
def qg3 (to ti:TE)(t:Vy):TG:=fun v σ H Q=>to σ H fun o H1=>ti σ H1 fun i H2=>t o i v H2 fun H3=>Q σ H3
theorem tY {o i:Expr}{to ti:TE}{t:Vy}(ho:PE X o to)(hi:PE X i ti)(hs:Zn X t)(ha:∀v,assign (.Subscript o i pos) X.env v=(do
   let ov <- holding [v] (eval o X.env)
   let iv <- holding [v,ov] (eval i X.env)
   standAt pos
   holding [v,ov,iv] (setItem ov iv v)
   release [v,ov,iv] []):=by intro _;rfl):PG X (.Subscript o i pos) (qg3 to ti t):=by
 intro pins s σ H v u Q I r h;rw[ha];refine wpAny_bind (wpAny_holding (thn (ho pins s σ H _ I h) fun ov s1 ⟨x,H1,I1,r1,q1⟩=>?_));refine wpAny_bind (wpAny_holding (thn (hi pins s1 σ H1 _ I1 q1) fun iv s2 ⟨y,H2,I2,r2,q2⟩=>?_));refine wpAny_bind (wpAny_standAt (wpAny_bind (wpAny_holding (thn (hs pins s2 σ H2 x y v ov iv u _ I2 r1 r2 r q2) fun _ s3 ⟨H3,I3,q3⟩=>?_))));exact wpAny_release ⟨σ,H3,I3,q3⟩
def Xh (te:TE)(g:TG):TS:=fun D σ H=>te σ H fun x H1=>g x σ H1 D.nx
theorem uR {tg e:Expr}{te:TE}{g:TG}(he:PE X e te)(hg:PG X tg g)(hs:swapsWithSole [tg] e pos.line X.env=pure false:=by rfl)(hw:swappedStores [tg] e X.env=pure none:=by rfl)(h1:(assignEach [tg] X.env).map (·.2)=[assign tg X.env]:=by rfl):PS X (.Assign [tg] e pos) (Xh te g):=by
 intro pins s σ H D I h;refine wpAny_Assign_stores (thn (he pins s σ H _ I h) fun v s1 ⟨x,H1,I1,r1,q1⟩=>?_) hs hw;rw[h1];exact thn (hg pins s1 σ H1 x v _ I1 r1 q1) fun _ s2 q=>q
theorem aV {i:Nat}{x:Str}{e:Expr}{te:TE}{pos':Pos}(hN:X.N.Nodup)(hi:X.N[i]?=some x)(hx:Loc X.env.scope x)(he:PE X e te)(hs:swapsWith e (some (.Name x pos')) pos.line X.env=pure false:=by rfl)(hf:X.fn x=true\/X.env.scope.names.lookup x=some .local:=by first | exact .inl rfl | exact .inr rfl | assumption) :
  PS X (.Assign [.Name x pos'] e pos) (Xh te (gD i)):=by
 intro pins s σ H D I h;refine wpAny_Assign_Name (thn (he pins s σ H _ I h) fun v s1 ⟨y,H1,I1,r1,q1⟩=>?_) hs;exact lM I1 hN hi hx r1 (fun s2 I2=>⟨_,H1,I2,q1⟩) hf
def qg2 (i:Nat)(te:TE)(ti:TIp):TS:=fun D σ H=>∃x,σ[i]?=some (some x)/\te σ H fun y H1=>ti x y H1 fun z H2=>D.nx (σ.set i (some z)) H2
theorem Yp {i:Nat}{x:Str}{e:Expr}{te:TE}{op:Operator}{ti:TIp}{pos':Pos}(hN:X.N.Nodup)(hi:X.N[i]?=some x)(hx:Loc X.env.scope x)(he:PE X e te)(ho:PIp X op ti)(hf:X.fn x=true\/X.env.scope.names.lookup x=some .local:=by first | exact .inl rfl | exact .inr rfl | assumption) :
  PS X (.AugAssign (.Name x pos') op e pos) (qg2 i te ti):=by
 intro pins s σ H D I h;obtain⟨v,e1,h⟩:=h;obtain⟨m,hn,hl⟩:=I.loc;have vis:Vis X.env.scope x:=by rcases hx with k | k;exact .inl k;exact .inr (.inl k)
 obtain⟨u,r,l⟩:=hl i x v hi e1 vis;refine wpAny_AugAssign_Name ?_;have go:wpAny (model X.prog X.w) X.A (eval e X.env) (fun w s₂=>wpAny (model X.prog X.w) X.A (inplaceOp op u w) (fun r s₃=>wpAny (model X.prog X.w) X.A (storeName X.env x r) (fun _=>SP X pins D .next) X.xe s₃) X.xe s₂) X.xe s:=by
  refine thn (he pins s σ H _ I h) fun w s1 ⟨y,H1,I1,r1,q1⟩=>?_;refine thn (ho pins s1 σ H1 v y u w _ I1 r r1 q1) fun z s2 ⟨zv,H2,I2,r2,q2⟩=>?_;exact lM I2 hN hi hx r2 (fun s3 I3=>⟨_,H2,I3,q2⟩) hf
 rcases l with ⟨hk,hm⟩ | ⟨hk,c,hc,hcell⟩
 ·exact wpAny_loadName_local I.ok.kind hk hn hm go
 ·rcases hk with hk | hk
  ·exact wpAny_loadName_cell I.ok.kind hk hc hcell go
  ·rcases hx with k | k
   ·have:X.env.scope.names.lookup x=some .free:=hk;rw[k] at this;cases this
   ·have:X.env.scope.names.lookup x=some .free:=hk;rw[k] at this;cases this
def ipI (f:Int->Int->Int):TIp:=fun x y H Q=>∃i j,x=.int i/\y=.int j/\Q (.int (f i j)) H
theorem Xm:PIp X .Add (ipI fun i j=>i+j):=by
 intro pins s σ H x y v u Q I r1 r2 h;obtain⟨i,j,e1,e2,q⟩:=h;subst e1;subst e2;obtain⟨t,rfl⟩:=r1;obtain⟨t',rfl⟩:=r2;exact iadd_int ⟨.int _,H,I.tok _,⟨_,rfl⟩,q⟩
def Ot (c:TT)(tb:TS):TS:=fun D σ H=>∃W:Nat->St->Hp->Prop,(∃m,W m σ H)/\∀m σ H,W m σ H->
 c σ H fun b H1=>if b=true then ∃N:St->Hp->Prop,(∀σ' H',N σ' H'->∃m',m' < m/\W m' σ' H')/\tb { D with nx:=N,ct:=N,bk:=D.nx } σ H1 else D.nx σ H1
theorem Mz {c:Expr}{body:List Stmt}{tc:TT}{tb:TS}(hp:PassesOwn (model X.prog X.w) X.A X.env X.xe)(hc:PT X c tc)(hb:PSs X body tb):PS X (.While c body [] pos) (Ot tc tb):=by
 intro pins s σ H D I h;obtain⟨W,⟨m0,w0⟩,turn⟩:=h;refine wpAny_While (codeAny_whileLoop (fun n s'=>∃σ' H',Inv X pins σ' H' s'/\W n σ' H') ?_ m0 ⟨σ,H,I,w0⟩);rintro n s1 ⟨σ1,H1,I1,w1⟩;refine wpAny_passesOwn hp (thn (hc pins s1 σ1 H1 _ I1 (turn n σ1 H1 w1)) fun b s2 ⟨H2,I2,q2⟩=>?_)
 cases b with
 |true=>
  obtain⟨N,hN,q2⟩:=q2;rw[if_pos rfl];refine wpAny_passesOwn hp (thn (hb pins s2 σ1 H2 _ I2 q2) fun f s3 q3=>?_)
  cases f with
  |next=>
   obtain⟨σ3,H3,I3,n3⟩:=q3;obtain⟨m',hm,w3⟩:=hN σ3 H3 n3;exact⟨m',hm,σ3,H3,I3,w3⟩
  |cont=>
   obtain⟨σ3,H3,I3,n3⟩:=q3;obtain⟨m',hm,w3⟩:=hN σ3 H3 n3;exact⟨m',hm,σ3,H3,I3,w3⟩
  |brk=>exact q3
  |ret v=>exact q3
 |false=>
  rw[if_neg Bool.false_ne_true];exact wpAny_execs_nil ⟨σ1,H2,I2,q2⟩
end
structure It where
 go:Nat->Hp->Prop
 yld:Nat->Hp->V->Hp->Prop
 stop:Nat->Hp->Prop
def iO (X:Cx)(pins:List (Addr × Obj))(H:Hp)(b:Addr):Prop:=
 H b=none/\b≠X.env.locals/\b∉X.fs/\(b∈X.ex\/X.s₀.heap.objs.size<=b)/\(∀x c,X.env.cells.lookup x=some c->c≠b)/\∀p∈X.pn++pins,p.1≠b
theorem Inv.fpOk {X:Cx}{pins:List (Addr × Obj)}{σ:St}{H H':Hp}{s:Shared}{b:Addr}(I:Inv X pins σ H s)(hb:s.heap.objs.size<=b)(hn:H' b=none):iO X pins H' b:=by
 refine⟨hn,Nat.ne_of_gt (Nat.lt_of_lt_of_le I.lt hb),I.nofs hb,.inr (Nat.le_trans I.sz hb),fun x c e z=>?_,fun p hp z=>?_⟩
 ·obtain⟨v,q⟩:=I.cell x c e;exact absurd (Nat.lt_of_lt_of_le q.lt (by rw[z];exact hb)) (Nat.lt_irrefl _)
 ·exact absurd (Nat.lt_of_lt_of_le (Heap.lt_size (I.pin p hp).1) (by rw[z];exact hb)) (Nat.lt_irrefl _)
structure Lz (P:Program) (w:World) (K:Frag) (tg:Expr) (J:It) (fp:List Addr) (it:Addr) (tn:Nat->Heap->Prop):Prop where
 mem:it∈fp
 obj:∀i h,tn i h->∀b∈fp,∃o,h.get? b=some o/\∀v,o.data≠.cell v
 keep:∀i h h',tn i h->(∀b∈fp,∀o,h.get? b=some o->h'.get? b=some o)->tn i h'
 item:∀(X:Cx),X.prog=P->X.w=w->X.K=K->X.calm=true->∀(i:Nat) (pins:List (Addr × Obj)) (s:Shared) (σ:St) (H:Hp) (E:Value->Shared->Prop),Inv X pins σ H s->(∀b∈fp,iO X pins H b)->tn i s.heap->J.go i H->
  wpAny (model P w) X.A (pyNext (.ref it)) (fun r s1=>∃u,r=some u/\
   wpAny (model P w) X.A (letOwnedTupleGo tg (.ref it) u) (fun _ s2=>∃x H',Inv X pins σ H' s2/\bS x u/\J.yld i H x H'/\tn (i+1) s2.heap/\∀b∈fp,H' b=none) E s1) E s
 done:∀(X:Cx),X.prog=P->X.w=w->X.K=K->X.calm=true->∀(i:Nat) (pins:List (Addr × Obj)) (s:Shared) (σ:St) (H:Hp) (E:Value->Shared->Prop),Inv X pins σ H s->(∀b∈fp,iO X pins H b)->tn i s.heap->J.stop i H->
  wpAny (model P w) X.A (pyNext (.ref it)) (fun r s1=>r=none/\Inv X pins σ H s1) E s
 self:∀(A:Around) (i:Nat) (s:Shared) (Q:Value->Shared->Prop) (E:Value->Shared->Prop),tn i s.heap->Q (.ref it) s->wpAny (model P w) A (pyIter (.ref it)) Q E s
abbrev TI:=St->Hp->(It->Hp->Prop)->Prop
def PIE (X:Cx)(pins:List (Addr × Obj))(σ:St)(tg:Expr)(R:It->Hp->Prop)(itv:Value)(s2:Shared):Prop:=
 ∃(it:Addr) (fp:List Addr) (tn:Nat->Heap->Prop) (J:It) (H':Hp),itv=.ref it/\Inv X pins σ H' s2/\Lz X.prog X.w X.K tg J fp it tn/\tn 0 s2.heap/\(∀b∈fp,iO X pins H' b)/\R J H'
def PI (X:Cx)(tg iter:Expr)(wi:TI):Prop:=
 ∀(pins:List (Addr × Obj)) (s:Shared) (σ:St) (H:Hp) (R:It->Hp->Prop),Inv X pins σ H s->wi σ H R->
  wpAny (model X.prog X.w) X.A (eval iter X.env) (fun v s1=>wpAny (model X.prog X.w) X.A (pyIter v) (PIE X pins σ tg R) X.xe s1) X.xe s
theorem Us {M : Model}{A : Around}{E : Value -> Shared -> Prop}{s : Shared}{tg : Expr}{it : Addr}{u : Value}{o : Obj}{n : String}{vs : Array Value}{Q : Unit -> Shared -> Prop}(ho : s.heap.get? it = some o)(hc : o.cls = .type n)(hd : o.data = .fields vs)(hn : ["enumerate", "zip", "dict_itemiterator", "dict_reverseitemiterator", "odict_iterator", "itertools.zip_longest", "itertools.pairwise"].contains n = false)(hQ : Q () s) : wpAny M A (letOwnedTupleGo tg (.ref it) u) Q E s := by
  unfold letOwnedTupleGo
  cases tg <;> first
    | exact wpAny_pure hQ
    | (cases u <;> first
        | exact wpAny_pure hQ
        | (refine wpAny_bind (wpAny_load ho ?_)
           rw [hc, hd];show wpAny M A (if (["enumerate", "zip", "dict_itemiterator", "dict_reverseitemiterator", "odict_iterator", "itertools.zip_longest", "itertools.pairwise"].contains n && vs[0]? == some (rawInt _)) = true then _ else _) Q E s;rw [if_neg (by intro h; rw [hn, Bool.false_and] at h; cases h)];exact wpAny_pure hQ))
def Itl (K:Frag)(a:Addr):It:=
 ⟨fun i H=>∃xs x,SqL K H a xs/\xs[i]?=some x,fun i H x H'=>H'=H/\∀xs,SqL K H a xs->xs[i]?=some x,fun i H=>∃xs,SqL K H a xs/\xs.length<=i⟩
def Itr (lo:Int)(n:Nat):It:=⟨fun i _=>i < n,fun i H x H'=>H'=H/\x=.int (lo+i),fun i _=>n<=i⟩
theorem Jb {P:Program}{w:World}{K:Frag}{tg:Expr}(a it:Addr):Lz P w K tg (Itl K a) [it] it (fun i h=>h.IsListIter it a i) where
 mem:=by simp
 obj:=fun i h st b hb=>by
  have e:b=it:=by simpa using hb
  subst e;obtain⟨o,e,c,d⟩:=st;exact⟨o,e,fun v z=>by rw[d] at z;cases z⟩
 keep:=fun i h h' st k=>st.at fun o e=>k it (by simp) o e
 item:=by
  intro X hP hw hK hc i pins s σ H E I hf st hg;subst hP hw hK;obtain⟨xs,x,hq,hx⟩:=hg;obtain⟨its,rv,p,hz⟩:=I.list hq;obtain⟨u,hu,ru⟩:=rv.get hx;obtain⟨f0,f1,f2,f3,f4,f5⟩:=hf it (by simp);refine wpAny_pyNext_list_item st p.isList (x:=u) (by simpa using hu) fun h' st' sb=>?_;have I1:Inv X pins σ H { s with heap:=h' }:=I.turned (t':=s.toks) (fun b o hb e=>(sb.2 b hb).trans e) f0 f1 f3 f4 f5;obtain⟨o,e,c,d⟩:=id st';exact⟨u,rfl,Us (s:={ s with heap:=h' }) e c d (by decide) ⟨x,H,I1,ru,⟨rfl,fun ys hy=>by rw[I.list_inj hy hq];exact hx⟩,st',fun b hb=>(hf b hb).1⟩⟩
 done:=by
  intro X hP hw hK hc i pins s σ H E I hf st hg;subst hP hw hK;obtain⟨xs,hq,hx⟩:=hg;obtain⟨its,rv,p,hz⟩:=I.list hq;obtain⟨f0,f1,f2,f3,f4,f5⟩:=hf it (by simp);have hl:=rv.length;exact wpAny_pyNext_list_end (I.ok.hd hc) st p.isList (by simp;lia) fun h' eb=>⟨rfl,I.turned (t':=s.toks) (fun b o hb e=>eb b o hb e) f0 f1 f3 f4 f5⟩
 self:=fun _ _ _ _ _ st h=>wpAny_pyIter_listiter st h
theorem Ds {P:Program}{w:World}{K:Frag}{tg:Expr}(it:Addr)(lo:Int)(n:Nat):Lz P w K tg (Itr lo n) [it] it (fun i h=>IsRangeIter h it (lo+(i:Nat)*1) ((n:Int) - (i:Nat)) 1) where
 mem:=by simp
 obj:=fun i h st b hb=>by
  have e:b=it:=by simpa using hb
  subst e;exact⟨_,st,fun v z=>by
   have z':Data.fields _=Data.cell v:=z
   cases z'⟩
 keep:=fun i h h' st k=>k it (by simp) _ st
 item:=by
  intro X hP hw hK hc i pins s σ H E I hf st hg;subst hP hw hK;obtain⟨f0,f1,f2,f3,f4,f5⟩:=hf it (by simp);have W:=Walks.range (prog:=X.prog) (w:=X.w) (I.ok.hd hc) it lo 1 n;refine W.item i s _ _ hg st fun v h' tk hv st' kk=>?_;obtain⟨t,rfl⟩:=hv;have I1:Inv X pins σ H { s with heap:=h',toks:=tk }:=I.turned (fun b o hb e=>kk b o (by simpa using hb) e) f0 f1 f3 f4 f5;refine⟨_,rfl,Us (s:={ s with heap:=h',toks:=tk }) (n:="range_iterator") st' rfl rfl (by decide) ⟨.int (lo+i),H,I1,⟨t,?_⟩,⟨rfl,rfl⟩,st',fun b hb=>(hf b hb).1⟩⟩;rw[Int.mul_one]
 done:=by
  intro X hP hw hK hc i pins s σ H E I hf st hg;subst hP hw hK;obtain⟨f0,f1,f2,f3,f4,f5⟩:=hf it (by simp);exact wpAny_pyNext_range_end (I.ok.hd hc) st (by have:n<=i:=hg;lia) fun h' eb=>⟨rfl,I.turned (t':=s.toks) (fun b o hb e=>eb b o hb e) f0 f1 f3 f4 f5⟩
 self:=fun _ _ _ _ _ st h=>wpAny_pyIter_rangeiter st h
section
variable {X:Cx} {tg:Expr}
def Vm (K:Frag)(tl:TE):TI:=fun σ H R=>tl σ H fun x H1=>∃a,x=.ref a/\(∃xs,SqL K H1 a xs)/\R (Itl K a) H1
theorem bO {l:Expr}{tl:TE}(hl:PE X l tl):PI X tg l (Vm X.K tl):=by
 intro pins s σ H R I h;refine thn (hl pins s σ H _ I h) fun v s1 ⟨x,H1,I1,r1,q1⟩=>?_;obtain⟨a,e,⟨xs,hq⟩,q⟩:=q1;subst e
 cases r1
 obtain⟨its,rv,p,hz⟩:=I1.list hq;refine wpAny_pyIter_list p.isList ?_;refine⟨s1.heap.objs.size,[s1.heap.objs.size],_,_,H1,rfl,I1.kept (t':=s1.toks) fun b o e=>Heap.get?_push_of_some _ e,Jb a _,⟨_,Heap.get?_push_size _ rfl,rfl,rfl⟩,fun b hb=>?_,q⟩;have e:b=s1.heap.objs.size:=by simpa using hb
 subst e;exact I1.fpOk (Nat.le_refl _) (I1.hok.fresh (Nat.le_refl _))
theorem Ac {pins:List (Addr × Obj)}{σ:St}{H:Hp}{s:Shared}{R:It->Hp->Prop}{E:Value->Shared->Prop}{lo hi:Int}{t u v:Tok}{tk:Nat}(I:Inv X pins σ H s)(h1:-(2 ^ 62)<=lo)(h2:lo < 2 ^ 62)(h3:-(2 ^ 62)<=hi)(h4:hi < 2 ^ 62)(q:R (Itr lo (hi - lo).toNat) H):wpAny (model X.prog X.w) X.A (pyIter (.ref s.heap.objs.size)) (PIE X pins σ tg R) E { s with heap:=s.heap.push { cls:=.type "range",data:=.fields #[.int lo t,.int hi u,.int 1 v] },toks:=tk }:=by
 refine wpAny_pyIter_range (IsRange.new ..) (small_one h1 h2 h3 h4) ?_;have I1:Inv X pins σ H { s with heap:=s.heap.push { cls:=.type "range",data:=.fields #[.int lo t,.int hi u,.int 1 v] },toks:=tk }:=I.kept fun b o e=>Heap.get?_push_of_some _ e;refine⟨(s.heap.push { cls:=.type "range",data:=.fields #[.int lo t,.int hi u,.int 1 v] }).objs.size,[(s.heap.push { cls:=.type "range",data:=.fields #[.int lo t,.int hi u,.int 1 v] }).objs.size],_,_,H,rfl,
  I1.kept (t':=tk) fun b o e=>Heap.get?_push_of_some _ e,Ds _ lo (hi - lo).toNat,?_,fun b hb=>?_,q⟩
 ·have e1:lo+((0:Nat):Int)*1=lo:=by simp
  have e2:(((hi - lo).toNat:Nat):Int) - ((0:Nat):Int)=Builtin.Range.rangeSize lo hi 1:=by rw[rangeSize_one];split<;>lia
  show IsRangeIter _ _ (lo+((0:Nat):Int)*1) ((((hi - lo).toNat:Nat):Int) - ((0:Nat):Int)) 1;rw[e1,e2];exact Heap.get?_push_size _ rfl
 ·have e:b=(s.heap.push { cls:=.type "range",data:=.fields #[.int lo t,.int hi u,.int 1 v] }).objs.size:=by simpa using hb
  subst e;exact I1.fpOk (Nat.le_refl _) (I1.hok.fresh (Nat.le_refl _))
def qd1 (ta:TA):TI:=fun σ H R=>ta σ H fun vs H1=>∃j:Int,vs=[.int j]/\-(2 ^ 62)<=j/\j < 2 ^ 62/\R (Itr 0 j.toNat) H1
def Zj (ta:TA):TI:=fun σ H R=>ta σ H fun vs H1=>∃i j:Int,vs=[.int i,.int j]/\(-(2 ^ 62)<=i/\i < 2 ^ 62/\-(2 ^ 62)<=j/\j < 2 ^ 62)/\R (Itr i (j - i).toNat) H1
theorem gF {a:Expr}{ta:TA}{p pos:Pos}(hg:Gl X "range")(hm:X.mg "range"=none)(ha:PA X [a] ta)(hs:starEach [a] X.env=[(false,eval a X.env)]:=by rfl):PI X tg (.Call (.Name "range" p) [a] [] pos) (qd1 ta):=by
 intro pins s σ H R I h;refine Call_ (gJ I hg hm boot_range (PyProof.Rows.callWith_type1 (thn (ha pos pins s σ H _ I h) fun us s1 ⟨vs,H1,I1,r1,q1⟩=>?_) hs rfl));obtain⟨j,e,q1,q2,q⟩:=q1;subst e
 cases r1 with
 |cons r rr=>
  cases rr
  obtain⟨t,rfl⟩:=r;exact call_range_1 (Ac I1 (by lia) (by lia) q1 q2 (by simpa using q))
theorem Kf {a b:Expr}{ta:TA}{p pos:Pos}(hg:Gl X "range")(hm:X.mg "range"=none)(ha:PA X [a,b] ta)(hs:starEach [a,b] X.env=[(false,eval a X.env),(false,eval b X.env)]:=by rfl)(hs2:starEach [b] X.env=[(false,eval b X.env)]:=by rfl) :
  PI X tg (.Call (.Name "range" p) [a,b] [] pos) (Zj ta):=by
 intro pins s σ H R I h;refine Call_ (gJ I hg hm boot_range (PyProof.Rows.callWith_type1 (thn (ha pos pins s σ H _ I h) fun us s1 ⟨vs,H1,I1,r1,q1⟩=>?_) (by rw[hs,hs2]) (by rw[hs2];rfl)));obtain⟨i,j,e,⟨q1,q2,q3,q4⟩,q⟩:=q1;subst e
 cases r1 with
 |cons r rr=>
  cases rr with
  |cons r' rr=>
   cases rr
   obtain⟨t,rfl⟩:=r;obtain⟨t',rfl⟩:=r';exact call_range_2 (Ac I1 q1 q2 q3 q4 q)
def qg6 (wi:TI)(g:TG)(tb:TS):TS:=fun D σ H=>wi σ H fun J H1=>∃W:Nat->Nat->St->Hp->Prop,(∃m,W 0 m σ H1)/\∀i m σ H,W i m σ H->
 (J.stop i H/\D.nx σ H)\/(J.go i H/\∃N:St->Hp->Prop,(∀σ' H',N σ' H'->∃m',m' < m/\W (i+1) m' σ' H')/\∀x H',J.yld i H x H'->g x σ H' fun σ2 H2=>tb { D with nx:=N,ct:=N,bk:=D.nx } σ2 H2)
def pX (fp:List Addr)(h:Heap):List (Addr × Obj):=fp.filterMap fun b=>(h.get? b).map fun o=>(b,o)
theorem gH {fp:List Addr}{h:Heap}{b:Addr}{o:Obj}(hb:b∈fp)(e:h.get? b=some o):(b,o)∈pX fp h:=mem_filterMap.mpr ⟨b,hb,by rw[e];rfl⟩
theorem Jm {fp:List Addr}{h:Heap}{p:Addr × Obj}(hp:p∈pX fp h):p.1∈fp/\h.get? p.1=some p.2:=by
 obtain⟨b,hb,e⟩:=mem_filterMap.mp hp
 cases q:h.get? b with
 |none=>rw[q] at e;cases e
 |some o=>
  rw[q] at e;have e':(b,o)=p:=Option.some.inj e;subst e';exact⟨hb,q⟩
theorem Inv.pinned {pins:List (Addr × Obj)}{σ:St}{H:Hp}{s:Shared}{fp:List Addr}(I:Inv X pins σ H s)(hf:∀b∈fp,iO X pins H b)(ho:∀b∈fp,∃o,s.heap.get? b=some o/\∀v,o.data≠.cell v):Inv X (pins++pX fp s.heap) σ H s:=
 I.pins_of fun p hp=>(mem_append.mp hp).elim (fun z=>I.pin p (mem_append_right _ z)) fun z=>by
  obtain⟨hb,e⟩:=Jm z;obtain⟨f0,f1,f2,_⟩:=hf p.1 hb;obtain⟨o,e',d⟩:=ho p.1 hb;rw[e] at e';cases e';exact⟨e,f0,f1,f2,d⟩
theorem Inv.unpinned {pins pl:List (Addr × Obj)}{σ:St}{H:Hp}{s:Shared}(I:Inv X (pins++pl) σ H s):Inv X pins σ H s:=I.pins_of fun p hp=>I.pin p (mem_append_right _ (mem_append_left _ hp))
theorem dP {iter:Expr}{body:List Stmt}{wi:TI}{g:TG}{tb:TS}{pos:Pos}(hp:PassesOwn (model X.prog X.w) X.A X.env X.xe)(hc:X.calm=true)(hi:PI X tg iter wi)(hg:PG X tg g)(hb:PSs X body tb)(hs:∀x,foldedSetIterable iter X.env x=pure x:=by intro _;rfl):PS X (.For tg iter body [] pos) (qg6 wi g tb):=by
 intro pins s σ H D I h;refine wpAny_For (thn (hi pins s σ H _ I h) fun v s1 h1=>thn h1 fun itv s2 h2=>?_) hs;obtain⟨it,fp,tn,J,H2,e,I2,T,st2,f2,W,⟨m0,w0⟩,turn⟩:=h2;subst e;have stat:∀{H':Hp},(∀b∈fp,H' b=none)->∀b∈fp,iO X pins H' b:=fun hn b hb=>⟨hn b hb,(f2 b hb).2⟩
 refine codeAny_forLoop_any (fun n s'=>∃i σ' H',Inv X pins σ' H' s'/\tn i s'.heap/\(∀b∈fp,H' b=none)/\W i n σ' H') ?_ m0 ⟨0,σ,H2,I2,st2,fun b hb=>(f2 b hb).1,w0⟩;rintro n s3 ⟨i,σ3,H3,I3,st3,fr3,w3⟩;rcases turn i n σ3 H3 w3 with ⟨stop,qn⟩ | ⟨go,N,hN,step⟩
 ·refine wpAny_passesOwn hp (thn (T.done X rfl rfl rfl hc i pins s3 σ3 H3 X.xe I3 (stat fr3) st3 stop) fun r s4 ⟨hr,I4⟩=>?_);subst hr;exact wpAny_execs_nil ⟨σ3,H3,I4,qn⟩
 ·refine wpAny_passesOwn hp (thn (T.item X rfl rfl rfl hc i pins s3 σ3 H3 X.xe I3 (stat fr3) st3 go) fun r s4 ⟨u,hr,h4⟩=>?_);subst hr;refine wpAny_passesOwn hp (thn h4 fun _ s5 ⟨x,H5,I5,r5,y5,st5,fr5⟩=>?_);have I5':=I5.pinned (stat fr5) (T.obj _ _ st5);refine wpAny_passesOwn hp (thn (hg _ s5 σ3 H5 x u _ I5' r5 (step x H5 y5)) fun _ s6 ⟨σ6,H6,I6,q6⟩=>?_);refine wpAny_passesOwn hp (thn (hb _ s6 σ6 H6 _ I6 q6) fun f s7 q7=>?_);have again:∀{σ7:St} {H7:Hp},Inv X (pins++pX fp s5.heap) σ7 H7 s7->N σ7 H7->∃m,m < n/\∃i σ' H',Inv X pins σ' H' s7/\tn i s7.heap/\(∀b∈fp,H' b=none)/\W i m σ' H':=fun {σ7 H7} I7 n7=>by
   obtain⟨m',hm,w7⟩:=hN σ7 H7 n7;refine⟨m',hm,i+1,σ7,H7,I7.unpinned,T.keep _ _ _ st5 fun b hb o e=>(I7.pin (b,o) (mem_append_right _ (mem_append_right _ (gH hb e)))).1,fun b hb=>?_,w7⟩;obtain⟨o,e,d⟩:=T.obj _ _ st5 b hb;exact(I7.pin (b,o) (mem_append_right _ (mem_append_right _ (gH hb e)))).2.1
  cases f with
  |next=>obtain⟨σ7,H7,I7,n7⟩:=q7;exact again I7 n7
  |cont=>obtain⟨σ7,H7,I7,n7⟩:=q7;exact again I7 n7
  |brk=>obtain⟨σ7,H7,I7,q7⟩:=q7;exact⟨σ7,H7,I7.unpinned,q7⟩
  |ret v=>obtain⟨x7,σ7,H7,I7,r7,q7⟩:=q7;exact⟨x7,σ7,H7,I7.unpinned,r7,q7⟩
end
theorem dW {K:Frag}{a:Addr}{xs:List V}{g:TG}{tb:TS}{D:jX}{σ:St}{H:Hp}(Pv:Nat->St->Hp->Prop)(h0:Pv 0 σ H)(hl:∀i σ H,i<=xs.length->Pv i σ H->SqL K H a xs)(hs:∀i x σ H,xs[i]?=some x->Pv i σ H->g x σ H fun σ2 H2=>tb { D with nx:=Pv (i+1),ct:=Pv (i+1),bk:=D.nx } σ2 H2)(hd:∀σ H,Pv xs.length σ H->D.nx σ H) :
  ∃W:Nat->Nat->St->Hp->Prop,(∃m,W 0 m σ H)/\∀i m σ H,W i m σ H->
   ((Itl K a).stop i H/\D.nx σ H)\/((Itl K a).go i H/\∃N:St->Hp->Prop,(∀σ' H',N σ' H'->∃m',m' < m/\W (i+1) m' σ' H')/\∀x H',(Itl K a).yld i H x H'->g x σ H' fun σ2 H2=>tb { D with nx:=N,ct:=N,bk:=D.nx } σ2 H2):=by
 refine⟨fun i m σ H=>m=xs.length - i/\i<=xs.length/\Pv i σ H,⟨xs.length,by simp,Nat.zero_le _,h0⟩,?_⟩;rintro i m σ H ⟨rfl,hi,p⟩;have q:=hl i σ H hi p
 by_cases hlt:i < xs.length
 ·refine .inr ⟨⟨xs,xs[i],q,by simp[hlt]⟩,Pv (i+1),fun σ' H' p'=>⟨xs.length - (i+1),by lia,rfl,hlt,p'⟩,fun x H' y=>?_⟩;obtain⟨e,y⟩:=y;subst e;exact hs i x σ _ (y xs q) p
 ·have e:i=xs.length:=by lia
  subst e;exact .inl ⟨⟨xs,q,Nat.le_refl _⟩,hd σ H p⟩
theorem qD {lo:Int}{n:Nat}{g:TG}{tb:TS}{D:jX}{σ:St}{H:Hp}(Pv:Nat->St->Hp->Prop)(h0:Pv 0 σ H)(hs:∀i σ H,i < n->Pv i σ H->g (.int (lo+i)) σ H fun σ2 H2=>tb { D with nx:=Pv (i+1),ct:=Pv (i+1),bk:=D.nx } σ2 H2)(hd:∀σ H,Pv n σ H->D.nx σ H) :
  ∃W:Nat->Nat->St->Hp->Prop,(∃m,W 0 m σ H)/\∀i m σ H,W i m σ H->
   ((Itr lo n).stop i H/\D.nx σ H)\/((Itr lo n).go i H/\∃N:St->Hp->Prop,(∀σ' H',N σ' H'->∃m',m' < m/\W (i+1) m' σ' H')/\∀x H',(Itr lo n).yld i H x H'->g x σ H' fun σ2 H2=>tb { D with nx:=N,ct:=N,bk:=D.nx } σ2 H2):=by
 refine⟨fun i m σ H=>m=n - i/\i<=n/\Pv i σ H,⟨n,by simp,Nat.zero_le _,h0⟩,?_⟩;rintro i m σ H ⟨rfl,hi,p⟩
 by_cases hlt:i < n
 ·refine .inr ⟨hlt,Pv (i+1),fun σ' H' p'=>⟨n - (i+1),by lia,rfl,hlt,p'⟩,fun x H' y=>?_⟩;obtain⟨e,y⟩:=y;subst e y;exact hs i σ _ hlt p
 ·have e:i=n:=by lia
  subst e;exact .inl ⟨Nat.le_refl _,hd σ H p⟩
theorem Py {c:TT}{tb:TS}{D:jX}{σ:St}{H:Hp}(Pv:St->Hp->Prop)(μ:St->Hp->Nat)(h0:Pv σ H)(hs:∀σ H,Pv σ H->c σ H fun b H1=>if b=true then tb { D with nx:=fun σ' H'=>Pv σ' H'/\μ σ' H' < μ σ H,ct:=fun σ' H'=>Pv σ' H'/\μ σ' H' < μ σ H,bk:=D.nx } σ H1 else D.nx σ H1)(mono:∀σ H Q Q',(∀b H1,Q b H1->Q' b H1)->c σ H Q->c σ H Q'):Ot c tb D σ H:=by
 refine⟨fun m σ H=>m=μ σ H/\Pv σ H,⟨_,rfl,h0⟩,?_⟩;rintro m σ H ⟨rfl,p⟩;refine mono σ H _ _ (fun b H1 q=>?_) (hs σ H p)
 cases b with
 |true=>exact⟨_,fun σ' H' ⟨p',l⟩=>⟨_,l,rfl,p'⟩,q⟩
 |false=>exact q
abbrev R2:=V->V->Hp->VK->Prop
def OpR (X:Cx)(f:Value->Value->Sem Value)(r:R2):Prop:=
 ∀(pins:List (Addr × Obj)) (s:Shared) (σ:St) (H:Hp) (x y:V) (v u:Value) (Q:VK),Inv X pins σ H s->bS x v->bS y u->r x y H Q->
  wpAny (model X.prog X.w) X.A (f v u) (EP X pins σ Q) X.xe s
def UnR (X:Cx)(f:Value->Sem Value)(r:V->Hp->VK->Prop):Prop:=
 ∀(pins:List (Addr × Obj)) (s:Shared) (σ:St) (H:Hp) (x:V) (v:Value) (Q:VK),Inv X pins σ H s->bS x v->r x H Q->
  wpAny (model X.prog X.w) X.A (f v) (EP X pins σ Q) X.xe s
def fK (X:Cx)(f:Value)(r:List V->Hp->VK->Prop):Prop:=
 ∀(pins:List (Addr × Obj)) (s:Shared) (σ:St) (H:Hp) (xs:List V) (us:List Value) (Q:VK),Inv X pins σ H s->bL xs us->r xs H Q->
  wpAny (model X.prog X.w) X.A (call f us) (EP X pins σ Q) X.xe s
def tOp (r:R2)(ta tb:TE):TE:=fun σ H Q=>ta σ H fun x H1=>tb σ H1 fun y H2=>r x y H2 Q
def tUn (r:V->Hp->VK->Prop)(ta:TE):TE:=fun σ H Q=>ta σ H fun x H1=>r x H1 Q
def rI (C:Int->Int->Prop)(g:Int->Int->V):R2:=fun x y H Q=>∃i j,x=.int i/\y=.int j/\C i j/\Q (g i j) H
def rI0 (g:Int->Int->V):R2:=fun x y H Q=>∃i j,x=.int i/\y=.int j/\Q (g i j) H
def rU (g:Int->V):V->Hp->VK->Prop:=fun x H Q=>∃i,x=.int i/\Q (g i) H
section
variable {X:Cx} {a b c:Expr} {ta tb tc:TE} {pos:Pos}
theorem Wm (ha:PE X a ta)(hb:PE X b tb){pins:List (Addr × Obj)}{s:Shared}{σ:St}{H:Hp}{R:V->V->Hp->Prop}(I:Inv X pins σ H s)(h:ta σ H fun x H1=>tb σ H1 fun y H2=>R x y H2){Q:Value->Shared->Prop}{f:Value->Value->Sem Value}(hf:∀v u s2 x y H2,Inv X pins σ H2 s2->bS x v->bS y u->R x y H2->wpAny (model X.prog X.w) X.A (f v u) Q X.xe s2) :
  wpAny (model X.prog X.w) X.A (eval a X.env) (fun v s₁=>wpAny (model X.prog X.w) X.A (eval b X.env) (fun u s₂=>wpAny (model X.prog X.w) X.A (f v u) Q X.xe s₂) X.xe s₁) X.xe s:=by
 refine thn (ha pins s σ H _ I h) fun v s1 ⟨x,H1,I1,r1,q1⟩=>?_;refine thn (hb pins s1 σ H1 _ I1 q1) fun u s2 ⟨y,H2,I2,r2,q2⟩=>?_;exact hf v u s2 x y H2 I2 r1 r2 q2
theorem aZ {op:Operator}{r:R2}(ho:OpR X (binaryOp op) r)(ha:PE X a ta)(hb:PE X b tb):PE X (.BinOp a op b pos) (tOp r ta tb):=by
 intro pins s σ H Q I h;exact wpAny_BinOp (Wm ha hb I h fun v u s2 x y H2 I2 rx ry q=>ho pins s2 σ H2 x y v u Q I2 rx ry q)
theorem sU {op:UnaryOp}{r:V->Hp->VK->Prop}(ho:UnR X (unaryOp op) r)(ha:PE X a ta):PE X (.UnaryOp op a pos) (tUn r ta):=by
 intro pins s σ H Q I h;exact UnaryOp_ (thn (ha pins s σ H _ I h) fun v s1 ⟨x,H1,I1,r1,q1⟩=>ho pins s1 σ H1 x v Q I1 r1 q1)
theorem opI {f:Value->Value->Sem Value}{C:Int->Int->Prop}{g:Int->Int->Int}(rule:∀(i j:Int) (t u:Tok) (s:Shared) (Q:Value->Shared->Prop) (E:Value->Shared->Prop),C i j->Q (.int (g i j) s.toks) { s with toks:=s.toks+1 }->wpAny (model X.prog X.w) X.A (f (.int i t) (.int j u)) Q E s) :
  OpR X f (rI C fun i j=>.int (g i j)):=by
 intro pins s σ H x y v u Q I rx ry h;obtain⟨i,j,rfl,rfl,hc,q⟩:=h;obtain⟨t,rfl⟩:=rx;obtain⟨t',rfl⟩:=ry;exact rule i j t t' s _ _ hc ⟨.int (g i j),H,I.tok _,⟨_,rfl⟩,q⟩
theorem qb7 {f:Value->Value->Sem Value}{g:Int->Int->Int}(rule:∀(i j:Int) (t u:Tok) (s:Shared) (Q:Value->Shared->Prop) (E:Value->Shared->Prop),Q (.int (g i j) s.toks) { s with toks:=s.toks+1 }->wpAny (model X.prog X.w) X.A (f (.int i t) (.int j u)) Q E s) :
  OpR X f (rI0 fun i j=>.int (g i j)):=by
 intro pins s σ H x y v u Q I rx ry h;obtain⟨i,j,rfl,rfl,q⟩:=h;obtain⟨t,rfl⟩:=rx;obtain⟨t',rfl⟩:=ry;exact rule i j t t' s _ _ ⟨.int (g i j),H,I.tok _,⟨_,rfl⟩,q⟩
theorem Vr {f:Value->Value->Sem Value}{g:Int->Int->Bool}(rule:∀(i j:Int) (t u:Tok) (s:Shared) (Q:Value->Shared->Prop) (E:Value->Shared->Prop),Q (.bool (g i j)) s->wpAny (model X.prog X.w) X.A (f (.int i t) (.int j u)) Q E s) :
  OpR X f (rI0 fun i j=>.bl (g i j)):=by
 intro pins s σ H x y v u Q I rx ry h;obtain⟨i,j,rfl,rfl,q⟩:=h;obtain⟨t,rfl⟩:=rx;obtain⟨t',rfl⟩:=ry;exact rule i j t t' s _ _ ⟨.bl (g i j),H,I,rfl,q⟩
def qg5 (i j:Int):Prop:=0 < j/\j < 1073741824
def Yo (i j:Int):Prop:=(-(2 ^ 64) < i/\i < 2 ^ 64)\/(-(2 ^ 64) < j/\j < 2 ^ 64)
theorem Yo.ok {i j:Int}(h:Yo i j):IntMulOk i j:=by
 rcases h with ⟨h1,h2⟩ | ⟨h1,h2⟩
 ·exact .of_left (intBits_le_64 h1 h2)
 ·exact .of_right (intBits_le_64 h1 h2)
theorem kW:OpR X (binaryOp .Add) (rI0 fun i j=>.int (i+j)):=qb7 fun _ _ _ _ _ _ _ q=>add_int q
theorem uJ:OpR X (binaryOp .Sub) (rI0 fun i j=>.int (i - j)):=qb7 fun _ _ _ _ _ _ _ q=>sub_int q
theorem De:OpR X (binaryOp .Mult) (rI Yo fun i j=>.int (i*j)):=opI fun _ _ _ _ _ _ _ hc q=>mul_int q hc.ok
theorem pA:OpR X (binaryOp .FloorDiv) (rI qg5 fun i j=>.int (i / j)):=opI fun i j _ _ _ _ _ hc q=>by
 have h1:(0:Int) < j:=hc.1;have h2:j < 1073741824:=hc.2;exact floordiv_int (by lia) (by rw[Int.fdiv_eq_ediv_of_nonneg i (by lia)];exact q) (.inl (PyProof.noPylong_small (by lia)))
theorem gE:OpR X (binaryOp .Mod) (rI (fun _ j=>0 < j) fun i j=>.int (i % j)):=opI fun i j _ _ _ _ _ hc q=>by
 have h1:(0:Int) < j:=hc;exact mod_int' (by lia) (by rw[Int.fmod_eq_emod_of_nonneg i (by lia)];exact q)
theorem jU:OpR X (binaryOp .Mod) (rI (fun _ j=>j≠0) fun i j=>.int (i.fmod j)):=opI fun _ _ _ _ _ _ _ hc q=>mod_int' hc q
theorem unI {f:Value->Sem Value}{g:Int->Int}(rule:∀(i:Int) (t:Tok) (s:Shared) (Q:Value->Shared->Prop) (E:Value->Shared->Prop),Q (.int (g i) s.toks) { s with toks:=s.toks+1 }->wpAny (model X.prog X.w) X.A (f (.int i t)) Q E s) :
  UnR X f (rU fun i=>.int (g i)):=by
 intro pins s σ H x v Q I rx h;obtain⟨i,rfl,q⟩:=h;obtain⟨t,rfl⟩:=rx;exact rule i t s _ _ ⟨.int (g i),H,I.tok _,⟨_,rfl⟩,q⟩
theorem nV:UnR X (unaryOp .USub) (rU fun i=>.int (-i)):=unI fun _ _ _ _ _ q=>neg_int q
end
def qb1:V->V->Bool
 | .non,.non=>true | .non,.int _=>true | .int _,.non=>true | .non,.bl _=>true | .bl _,.non=>true | .non,.str _=>true | .str _,.non=>true
 | .int _,.int _=>true | .bl _,.bl _=>true | .str _,.str _=>true | .byt _,.byt _=>true
 | .int _,.str _=>true | .str _,.int _=>true | .bl _,.str _=>true | .str _,.bl _=>true
 |_,_=>false
def rEq:R2:=fun x y H Q=>qb1 x y=true/\Q (.bl (decide (x=y))) H
def rNe:R2:=fun x y H Q=>qb1 x y=true/\Q (.bl (!decide (x=y))) H
theorem Go {i j:Int}:decide (V.int i=V.int j)=(i == j):=by
 rw[Bool.eq_iff_iff];simp
theorem Ow {i j:Bool}:decide (V.bl i=V.bl j)=(i == j):=by
 rw[Bool.eq_iff_iff];simp
theorem Gs {i j:Str}:decide (V.str i=V.str j)=(i == j):=by
 rw[Bool.eq_iff_iff];simp
theorem Gw {i j:Array UInt8}:decide (V.byt i=V.byt j)=(i.toList == j.toList):=by
 rw[Bool.eq_iff_iff]
 cases i
 cases j
 simp
section
variable {X:Cx} {a b c:Expr} {ta tb tc:TE} {pos:Pos}
theorem cJ {pins:List (Addr × Obj)}{σ:St}{H:Hp}{s:Shared}{Q:VK}{k k':Bool}(I:Inv X pins σ H s)(q:Q (.bl k) H)(e:k=k'):EP X pins σ Q (.bool k') s:=by
 subst e;exact⟨.bl k,H,I,rfl,q⟩
theorem gQ:OpR X (compareOp .Eq) rEq:=by
 intro pins s σ H x y v u Q I rx ry h;obtain⟨hs,q⟩:=h
 cases x with
 |non=>
  cases rx
  cases y with
  |non=>cases ry;exact PySem.EqNone.eq_none_none (cJ I q (by simp))
  |bl j=>cases ry;exact PySem.EqNone.eq_none_bool (cJ I q (by simp))
  |int j=>obtain⟨t',rfl⟩:=ry;exact PySem.EqNone.eq_none_int (cJ I q (by simp))
  |str j=>obtain⟨t',rfl⟩:=ry;exact PySem.EqNone.eq_none_str (cJ I q (by simp))
  |_=>exact absurd (show false=true from hs) Bool.false_ne_true
 |bl i=>
  cases rx
  cases y with
  |non=>cases ry;exact PySem.EqNone.eq_bool_none (cJ I q (by simp))
  |bl j=>cases ry;exact eq_bool (cJ I q Ow)
  |str j=>obtain⟨t',rfl⟩:=ry;exact PySem.EqMixed.eq_bool_str (cJ I q (by simp))
  |_=>exact absurd (show false=true from hs) Bool.false_ne_true
 |int i=>
  obtain⟨t,rfl⟩:=rx
  cases y with
  |non=>cases ry;exact PySem.EqNone.eq_int_none (cJ I q (by simp))
  |int j=>obtain⟨t',rfl⟩:=ry;exact eq_int (cJ I q Go)
  |str j=>obtain⟨t',rfl⟩:=ry;exact PySem.EqMixed.eq_int_str (cJ I q (by simp))
  |_=>exact absurd (show false=true from hs) Bool.false_ne_true
 |str i=>
  obtain⟨t,rfl⟩:=rx
  cases y with
  |non=>cases ry;exact PySem.EqNone.eq_str_none (cJ I q (by simp))
  |bl j=>cases ry;exact PySem.EqMixed.eq_str_bool (cJ I q (by simp))
  |int j=>obtain⟨t',rfl⟩:=ry;exact PySem.EqMixed.eq_str_int (cJ I q (by simp))
  |str j=>obtain⟨t',rfl⟩:=ry;exact eq_str (cJ I q Gs)
  |_=>exact absurd (show false=true from hs) Bool.false_ne_true
 |byt i=>
  obtain⟨t,rfl⟩:=rx
  cases y with
  |byt j=>obtain⟨t',rfl⟩:=ry;exact W.eq_bytes (cJ I q Gw)
  |_=>exact absurd (show false=true from hs) Bool.false_ne_true
 |_=>cases y<;>exact absurd (show false=true from hs) Bool.false_ne_true
theorem wL:OpR X (compareOp .NotEq) rNe:=by
 intro pins s σ H x y v u Q I rx ry h;obtain⟨hs,q⟩:=h
 cases x with
 |non=>
  cases rx
  cases y with
  |non=>cases ry;exact PySem.EqNone.ne_none_none (cJ I q (by simp))
  |bl j=>cases ry;exact PySem.EqNone.ne_none_bool (cJ I q (by simp))
  |int j=>obtain⟨t',rfl⟩:=ry;exact PySem.EqNone.ne_none_int (cJ I q (by simp))
  |str j=>obtain⟨t',rfl⟩:=ry;exact PySem.EqNone.ne_none_str (cJ I q (by simp))
  |_=>exact absurd (show false=true from hs) Bool.false_ne_true
 |bl i=>
  cases rx
  cases y with
  |non=>cases ry;exact PySem.EqNone.ne_bool_none (cJ I q (by simp))
  |bl j=>cases ry;exact ne_bool (cJ I q (congrArg not Ow))
  |str j=>obtain⟨t',rfl⟩:=ry;exact PySem.EqMixed.ne_bool_str (cJ I q (by simp))
  |_=>exact absurd (show false=true from hs) Bool.false_ne_true
 |int i=>
  obtain⟨t,rfl⟩:=rx
  cases y with
  |non=>cases ry;exact PySem.EqNone.ne_int_none (cJ I q (by simp))
  |int j=>obtain⟨t',rfl⟩:=ry;exact ne_int (cJ I q (congrArg not Go))
  |str j=>obtain⟨t',rfl⟩:=ry;exact PySem.EqMixed.ne_int_str (cJ I q (by simp))
  |_=>exact absurd (show false=true from hs) Bool.false_ne_true
 |str i=>
  obtain⟨t,rfl⟩:=rx
  cases y with
  |non=>cases ry;exact PySem.EqNone.ne_str_none (cJ I q (by simp))
  |bl j=>cases ry;exact PySem.EqMixed.ne_str_bool (cJ I q (by simp))
  |int j=>obtain⟨t',rfl⟩:=ry;exact PySem.EqMixed.ne_str_int (cJ I q (by simp))
  |str j=>obtain⟨t',rfl⟩:=ry;exact ne_str (cJ I q (congrArg not Gs))
  |_=>exact absurd (show false=true from hs) Bool.false_ne_true
 |byt i=>
  obtain⟨t,rfl⟩:=rx
  cases y with
  |byt j=>obtain⟨t',rfl⟩:=ry;exact W.ne_bytes (cJ I q (congrArg not Gw))
  |_=>exact absurd (show false=true from hs) Bool.false_ne_true
 |_=>cases y<;>exact absurd (show false=true from hs) Bool.false_ne_true
theorem wM:OpR X (compareOp .Lt) (rI0 fun i j=>.bl (decide (i < j))):=Vr fun _ _ _ _ _ _ _ q=>lt_int q
theorem Hf:OpR X (compareOp .Gt) (rI0 fun i j=>.bl (decide (j < i))):=Vr fun _ _ _ _ _ _ _ q=>gt_int q
theorem Oj:OpR X (compareOp .GtE) (rI0 fun i j=>.bl (decide (j<=i))):=Vr fun _ _ _ _ _ _ _ q=>ge_int q
theorem bN (b:Expr){op:CmpOp}(h:op≠.In:=by decide)(h2:op≠.NotIn:=by decide):behindInMarks op b=false:=by
 have e1:(op == CmpOp.In)=false:=by cases op<;>first | rfl | exact absurd rfl h
 have e2:(op == CmpOp.NotIn)=false:=by cases op<;>first | rfl | exact absurd rfl h2
 cases b<;>simp[behindInMarks,e1,e2]
theorem fX {op:CmpOp}{r:R2}(ho:OpR X (compareOp op) r)(ha:PE X a ta)(hb:PE X b tb)(hm:behindInMarks op b=false):PE X (.Compare a [op] [b] pos) (tOp r ta tb):=by
 intro pins s σ H Q I h;exact wpAny_Compare1 (Wm ha hb I h fun v u s2 x y H2 I2 rx ry q=>ho pins s2 σ H2 x y v u Q I2 rx ry q) hm
def qb5 (t:TE):TT:=fun σ H Q=>t σ H fun x H'=>∃k,x=.bl k/\Q k H'
theorem bK {op:CmpOp}{r:R2}(ho:OpR X (compareOp op) r)(ha:PE X a ta)(hb:PE X b tb)(hm:behindInMarks op b=false):PT X (.Compare a [op] [b] pos) (qb5 (tOp r ta tb)):=by
 intro pins s σ H Q I h;refine wpAny_isTrue_Compare1 (thn (ha pins s σ H _ I h) fun v s1 ⟨x,H1,I1,r1,q1⟩=>thn (hb pins s1 σ H1 _ I1 q1) fun u s2 ⟨y,H2,I2,r2,q2⟩=>
  thn (ho pins s2 σ H2 x y v u _ I2 r1 r2 q2) fun c s3 ⟨z,H3,I3,r3,k,e,q3⟩=>?_) hm
 subst e
 cases r3
 exact wpAny_truthy_bool ⟨H3,I3,q3⟩
theorem zG:(sizeLine:Nat) < 2 ^ 63:=by rw[sizeLine_eq];decide
theorem mL {x:V}{us:List Value}(r:bL [x] us):∃u,us=[u]/\bS x u:=by
 cases r with
 |cons r1 r2=>cases r2;exact⟨_,rfl,r1⟩
theorem uH {x y:V}{us:List Value}(r:bL [x,y] us):∃u w',us=[u,w']/\bS x u/\bS y w':=by
 cases r with
 |cons r1 r2=>
  cases r2 with
  |cons r3 r4=>cases r4;exact⟨_,_,rfl,r1,r3⟩
theorem Ks:fK X (.builtin "abs") (fun xs H Q=>∃i,xs=[.int i]/\Q (.int (if i < 0 then -i else i)) H):=by
 intro pins s σ H xs us Q I r h;obtain⟨i,rfl,q⟩:=h;obtain⟨u,rfl,t,rfl⟩:=mL r;exact call_abs_int fun u tk=>⟨.int (if i < 0 then -i else i),H,I.tok _,⟨_,rfl⟩,q⟩
end
structure Ee (h:Heap) (x dx C:Addr) (mA:Str->Option Value):Prop where
 obj:h.get? x=some (W.instObj C dx)
 ns:h.Ns1 dx mA
 ne:dx≠x
theorem pV {h:Heap}{dx:Addr}{mA:Str->Option Value}(n:h.Ns1 dx mA):∃od,h.get? dx=some od/\∀name,W.lookIn name od=some (mA name):=by
 obtain⟨o,es,ep,ho,hd,hk,_,hm⟩:=n;refine⟨o,ho,fun name=>?_⟩;have e:=hm name;unfold nsFind findBy at e;rw[<- Array.find?_toList] at e;unfold W.lookIn;rw[hd];dsimp only;split
 ·rename_i y q
  rw[q] at e;exact congrArg some e
 ·rename_i q
  rw[q] at e;have a:es.toList.any (·.refKey)=false:=by
   rw[any_eq_false];intro y hy;obtain⟨z,t,hkey⟩:=hk y (Array.mem_toList_iff.mp hy);simp[DictEntry.refKey,hkey]
  have a':¬es.toList.any (·.refKey)=true:=by rw[a];exact Bool.false_ne_true
  rw[if_neg a'];exact congrArg some e
theorem Ee.look {h:Heap}{x dx C:Addr}{mA:Str->Option Value}(I:Ee h x dx C mA):∃od,W.InstAt h x (W.instObj C dx) C (some od)/\∀name,W.lookIn name od=some (mA name):=
 let ⟨od,ho,hl⟩:=pV I.ns
 ⟨od,⟨I.obj,rfl,rfl,ho⟩,hl⟩
section
variable {prog:Program} {w:World} {A:Around} {E:Value->Shared->Prop} {s:Shared} {K:Frag} {x dx C f:Addr} {mA:Str->Option Value} {name:Str} {v:Value}
theorem Qs {expr:Bool}{Q:Value->Shared->Prop}(X:K.In s.heap)(I:Ee s.heap x dx C mA)(hg:W.plainGet K C name=true)(hh:W.hasDictIn K C=true)(ha:W.findIn K (.ref C) name=some none)(hv:mA name=some v)(hv':W.handedIn v=true)(h:Q v { s with toks:=s.toks+1 }) :
  wpAny (model prog w) A (getAttr (.ref x) name expr) Q E s:=by
 obtain⟨od,J,hl⟩:=I.look;exact W.get_value X J (W.plainGet_of hg).1 (W.findObj_own hh ha rfl (by rw[hl,hv])) hv' h
theorem Po {pl:Sem Bool}{Q:Value × List Value->Shared->Prop}(X:K.In s.heap)(I:Ee s.heap x dx C mA)(hg:W.plainGet K C name=true)(hf:W.findIn K (.ref C) name=some (some (.ref f)))(ht:W.isFn K (.ref f)=true)(hv:mA name=none)(h:Q (.ref f,[.ref x]) s) :
  wpAny (model prog w) A (getMethod (.ref x) name pl) Q E s:=by
 obtain⟨od,J,hl⟩:=I.look;exact W.method_fn X J (W.plainGet_of hg).1 (W.plainGet_of hg).2 hf (beq_iff_eq.mp ht) (by show (W.lookIn name od).map (·.isSome)=some false;rw[hl,hv];rfl) h
theorem Rq {ns:List Str}{Q:Unit->Shared->Prop}(X:K.In s.heap)(I:Ee s.heap x dx C mA)(hs:W.findIn K (.ref C) "__setattr__"=some (some (.builtin "object.__setattr__")))(hp:W.plainOver K C=true)(ht:W.takerIn K C name=some none)(hh:W.hasDictIn K C=true)(hw:PySem.Within mA ns)(hsz:ns.length<=sizeLine)(h:∀h',Ee h' x dx C (fun y=>if y=name then some v else mA y)->Heap.SameBut dx s.heap h'->Q () { s with heap:=h',toks:=s.toks+2 }) :
  wpAny (model prog w) A (setAttr (.ref x) name v) Q E s:=by
 obtain⟨od,J,hl⟩:=I.look;refine W.set_plain X J hs (W.osa_open (s:={ s with toks:=s.toks+1 }) (r:=none) X J hp ht fun b=>?_);obtain⟨cd,hc,hd'⟩:=W.any_some hh;have hx:s.heap.get? x=some ⟨.ref C,some dx,.plain,#[]⟩:=I.obj;refine wpAny_bind (wpAny_pure (wpAny_bind (wpAny_bind (wpAny_loadPart hx (wpAny_bind (W.Looks.here (s:={ s with toks:=s.toks+1 }) (W.looks_clsIn X hc) ?_))))));rw[hd'];refine wpAny_pure (a:=some dx) (wpAny_bind (wpAny_pure (wpAny_bind ?_)));refine wpAny_nsSet1 (s:={ s with toks:=s.toks+1 }) I.ns fun h' hn2 hs2=>?_;obtain⟨oD,esD,epD,hoD,hdD,hcD⟩:=hn2.count (PySem.Within.cons name v hw);refine wpAny_bind (wpAny_lookBehind hoD (by rw[hdD];exact pastItsLine_dict (Nat.le_trans hcD (by rw[length_cons];lia))) ?_);exact wpAny_pure (h _ ⟨(hs2.2 _ (Ne.symm I.ne)).trans I.obj,hn2,I.ne⟩ hs2)
theorem Lw {R:Result->Shared->Prop}{vs:List Value}{kw:List (Str × Value)}(X:K.In s.heap)(hm:W.makesIn K C=true)(hi:W.findIn K (.ref C) "__init__"=some (some (.ref f)))(hf:W.typeIn K (.ref f)=some (.type "function"))(h:codeAny (model prog w) (A.under (.builtin "type.__call__" ⟨.ref C :: vs,kw⟩)) (.call (.ref f) ⟨.ref (s.heap.objs.size+1) :: vs,kw⟩) (W.InitBack (s.heap.objs.size+1) R)
   { s with heap:=(s.heap.push W.emptyDict).push (W.instObj C s.heap.objs.size) }) :
  codeAny (model prog w) A (.call (.ref C) ⟨vs,kw⟩) R s:=by
 obtain⟨hh,g,d,t,os⟩:=s;exact W.make_core (W.makes_of X hm) (W.looks_findIn X hi) (fun self=>W.bind_fn X self hf) (.inl rfl) h
end
def dG (f:Str)(v:V):List (Str × V)->List (Str × V)
 | []=>[(f,v)]
 | (g,x) :: r=>if g=f then (g,v) :: r else (g,x) :: dG f v r
theorem bA (f g:Str)(v:V):∀fs:List (Str × V),(dG f v fs).lookup g=if g=f then some v else fs.lookup g
 | []=>by
  show List.lookup g [(f,v)]=_
  by_cases h:g=f
  ·have hb:(g == f)=true:=beq_iff_eq.mpr h;simp only[List.lookup,hb,if_pos h]
  ·have hb:(g == f)=false:=beq_eq_false_iff_ne.mpr h;simp only[List.lookup,hb,if_neg h]
 | (k,x) :: r=>by
  have ih:=bA f g v r;rw[show dG f v ((k,x) :: r)=(if k=f then (k,v) :: r else (k,x) :: dG f v r) from rfl]
  by_cases hk:k=f
  ·rw[if_pos hk]
   by_cases h:g=k
   ·have hb:(g == k)=true:=beq_iff_eq.mpr h;simp only[List.lookup,hb,if_pos (h.trans hk)]
   ·have hb:(g == k)=false:=beq_eq_false_iff_ne.mpr h;simp only[List.lookup,hb,if_neg (fun e:g=f=>h (e.trans hk.symm))]
  ·rw[if_neg hk]
   by_cases h:g=k
   ·have hb:(g == k)=true:=beq_iff_eq.mpr h;simp only[List.lookup,hb,if_neg (fun e:g=f=>hk (h.symm.trans e))]
   ·have hb:(g == k)=false:=beq_eq_false_iff_ne.mpr h;simp only[List.lookup,hb];exact ih
theorem pT (f:Str)(v:V):∀fs:List (Str × V),f∈(dG f v fs).map (·.1)/\∀g,g∈fs.map (·.1)->g∈(dG f v fs).map (·.1)
 | []=>⟨by simp[dG],fun g h=>by simp at h⟩
 | (k,x) :: r=>by
  obtain⟨i1,i2⟩:=pT f v r;rw[show dG f v ((k,x) :: r)=(if k=f then (k,v) :: r else (k,x) :: dG f v r) from rfl]
  by_cases hk:k=f
  ·rw[if_pos hk];subst hk;exact⟨by simp,fun g h=>by simpa using h⟩
  ·rw[if_neg hk];refine⟨?_,fun g h=>?_⟩
   ·rw[map_cons];exact mem_cons_of_mem _ i1
   ·rw[map_cons] at h ⊢;rcases mem_cons.mp h with e | e
    ·exact mem_cons.mpr (.inl e)
    ·exact mem_cons_of_mem _ (i2 g e)
theorem eO (f:Str)(v:V):∀fs:List (Str × V),(dG f v fs).length<=fs.length+1
 | []=>by simp[dG]
 | (k,x) :: r=>by
  have ih:=eO f v r;rw[show dG f v ((k,x) :: r)=(if k=f then (k,v) :: r else (k,x) :: dG f v r) from rfl]
  by_cases hk:k=f
  ·rw[if_pos hk,length_cons,length_cons];lia
  ·rw[if_neg hk,length_cons,length_cons];lia
theorem iZ.some_of {v:V}{o:Option Value}(r:iZ (some v) o):∃u,o=some u/\bS v u:=by
 cases o with
 |none=>exact(show False from r).elim
 |some u=>exact⟨u,rfl,r⟩
theorem iZ.none_of {o:Option Value}(r:iZ none o):o=none:=by
 cases o with
 |none=>rfl
 |some u=>exact(show False from r).elim
theorem wH {v:V}{u:Value}(r:bS v u):W.handedIn u=true:=by
 cases v with
 |non=>cases (show u=Value.none from r);rfl
 |bl b=>cases (show u=Value.bool b from r);rfl
 |int i=>obtain⟨t,e⟩:=(show ∃t,u=Value.int i t from r);cases e;rfl
 |str x=>obtain⟨t,e⟩:=(show ∃t,u=Value.str x t from r);cases e;rfl
 |byt b=>obtain⟨t,e⟩:=(show ∃t,u=Value.bytes b t from r);cases e;rfl
 |flt b=>obtain⟨t,e⟩:=(show ∃t,u=Value.float b t from r);cases e;rfl
 |ref a=>cases (show u=Value.ref a from r);rfl
 |ty n=>cases (show u=Value.type n from r);rfl
section
variable {P:Program} {w:World} {H H':Hp} {h h':Heap} {a C dx:Addr} {fs fs':List (Str × V)}
theorem rV (hok:HOk P w H h)(e:H a=some (.ins C dx fs)):∃mA,Ee h a dx C mA/\(∀f,iZ (fs.lookup f) (mA f))/\PySem.Within mA (fs.map (·.1))/\fs.length<=1000/\H dx=some (.own a):=by
 obtain⟨d,z,ne,ob,mA,n,r,q⟩:=(show cD P w H h a (.ins C dx fs) from hok a _ e)
 exact⟨mA,⟨ob,n,ne⟩,r,q,z,d⟩
end
structure Cls (K:Frag) (C:Addr):Prop where
 pg:W.plainGet K C Str.empty=true
 hd:W.hasDictIn K C=true
 po:W.plainOver K C=true
 sa:W.findIn K (.ref C) "__setattr__"=some (some (.builtin "object.__setattr__"))
theorem Cls.get {K:Frag}{C:Addr}(c:Cls K C)(f:Str):W.plainGet K C f=true:=c.pg
def gB (K:Frag)(C:Addr)(f:Str):Prop:=W.findIn K (.ref C) f=some none
theorem gB.taker {K:Frag}{C:Addr}{f:Str}(n:gB K C f):W.takerIn K C f=some none:=by
 unfold W.takerIn;rw[show W.findIn K (.ref C) f=some none from n];rfl
structure iB (K:Frag) (C:Addr) (m:Str) (f:Addr):Prop where
 at_:W.findIn K (.ref C) m=some (some (.ref f))
 fn:W.isFn K (.ref f)=true
 kp:W.keepIn K (.ref f)=true
section
variable {X:Cx} {pins:List (Addr × Obj)} {σ:St} {H:Hp} {s:Shared} {a C dx:Addr} {fs:List (Str × V)} {f:Str} {v:V} {A:Around} {E:Value->Shared->Prop}
theorem Dt {b:Bool}{Q:Value->Shared->Prop}(I:Inv X pins σ H s)(e:H a=some (.ins C dx fs))(c:Cls X.K C)(n:gB X.K C f)(l:fs.lookup f=some v)(h:∀u s',Inv X pins σ H s'->bS v u->Q u s'):wpAny (model X.prog X.w) A (getAttr (.ref a) f b) Q E s:=by
 obtain⟨mA,O,r,_,_,_⟩:=rV I.hok e;obtain⟨u,hu,ru⟩:=iZ.some_of (v:=v) (o:=mA f) (by rw[<- l];exact r f);exact Qs I.kIn O (c.get f) c.hd n hu (wH ru) (h u _ (I.tok _) ru)
theorem nC {m:Str}{g:Addr}{pl:Sem Bool}{Q:Value × List Value->Shared->Prop}(I:Inv X pins σ H s)(e:H a=some (.ins C dx fs))(c:Cls X.K C)(k:iB X.K C m g)(l:fs.lookup m=none)(h:Q (.ref g,[.ref a]) s):wpAny (model X.prog X.w) A (getMethod (.ref a) m pl) Q E s:=by
 obtain⟨mA,O,r,_,_,_⟩:=rV I.hok e;have hn:mA m=none:=iZ.none_of (by rw[<- l];exact r m);exact Po I.kIn O (c.get m) k.at_ k.fn hn h
theorem Dq {y:V}{u:Value}{Q:Unit->Shared->Prop}(I:Inv X pins σ H s)(e:H a=some (.ins C dx fs))(c:Cls X.K C)(n:gB X.K C f)(hl:fs.length < 1000)(ry:bS y u)(h:∀s',Inv X pins σ (upd H a (.ins C dx (dG f y fs))) s'->Q () s'):wpAny (model X.prog X.w) A (setAttr (.ref a) f u) Q E s:=by
 obtain⟨mA,O,r,wi,_,ho⟩:=rV I.hok e;have hz:(fs.map (·.1)).length<=sizeLine:=by rw[length_map,sizeLine_eq];lia
 refine Rq I.kIn O c.sa c.po n.taker c.hd wi hz fun h' O' sb=>h _ ?_;have hd:∃o,h'.get? dx=some o:=let ⟨o,_,_,e',_⟩:=O'.ns;⟨o,e'⟩
 refine I.write (x:=a) (e:=dx) (by rw[e];exact True.intro) (.inr ho) (fun b q hb z=>(sb.2 b hb).trans z) hd ?_;refine⟨by rw[aM O.ne];exact ho,?_,O.ne,O'.obj,_,O'.ns,fun g=>?_,fun g hg=>?_⟩
 ·have:=eO f y fs;lia
 ·show iZ ((dG f y fs).lookup g) (if g=f then some u else mA g);rw[bA]
  by_cases q:g=f
  ·rw[if_pos q,if_pos q];exact ry
  ·rw[if_neg q,if_neg q];exact r g
 ·by_cases q:g=f
  ·rw[q];exact(pT f y fs).1
  ·refine(pT f y fs).2 g (wi g fun z=>hg ?_);show (if g=f then some u else mA g)=none;rw[if_neg q];exact z
theorem Inv.made (I:Inv X pins σ H s):Inv X pins σ (upd (upd H s.heap.objs.size (.own (s.heap.objs.size+1))) (s.heap.objs.size+1) (.ins C s.heap.objs.size []))
  { s with heap:=(s.heap.push W.emptyDict).push (W.instObj C s.heap.objs.size) }:=by
 have e1:(s.heap.push W.emptyDict).get? s.heap.objs.size=some W.emptyDict:=Heap.get?_push_size s.heap rfl;have e2:((s.heap.push W.emptyDict).push (W.instObj C s.heap.objs.size)).get? (s.heap.objs.size+1)=some (W.instObj C s.heap.objs.size):=by
  have:=Heap.get?_push_size (s.heap.push W.emptyDict) (o:=W.instObj C s.heap.objs.size) rfl
  rwa [Heap.size_push] at this
 have e3:(s.heap.push W.emptyDict).Ns s.heap.objs.size (fun _=>none):=⟨W.emptyDict,#[],_,e1,rfl,(fun e he=>absurd he (by simp)),fun _=>rfl⟩
 have I1:=I.laid (a:=s.heap.objs.size) (o:=.own (s.heap.objs.size+1)) (h':=s.heap.push W.emptyDict) (t':=s.toks) (fun b u q=>Heap.get?_push_of_some _ q) (Nat.le_refl _) ⟨_,e1⟩;refine I1.laid (a:=s.heap.objs.size+1) (o:=.ins C s.heap.objs.size []) (t':=s.toks) (fun b u q=>Heap.get?_push_of_some _ q) (Nat.le_of_eq (Heap.size_push _ _)) ?_;have ne:s.heap.objs.size≠s.heap.objs.size+1:=Nat.ne_of_lt (Nat.lt_succ_self _);refine⟨by rw[aM ne,aB],Nat.zero_le _,ne,e2,fun _=>none,(Heap.Ns1.of_empty e3).at fun o q=>Heap.get?_push_of_some _ q,fun _=>True.intro,fun y hy=>absurd rfl hy⟩
theorem Gr {prog:Program}{w:World}{env:Env}{e:Expr}{f:Str}{pos:Pos}{s:Shared}{Q:Value->Shared->Prop}(hb:attributeBase e f env (eval e env)=eval e env)(h:wpAny (model prog w) A (eval e env) (fun o s₁=>wpAny (model prog w) A (getAttr o f true) Q E s₁) E s):wpAny (model prog w) A (eval (.Attribute e f pos) env) Q E s:=
 Attribute_any_ h (by rw[arm_eval_Attribute,hb])
end
def Zs (K:Frag)(ta:TE)(f:Str):TE:=fun σ H Q=>ta σ H fun x H1=>∃a C dx fs v,x=.ref a/\H1 a=some (.ins C dx fs)/\Cls K C/\gB K C f/\fs.lookup f=some v/\Q v H1
def qe7 (K:Frag)(ta tv:TE)(f:Str):TS:=fun D σ H=>tv σ H fun y H1=>ta σ H1 fun x H2=>∃a C dx fs,x=.ref a/\H2 a=some (.ins C dx fs)/\Cls K C/\gB K C f/\fs.length < 1000/\
 D.nx σ (upd H2 a (.ins C dx (dG f y fs)))
section
variable {X:Cx} {o e value:Expr} {f:Str} {pos pos' tpos:Pos} {ta tv:TE}
theorem cK (he:PE X e ta)(hb:attributeBase e f X.env (eval e X.env)=eval e X.env):PE X (.Attribute e f pos) (Zs X.K ta f):=by
 intro pins s σ H Q I h;refine Gr hb (thn (he pins s σ H _ I h) fun u s1 ⟨x,H1,I1,rx,a,C,dx,fs,v,ex,ea,c,n,l,q⟩=>?_);subst ex;obtain rfl:u=Value.ref a:=rx;exact Dt I1 ea c n l fun u' s2 I2 ru=>⟨v,H1,I2,ru,q⟩
theorem lB (ha:PE X o ta)(hv:PE X value tv)(hs:swapsWith value (some (.Attribute o f pos')) pos.line X.env=pure false):PS X (.Assign [.Attribute o f pos'] value pos) (qe7 X.K ta tv f):=by
 intro pins s σ H D I h;refine plainObj_wpAny_Assign_Attribute (thn (hv pins s σ H _ I h) fun u s1 ⟨y,H1,I1,ry,q⟩=>thn (ha pins s1 σ H1 _ I1 q) fun ov s2 ⟨x,H2,I2,rx,a,C,dx,fs,ex,ea,c,n,l,q2⟩=>?_) hs;subst ex;obtain rfl:ov=Value.ref a:=rx;exact Dq I2 ea c n l ry fun s3 I3=>⟨σ,_,I3,q2⟩
end
section
variable {X:Cx} {pins:List (Addr × Obj)} {σ:St} {H:Hp} {s:Shared} {A:Around} {E:Value->Shared->Prop} {Q:Value->Shared->Prop} {c:Value} {b:Bool}
inductive jB (K:Frag) (H:Hp):V->Value->Prop where
 |non:jB K H .non (.type "NoneType")
 |bl (x:Bool):jB K H (.bl x) (.type "bool")
 |int (i:Int):jB K H (.int i) (.type "int")
 |str (x:Str):jB K H (.str x) (.type "str")
 |flt (x:UInt64):jB K H (.flt x) (.type "float")
 |lst {a:Addr} {xs:List V} (e:H a=some (.lst xs)):jB K H (.ref a) (.type "list")
 |frz {a:Addr} {o:Obj} {xs:List V} (e:H a=some (.frz o (.lst xs))):jB K H (.ref a) (.type "list")
 |tup {a:Addr} {xs:List V} (e:H a=some (.tup xs)):jB K H (.ref a) (.type "tuple")
 |dK {a:Addr} {kvs:List (Key × V)} (e:H a=some (.dK kvs)):jB K H (.ref a) (.type "dict")
 |dT {a:Addr} {kvs:List (List Key × V)} (e:H a=some (.dT kvs)):jB K H (.ref a) (.type "dict")
 |ins {a C dx:Addr} {fs:List (Str × V)} (e:H a=some (.ins C dx fs)) (cl:Cls K C) (ha:W.findIn K (.ref C) "__class__"=some (some (.builtin "object.__class__")))
   (hn:W.specialIn K (.builtin "object.__class__") "__get__"=some (some (.builtin "getset_descriptor.__get__"))) (htk:W.takesIn K (.builtin "object.__class__")=some true)
   (hm:W.mroIn K C (.type "object")=some true):jB K H (.ref a) (.ref C)
theorem Ib {x:V}{u t:Value}(I:Inv X pins σ H s)(rx:bS x u)(ty:jB X.K H x t)(e:W.kitOne X.K t c=some b)(h:∀tk,Q (.bool b) { s with toks:=tk }) :
  wpAny (model X.prog X.w) A (call (.builtin "isinstance") [u,c]) Q E s:=by
 cases ty with
 |non=>cases (show u=Value.none from rx);exact W.kia_one W.kitx_none I.kIn True.intro e (fun z=>nomatch z) h
 |bl y=>cases (show u=Value.bool y from rx);exact W.kia_one W.kitx_bool I.kIn True.intro e (fun z=>nomatch z) h
 |int i=>obtain⟨t,q⟩:=(show ∃t,u=Value.int i t from rx);cases q;exact W.kia_one W.kitx_int I.kIn True.intro e (fun z=>nomatch z) h
 |str y=>obtain⟨t,q⟩:=(show ∃t,u=Value.str y t from rx);cases q;exact W.kia_one W.kitx_str I.kIn True.intro e (fun z=>nomatch z) h
 |flt y=>obtain⟨t,q⟩:=(show ∃t,u=Value.float y t from rx);cases q;exact W.kia_one W.kitx_float I.kIn True.intro e (fun z=>nomatch z) h
 | @lst a xs ea=>
  cases (show u=Value.ref a from rx)
  obtain⟨_,_,n,_,h1⟩:=(show cD X.prog X.w H s.heap a (.lst xs) from I.hok a _ ea)
  exact W.kia_one W.kitx_list I.kIn ⟨_,h1,rfl⟩ e (fun z=>nomatch z) h
 | @frz a ob xs ea=>
  cases (show u=Value.ref a from rx)
  obtain⟨_,_,_,n,_,h1⟩:=(show cD X.prog X.w H s.heap a (.frz ob (.lst xs)) from I.hok a _ ea)
  exact W.kia_one W.kitx_list I.kIn ⟨_,h1,rfl⟩ e (fun z=>nomatch z) h
 | @tup a xs ea=>
  cases (show u=Value.ref a from rx)
  obtain⟨_,_,_,p⟩:=(show cD X.prog X.w H s.heap a (.tup xs) from I.hok a _ ea)
  obtain⟨o,h1,h2,_⟩:=p;exact W.kia_one W.kitx_tuple I.kIn ⟨o,h1,h2⟩ e (fun z=>nomatch z) h
 | @dK a kvs ea=>
  cases (show u=Value.ref a from rx)
  obtain⟨_,_,vs,_,p⟩:=(show cD X.prog X.w H s.heap a (.dK kvs) from I.hok a _ ea)
  obtain⟨o,es,ep,h1,h2,_⟩:=p;exact W.kia_one W.kitx_dict I.kIn ⟨o,h1,h2.1⟩ e (fun z=>nomatch z) h
 | @dT a kvs ea=>
  cases (show u=Value.ref a from rx)
  obtain⟨_,_,xs,_,o,es,ep,h1,h2,_⟩:=(show cD X.prog X.w H s.heap a (.dT kvs) from I.hok a _ ea)
  exact W.kia_one W.kitx_dict I.kIn ⟨o,h1,h2.1⟩ e (fun z=>nomatch z) h
 | @ins a C dx fs ea cl ha hn htk hm=>
  cases (show u=Value.ref a from rx)
  obtain⟨mA,O,_⟩:=rV I.hok ea;obtain⟨od,J,_⟩:=O.look;exact W.kia_one (W.kitx_own (cl.get _) cl.hd ha hn htk hm) I.kIn J e (fun z=>nomatch z) h
end
structure fQ (k:Nat) (A:Around):Prop where
 hd:A.handled=none
 dp:A.depth+3*k+5 < recursionLimit
 un:A.units+16*k+200 < cLine
theorem fQ.mono {j k:Nat}{A:Around}(r:fQ k A)(h:j<=k):fQ j A:=⟨r.hd,by have:=r.dp;lia,by have:=r.un;lia⟩
theorem fQ.deeper {k:Nat}{A:Around}(r:fQ (k+1) A)(env:Env):fQ k (A.deeper env):=
 ⟨r.hd,by have:=r.dp;show A.depth+1+3*k+5 < _;lia,by have:=r.un;show A.units+3+16*k+200 < _;lia⟩
theorem Fc {A:Around}{C:Addr}{us:List Value}{kw:List (Str × Value)}:(A.under (.builtin "type.__call__" ⟨.ref C :: us,kw⟩)).depth=A.depth+1:=by
 first | rfl | simp[Around.under,Code.weight,Code.isCreation,Code.isGuard,Code.isCaller,Code.frames,Code.isFrame,guardIds]
theorem Cy {A:Around}{C:Addr}{us:List Value}{kw:List (Str × Value)}:(A.under (.builtin "type.__call__" ⟨.ref C :: us,kw⟩)).units=A.units+1:=by
 first | rfl | simp[Around.under,Code.cUnits,Code.frames,Code.isFrame]
theorem fQ.make {k:Nat}{A:Around}(r:fQ (k+1) A)(C:Addr)(us:List Value)(kw:List (Str × Value)):fQ k (A.under (.builtin "type.__call__" ⟨.ref C :: us,kw⟩)):=
 ⟨r.hd,by have:=r.dp;rw[Fc];lia,by have:=r.un;rw[Cy];lia⟩
theorem fQ.depth {k:Nat}{A:Around}(r:fQ k A):A.depth < recursionLimit:=by have:=r.dp;lia
theorem fQ.units {k:Nat}{A:Around}(r:fQ k A):A.units+64 < cLine:=by have:=r.un;lia
def Sy:TA:=fun _ H Q=>Q [] H
def Uz (ta:TE)(tr:TA):TA:=fun σ H Q=>ta σ H fun x H1=>tr σ H1 fun xs H2=>Q (x :: xs) H2
section
variable {X:Cx} {e:Expr} {es:List Expr} {te:TE} {t:TA} {pos:Pos}
theorem aC:PA X [] Sy:=fun _ _ _ _ H Q I h=>Calls.spliced_nil ⟨[],H,I,.nil,h⟩
theorem aA (ha:PE X e te)(hr:PA X es t)(hs:starEach (e :: es) X.env=(false,eval e X.env) :: starEach es X.env:=by rfl):PA X (e :: es) (Uz te t):=by
 intro pos pins s σ H Q I h;rw[hs];show wpAny _ _ (spliced ((false,eval e X.env) :: backTo pos (starEach es X.env))) _ _ s;refine Calls.spliced_cons (thn (ha pins s σ H _ I h) fun u s1 ⟨x,H1,I1,r1,q1⟩=>?_);exact thn (hr pos pins s1 σ H1 _ I1 q1) fun us s2 ⟨xs,H2,I2,r2,q2⟩=>⟨x :: xs,H2,I2,.cons r1 r2,q2⟩
def qg0 (t:TA):TE:=fun σ H Q=>t σ H fun xs H1=>xs.length<=sizeLine/\∀p,H1 p=none->Q (.ref p) (upd H1 p (.tup xs))
def qg9 (t:TA):TE:=fun σ H Q=>t σ H fun xs H1=>xs.length<=sizeLine/\∀p,H1 p=none->Q (.ref p) (upd H1 p (.lst xs))
theorem cV {x1}(h:PA X es t):PE X (.Tuple es x1 pos) (qg0 t):=by
 intro pins s σ H Q I hq;refine wpAny_Tuple_spliced (thn (h pos pins s σ H _ I hq) fun us s1 ⟨xs,H1,I1,r,z,q⟩=>⟨by rw[<- r.length];exact z,?_⟩);have hf:H1 s1.heap.objs.size=none:=I1.hok.fresh (Nat.le_refl _);refine⟨.ref s1.heap.objs.size,upd H1 s1.heap.objs.size (.tup xs),I1.laid (t':=s1.toks) (fun b u e=>Heap.get?_push_of_some _ e) (Nat.le_refl _) ?_,rfl,q _ hf⟩;exact⟨z,us,r,⟨_,Heap.get?_push_size _ rfl,rfl,_,rfl⟩⟩
theorem cX (h:PA X es t):PE X (.List es pos) (qg9 t):=by
 intro pins s σ H Q I hq;refine wpAny_List_spliced (thn (h pos pins s σ H _ I hq) fun us s1 ⟨xs,H1,I1,r,z,q⟩=>⟨by rw[<- r.length];exact z,?_⟩);have hf:H1 s1.heap.objs.size=none:=I1.hok.fresh (Nat.le_refl _);refine⟨.ref s1.heap.objs.size,upd H1 s1.heap.objs.size (.lst xs),I1.laid (t':=s1.toks) (fun b u e=>Heap.get?_push_of_some _ e) (Nat.le_refl _) ?_,rfl,q _ hf⟩;exact⟨z,us,0,r,Heap.get?_push_size _ rfl⟩
end
abbrev Sp:=List V->Hp->VK->XK->Prop
abbrev CXT:=List Env->Hp->Shared->XK->Value->Shared->Prop
structure Cr (P:Program) (w:World) (K:Frag) (mg:Str->Option Value) (base:Heap) (A:Around) (outer:List Env) (s:Shared) (H:Hp):Prop where
 frames:A.frames=some outer
 mod:Mod K mg base
 bs:∀b o,base.get? b=some o->s.heap.get? b=some o/\H b=none
 bsz:base.objs.size<=s.heap.objs.size
 funs:s.heap.FunFrames base outer
 frf:∀b∈frs outer,H b=none
 hok:HOk P w H s.heap
 bare:AllBare s.gens
def CE (outer:List Env)(P:Program)(w:World)(H:Hp)(s:Shared)(Q:VK)(u:Value)(s':Shared):Prop:=
 ∃v H',s'.os=s.os/\AllBare s'.gens/\Un (frs outer) [] H H' s.heap s'.heap/\HOk P w H' s'.heap/\bS v u/\Q v H'
def CR (CX:CXT)(outer:List Env)(P:Program)(w:World)(H:Hp)(s:Shared)(Q:VK)(E:XK)(r:Result)(s':Shared):Prop:=
 match r with
 | .ok (.ret u)=>CE outer P w H s Q u s'
 | .ok _=>False
 | .error e=>CX outer H s E e s'
structure aJ (P:Program) (w:World) (K:Frag) (mg:Str->Option Value) (base:Heap) (CX:CXT) (k:Nat) (f:Addr) (fd:FuncData) (ps:List Str) (sp:Sp):Prop where
 len:∀vs H Q E,sp vs H Q E->vs.length=ps.length
 run:∀(A:Around) (outer:List Env) (s:Shared) (H:Hp) (args:Args) (us:List Value) (vs:List V) (Q:VK) (E:XK),fQ k A->Cr P w K mg base A outer s H->BindsTo s fd args (ps.zip us)->bL vs us->sp vs H Q E->
  codeAny (model P w) A (.call (.ref f) args) (CR CX outer P w H s Q E) s
theorem Cr.make {P:Program}{w:World}{K:Frag}{mg:Str->Option Value}{base:Heap}{A:Around}{outer:List Env}{s:Shared}{H:Hp}(e:Cr P w K mg base A outer s H)(C:Addr)(us:List Value)(kw:List (Str × Value)) :
  Cr P w K mg base (A.under (.builtin "type.__call__" ⟨.ref C :: us,kw⟩)) outer s H:=⟨by first | exact e.frames | (simpa[Around.under,Code.envs,Code.isFrame,pushEnvs] using e.frames),e.mod,e.bs,e.bsz,e.funs,e.frf,e.hok,e.bare⟩
section
variable {X:Cx} {pins:List (Addr × Obj)} {σ:St} {H:Hp} {s s':Shared}
theorem Inv.env0 (I:Inv X pins σ H s):Cr X.prog X.w X.K X.mg X.base X.A X.stack s H:=
 ⟨I.ok.frames,I.ok.mod,I.bs,Nat.le_trans I.ok.bsz I.sz,I.stack,I.stkFree,I.hok,I.bare⟩
theorem Inv.after {Q:VK}{u:Value}(I:Inv X pins σ H s)(h:CE X.stack X.prog X.w H s Q u s'):EP X pins σ Q u s':=by
 obtain⟨v,H',os,bare,un,hok,r,q⟩:=h;obtain⟨hh,g,d,t,os'⟩:=s';obtain rfl:os'=s.os:=os;exact⟨v,H',I.call (h':=hh) (g':=g) (d':=d) (t':=t) (ch:=[]) un hok bare (fun b z=>absurd z (by simp)),r,q⟩
end
def Zx (sp:Sp)(dvs:List V)(E:XK)(t:TA):TE:=fun σ H Q=>t σ H fun vs H1=>sp (vs++dvs) H1 Q E
def Va (C:Addr)(m:Str)(sp:Sp)(dvs:List V)(E:XK)(ta:TE)(t:TA):TE:=fun σ H Q=>ta σ H fun x H1=>∃a dx fs,x=.ref a/\H1 a=some (.ins C dx fs)/\fs.lookup m=none/\
 t σ H1 fun vs H2=>sp (x :: (vs++dvs)) H2 Q E
def Zo (C:Addr)(sp:Sp)(dvs:List V)(E:XK)(t:TA):TE:=fun σ H Q=>t σ H fun vs H1=>∀x dx,H1 x=none->H1 dx=none->dx≠x->
 sp (.ref x :: (vs++dvs)) (upd (upd H1 dx (.own x)) x (.ins C dx [])) (fun v H2=>v=.non/\Q (.ref x) H2) E
def aP (K:Frag)(fd:FuncData)(ps:List Str)(ds:List Value):Prop:=
 ∀(s:Shared) (us:List Value),K.In s.heap->(us++ds).length=ps.length->BindsTo s fd ⟨us,[]⟩ (ps.zip (us++ds))
theorem aP.all {K:Frag}{fd:FuncData}{ps:List Str}(h:∀us:List Value,us.length=ps.length->bindArgs fd ⟨us,[]⟩=pure (ps.zip us)):aP K fd ps []:=fun s us _ hl=>by
 rw[append_nil] at hl ⊢;exact .of_eq (h us hl)
def kB (CX:CXT)(X:Cx)(E:XK):Prop:=∀(pins:List (Addr × Obj)) (σ:St) (H:Hp) (s:Shared) (e:Value) (s':Shared),Inv X pins σ H s->CX X.stack H s E e s'->X.xe e s'
section
variable {X:Cx} {CX:CXT} {k:Nat} {f C:Addr} {fd:FuncData} {ps:List Str} {sp:Sp} {dvs:List V} {ds:List Value} {E:XK} {x m:Str} {p pos apos:Pos} {e o:Expr} {es:List Expr} {ta:TE} {t:TA}
theorem yF {pins:List (Addr × Obj)}{σ:St}{H:Hp}{s:Shared}{Q:VK}{us:List Value}{vs:List V}(F:aJ X.prog X.w X.K X.mg X.base CX k f fd ps sp)(hr:fQ k X.A)(hb:aP X.K fd ps ds)(hd:bL dvs ds)(hx:kB CX X E)(I:Inv X pins σ H s)(r:bL vs us)(h:sp (vs++dvs) H Q E):wpAny (model X.prog X.w) X.A (call (.ref f) us) (EP X pins σ Q) X.xe s:=by
 have r2:bL (vs++dvs) (us++ds):=r.append hd;have hl:(us++ds).length=ps.length:=by rw[<- r2.length];exact F.len _ _ _ _ h
 refine wpAny_call (codeAny_mono (F.run X.A X.stack s H ⟨us,[]⟩ (us++ds) (vs++dvs) Q E hr I.env0 (hb s us I.kIn hl) r2 h) fun r s' hq=>?_)
 cases r with
 |error e=>exact hx pins σ H s e s' I hq
 |ok fl=>
  cases fl with
  |ret u=>exact I.after hq
  |next=>exact False.elim hq
  |brk=>exact False.elim hq
  |cont=>exact False.elim hq
theorem aI (F:aJ X.prog X.w X.K X.mg X.base CX k f fd ps sp)(hr:fQ k X.A)(hg:Gl X x)(hm:X.mg x=some (.ref f))(hk:W.keepIn X.K (.ref f)=true)(hb:aP X.K fd ps ds)(hd:bL dvs ds)(hx:kB CX X E)(ha:PA X (e :: es) t)(hdb:(x == ("__debug__":Str))=false:=by decide)(he:starEach (e :: es) X.env=(false,eval e X.env) :: starEach es X.env:=by rfl)(hpl:(backTo pos (starEach es X.env)).any (·.1)=false:=by rfl) :
  PE X (.Call (.Name x p) (e :: es) [] pos) (Zx sp dvs E t):=by
 intro pins s σ H Q I h;refine wpAny_Call_Name_kw (iR I hg hm ?_ hdb);refine W.callWith_K (h₀:=X.base) I.ok.mod.kin hk (thn (ha pos pins s σ H _ I h) fun us s1 ⟨vs,H1,I1,r,q⟩=>⟨I1.kIn,?_⟩) he hpl;exact yF F hr hb hd hx I1 r q
theorem xS {pl:Sem Bool}(he:PE X o ta)(c:Cls X.K C)(hm:iB X.K C m f)(F:aJ X.prog X.w X.K X.mg X.base CX k f fd ps sp)(hr:fQ k X.A)(hb:aP X.K fd ps ds)(hd:bL dvs ds)(hx:kB CX X E)(ha:PA X (e :: es) t)(hst:starEach (e :: es) X.env=(false,eval e X.env) :: starEach es X.env:=by rfl)(hpl:(backTo pos (starEach es X.env)).any (·.1)=false:=by rfl)(ht:eval (.Call (.Attribute o m apos) (e :: es) [] pos) X.env=(do
   let ov <- eval o X.env
   standAt apos.atName
   let (f,first) <- holding [ov] (getMethod ov m pl)
   callWith pos f first (backTo pos (starEach (e :: es) X.env)) (backToKw pos (keywordEach [] X.env))):=by rfl) :
  PE X (.Call (.Attribute o m apos) (e :: es) [] pos) (Va C m sp dvs E ta t):=by
 intro pins s σ H Q I h;refine W.methodCall_KW (pl:=pl) (thn (he pins s σ H _ I h) fun u s1 ⟨x,H1,I1,rx,a,dx,fs,ex,ea,l,q⟩=>?_) ht;subst ex;obtain rfl:u=Value.ref a:=rx;refine nC I1 ea c hm l ?_;refine W.callWith_K (first:=[.ref a]) (h₀:=X.base) I.ok.mod.kin hm.kp (thn (ha pos pins s1 σ H1 _ I1 q) fun us s2 ⟨vs,H2,I2,r,q2⟩=>⟨I2.kIn,?_⟩) hst hpl;exact yF (us:=.ref a :: us) (vs:=.ref a :: vs) F hr hb hd hx I2 (.cons rfl r) q2
theorem fC {pl:Sem Bool}(he:PE X o ta)(c:Cls X.K C)(hm:iB X.K C m f)(F:aJ X.prog X.w X.K X.mg X.base CX k f fd ps sp)(hr:fQ k X.A)(hb:aP X.K fd ps ds)(hd:bL dvs ds)(hx:kB CX X E)(ht:eval (.Call (.Attribute o m apos) [] [] pos) X.env=(do
   let ov <- eval o X.env
   standAt apos.atName
   let (f,first) <- holding [ov] (getMethod ov m pl)
   callWith pos f first (backTo pos (starEach [] X.env)) (backToKw pos (keywordEach [] X.env))):=by rfl) :
  PE X (.Call (.Attribute o m apos) [] [] pos) (Va C m sp dvs E ta Sy):=by
 intro pins s σ H Q I h;refine W.methodCall_KW (pl:=pl) (thn (he pins s σ H _ I h) fun u s1 ⟨x,H1,I1,rx,a,dx,fs,ex,ea,l,q⟩=>?_) ht;subst ex;obtain rfl:u=Value.ref a:=rx;refine nC I1 ea c hm l ?_;exact W.callWith_K0 (first:=[.ref a]) I1.kIn hm.kp (yF (us:=[.ref a]) (vs:=[.ref a]) F hr hb hd hx I1 (.cons rfl .nil) q)
structure Mk (K:Frag) (C f:Addr):Prop where
 makes:W.makesIn K C=true
 init:W.findIn K (.ref C) "__init__"=some (some (.ref f))
 fn:W.isFn K (.ref f)=true
 kp:W.keepIn K (.ref C)=true
theorem Lp {pins:List (Addr × Obj)}{σ:St}{H:Hp}{s:Shared}{Q:VK}{us:List Value}{vs:List V}(M:Mk X.K C f)(F:aJ X.prog X.w X.K X.mg X.base CX k f fd ps sp)(hr:fQ (k+1) X.A)(hb:aP X.K fd ps ds)(hd:bL dvs ds)(hx:kB CX X E)(I:Inv X pins σ H s)(r:bL vs us)(h:∀x dx,H x=none->H dx=none->dx≠x->sp (.ref x :: (vs++dvs)) (upd (upd H dx (.own x)) x (.ins C dx [])) (fun v H2=>v=.non/\Q (.ref x) H2) E) :
  wpAny (model X.prog X.w) X.A (call (.ref C) us) (EP X pins σ Q) X.xe s:=by
 have hq:=h (s.heap.objs.size+1) s.heap.objs.size (I.hok.fresh (Nat.le_succ _)) (I.hok.fresh (Nat.le_refl _)) (Nat.ne_of_lt (Nat.lt_succ_self _));have I2:=Inv.made (C:=C) I;have r2:bL (V.ref (s.heap.objs.size+1) :: (vs++dvs)) (Value.ref (s.heap.objs.size+1) :: (us++ds)):=.cons rfl (r.append hd);have hl:(Value.ref (s.heap.objs.size+1) :: us++ds).length=ps.length:=by
  have e:=r2.length;rw[F.len _ _ _ _ hq] at e;exact e.symm
 refine wpAny_call (Lw (f:=f) I.kIn M.makes M.init (beq_iff_eq.mp M.fn) (codeAny_mono (F.run _ X.stack _ _ ⟨Value.ref (s.heap.objs.size+1) :: us,[]⟩ (Value.ref (s.heap.objs.size+1) :: (us++ds)) _ _ E (hr.make C us [])
  (I2.env0.make C us []) (hb _ (Value.ref (s.heap.objs.size+1) :: us) I2.kIn hl) r2 hq) fun r s' hq'=>?_))
 cases r with
 |error e=>exact hx pins σ _ _ e s' I2 hq'
 |ok fl=>
  cases fl with
  |ret u=>
   obtain⟨v,H',I3,rv,ev,q3⟩:=I2.after hq';subst ev;exact⟨rv,⟨V.ref (s.heap.objs.size+1),H',I3,rfl,q3⟩⟩
  |next=>exact False.elim hq'
  |brk=>exact False.elim hq'
  |cont=>exact False.elim hq'
theorem lY (M:Mk X.K C f)(F:aJ X.prog X.w X.K X.mg X.base CX k f fd ps sp)(hr:fQ (k+1) X.A)(hg:Gl X x)(hm:X.mg x=some (.ref C))(hb:aP X.K fd ps ds)(hd:bL dvs ds)(hx:kB CX X E)(ha:PA X (e :: es) t)(hdb:(x == ("__debug__":Str))=false:=by decide)(he:starEach (e :: es) X.env=(false,eval e X.env) :: starEach es X.env:=by rfl)(hpl:(backTo pos (starEach es X.env)).any (·.1)=false:=by rfl) :
  PE X (.Call (.Name x p) (e :: es) [] pos) (Zo C sp dvs E t):=by
 intro pins s σ H Q I h;refine wpAny_Call_Name_kw (iR I hg hm ?_ hdb);refine W.callWith_K (h₀:=X.base) I.ok.mod.kin M.kp (thn (ha pos pins s σ H _ I h) fun us s1 ⟨vs,H1,I1,r,q⟩=>⟨I1.kIn,?_⟩) he hpl;exact Lp M F hr hb hd hx I1 r q
end
structure aQ (N P:List Str) (sc:Scope):Prop where
 kind:sc.kind=.function
 co:sc.isCoroutine=false
 gen:sc.isGenerator=false
 nd:N.Nodup
 pre:N.take P.length=P
 par:∀x∈P,sc.names.lookup x=some .local\/sc.names.lookup x=some .cell
 nofree:∀y∈sc.names,y.2≠.free
theorem sK9 {N P:List Str}{sc:Scope}(a:sc.kind=.function)(b:sc.isCoroutine=false)(c:sc.isGenerator=false)(d:N.take P.length=P)(e:(decide N.Nodup&&decide (∀x∈P,sc.names.lookup x=some .local\/sc.names.lookup x=some .cell)&&decide (∀y∈sc.names,y.2≠.free))=true):aQ N P sc:=by
 rw[Bool.and_eq_true,Bool.and_eq_true] at e
 exact ⟨a,b,c,of_decide_eq_true e.1.1,d,of_decide_eq_true e.1.2,of_decide_eq_true e.2⟩
theorem zl9 (n:Nat)(h:n<=16:=by decide):n<=sizeLine:=Nat.le_trans h (by decide)
abbrev kI9 (K:Frag)(g:Addr):Prop:=W.keepIn K (.ref g)=true
abbrev mI9 (mg:Str->Option Value)(x:Str)(g:Addr):Prop:=mg x=some (.ref g)
theorem wK {kindOf:Str->Option NameKind}{x:Str}:∀{binds:List (Str × Value)} {m:Str->Option Value},(∀v,(x,v)∉binds)->bindL kindOf binds m x=m x
 | [],_,_=>rfl
 | (n,v) :: r,m,h=>by
  unfold bindL;rw[wK fun w hw=>h w (mem_cons_of_mem _ hw)];split
  ·have:x≠n:=by rintro rfl;exact h v mem_cons_self
   simp[this]
  ·rfl
theorem vZ {kindOf:Str->Option NameKind}{x:Str}:∀{binds:List (Str × Value)} {m:Str->Option Value},(∀v,(x,v)∉binds)->bindC kindOf binds m x=m x
 | [],_,_=>rfl
 | (n,v) :: r,m,h=>by
  unfold bindC;rw[vZ fun w hw=>h w (mem_cons_of_mem _ hw)];split
  ·rfl
  ·have:x≠n:=by rintro rfl;exact h v mem_cons_self
   simp[this]
theorem xJ {kindOf:Str->Option NameKind}{x:Str}{v:Value}:∀{P:List Str} {vs:List Value} {i:Nat} {m:Str->Option Value},P.Nodup->P[i]?=some x->vs[i]?=some v->kindOf x=some .local->
  bindL kindOf (P.zip vs) m x=some v
 | [],_,_,_,_,h,_,_=>by simp at h
 |_ :: _,[],_,_,_,_,h,_=>by simp at h
 |p :: P,w :: vs,0,m,nd,h1,h2,hk=>by
  simp at h1 h2;subst h1;subst h2;show bindL kindOf ((p,w) :: P.zip vs) m p=_;unfold bindL;rw[wK fun v hv=>(nodup_cons.mp nd).1 (of_mem_zip hv).1,if_pos hk];simp
 |p :: P,w :: vs,i+1,m,nd,h1,h2,hk=>by
  show bindL kindOf ((p,w) :: P.zip vs) m x=_;unfold bindL;exact xJ (i:=i) (nodup_cons.mp nd).2 (by simpa using h1) (by simpa using h2) hk
theorem xD {kindOf:Str->Option NameKind}{x:Str}{v:Value}:∀{P:List Str} {vs:List Value} {i:Nat} {m:Str->Option Value},P.Nodup->P[i]?=some x->vs[i]?=some v->kindOf x≠some .local->
  bindC kindOf (P.zip vs) m x=some v
 | [],_,_,_,_,h,_,_=>by simp at h
 |_ :: _,[],_,_,_,_,h,_=>by simp at h
 |p :: P,w :: vs,0,m,nd,h1,h2,hk=>by
  simp at h1 h2;subst h1;subst h2;show bindC kindOf ((p,w) :: P.zip vs) m p=_;unfold bindC;rw[vZ fun v hv=>(nodup_cons.mp nd).1 (of_mem_zip hv).1,if_neg hk];simp
 |p :: P,w :: vs,i+1,m,nd,h1,h2,hk=>by
  show bindC kindOf ((p,w) :: P.zip vs) m x=_;unfold bindC;exact xD (i:=i) (nodup_cons.mp nd).2 (by simpa using h1) (by simpa using h2) hk
def start (N:List Str)(vs:List V):St:=vs.map some++replicate (N.length - vs.length) none
def vJ (CX:CXT)(P:Program)(w:World)(K:Frag)(mg:Str->Option Value)(base:Heap)(N:List Str)(qual:Str)(scope:Scope)(f:Addr)(cd:Value)(A:Around)(outer:List Env)(s:Shared)(H:Hp)(E:XK):Cx where
 prog:=P
 w:=w
 K:=K
 mg:=mg
 base:=base
 A:=A.deeper (envOfC qual scope s.heap.objs.size f cd)
 N:=N
 s₀:=s
 H₀:=H
 env:=envOfC qual scope s.heap.objs.size f cd
 outer:=outer
 stack:=envOfC qual scope s.heap.objs.size f cd :: outer
 ex:=[]
 calm:=true
 fn:=fun _=>true
 pn:=[]
 xe:=fun e s'=>wpAny (model P w) (A.deeper (envOfC qual scope s.heap.objs.size f cd)) (leaving (envOfC qual scope s.heap.objs.size f cd) e) (fun _ s''=>CX outer H s E e s'') (fun e' s''=>CX outer H s E e' s'') s'
theorem By {sc:Scope}{n:Nat}{x:Str}(h:sc.names.lookup x=some .cell):∃c,(cellsFrom n sc.names []).lookup x=some c:=by
 have q:=W.cellsFrom_some sc.names n [] (.inl h);exact Option.isSome_iff_exists.mp q
theorem Iv {CX:CXT}{P:Program}{w:World}{K:Frag}{mg:Str->Option Value}{base:Heap}{N ps:List Str}{qual:Str}{scope:Scope}{f:Addr}{cd:Value}{A:Around}{outer:List Env}{s s1:Shared}{H:Hp}{E:XK}{us:List Value}{vs:List V}(S:aQ N ps scope)(hd:A.handled=none)(e0:Cr P w K mg base A outer s H)(hl:vs.length=ps.length)(r:bL vs us)(x:InCallC s s.heap.objs.size (bindL (envOfC qual scope s.heap.objs.size f cd).kindOf (ps.zip us) fun _=>none) (cellsFrom (s.heap.objs.size+1) scope.names []) (bindC (envOfC qual scope s.heap.objs.size f cd).kindOf (ps.zip us) fun _=>none) s1) :
  Inv (vJ CX P w K mg base N qual scope f cd A outer s H E) [] (start N vs) H s1:=by
 have hpl:ps.length<=N.length:=by have:=congrArg List.length S.pre;rw[length_take] at this;lia
 obtain⟨h1,tk,rfl,hk⟩:=x.done;have noA:∀b:Addr,b∉(vJ CX P w K mg base N qual scope f cd A outer s H E).ex:=fun b z=>absurd (show b∈([]:List Addr) from z) (by simp);refine⟨⟨e0.mod,S.kind,rfl,rfl,Nat.le_refl _,fun y z c h1 h2=>?_,fun y hy=>?_,fun y c _ h=>?_,fun _=>hd,Around.frames_deeper e0.frames,.inr ⟨rfl,rfl⟩,fun b z=>absurd z (noA b),e0.bs,e0.bsz,fun b _ _=>noA b,fun b z=>absurd z (noA b),e0.funs,e0.frf⟩,
  rfl,e0.bare,Un.kept hk,⟨_,x.toInCall.ns,fun i y v h1 h2 h3=>?_⟩,fun y c h=>⟨_,x.cell y c h⟩,e0.hok.fresh (Nat.le_refl _),fun y c h=>?_,fun p hp=>absurd (show p∈([]:List (Addr × Obj)) from hp) (by simp),e0.hok.kept hk,?_⟩
 ·exact name_of_addr x.apart (PySem.mem_of_lookup h1) (PySem.mem_of_lookup h2)
 ·have hy:scope.names.lookup y=some .cell\/scope.names.lookup y=some .free:=hy;rcases hy with hy | hy
  ·exact By hy
  ·exact absurd rfl (S.nofree _ (PySem.mem_of_lookup hy))
 ·exact Nat.le_of_lt (x.above y c (PySem.mem_of_lookup h))
 ·have hi:i < vs.length:=by
   unfold start at h2
   by_cases hi:i < vs.length
   ·exact hi
   ·rw[getElem?_append_right (by simpa using hi)] at h2;rw[getElem?_replicate] at h2;split at h2<;>cases h2
  have ha:vs[i]?=some v:=by
   unfold start at h2;rw[getElem?_append_left (by simpa using hi),getElem?_map] at h2
   cases e:vs[i]? with
   |none=>rw[e] at h2;cases h2
   |some a=>rw[e] at h2;cases h2;rfl
  obtain⟨u,hu,rv⟩:=r.get ha;have hp:ps[i]?=some y:=by
   rw[<- S.pre,getElem?_take_of_lt (by lia)];exact h1
  have ndP:ps.Nodup:=by rw[<- S.pre];exact S.nd.sublist (take_sublist _ _)
  refine⟨u,rv,?_⟩;rcases S.par y (mem_of_getElem? hp) with k | k
  ·exact .inl ⟨k,xJ ndP hp hu k⟩
  ·obtain⟨c,e⟩:=By (n:=s.heap.objs.size+1) k;refine .inr ⟨.inl k,c,e,?_⟩;have q:=x.cell y c e;rw[xD ndP hp hu (by show scope.names.lookup y≠_;rw[k];decide)] at q;exact q
 ·exact e0.hok.fresh (Nat.le_of_lt (x.above y c (PySem.mem_of_lookup h)))
 ·unfold start;show _=N.length;rw[List.length_append,length_map,length_replicate];lia
theorem qb8 {CX:CXT}{P:Program}{w:World}{K:Frag}{mg:Str->Option Value}{base:Heap}{k:Nat}{f:Addr}{name qual:Str}{params:Arguments}{body:List Stmt}{scope:Scope}{dV kV doc pm cdv ct oc:Value}{an od:Option Addr}{osl:Array (Option Value)}{N ps:List Str}{sp:Sp}(lk:K.lookup f=some ⟨oc,od,.func (W.fnOf name qual params body scope dV kV doc pm an cdv ct),osl⟩)(hcd:W.codeIn K cdv qual=true)(S:aQ N ps scope)(len:∀vs H Q E,sp vs H Q E->vs.length=ps.length)(hbody:∀(A:Around) (outer:List Env) (s:Shared) (H:Hp) (vs:List V) (Q:VK) (E:XK),fQ k (A.deeper (envOfC qual scope s.heap.objs.size f cdv))->sp vs H Q E->
   ∃t,PSs (vJ CX P w K mg base N qual scope f cdv A outer s H E) body t/\t { nx:=fun _ H'=>Q .non H',rt:=Q } (start N vs) H) :
  aJ P w K mg base CX (k+1) f (W.fnOf name qual params body scope dV kV doc pm an cdv ct) ps sp:=by
 refine⟨len,fun A outer s H args us vs Q E hr e0 hb r hsp=>?_⟩;have hl:=len _ _ _ _ hsp;have KX:K.In s.heap:=e0.mod.kin.keeps fun b o e=>(e0.bs b o e).1;have lim:s.heap.NoLimit:=e0.mod.nolimit.keeps fun b o e=>(e0.bs b o e).1;have hkind:∀y∈ps.zip us,scope.names.lookup y.1=some .local\/(scope.names.lookup y.1=some .cell/\((cellsFrom (s.heap.objs.size+1) scope.names []).lookup y.1).isSome=true):=fun ⟨n,v⟩ hy=>by
  rcases S.par n (of_mem_zip hy).1 with q | q
  ·exact .inl q
  ·exact .inr ⟨q,W.cellsFrom_some _ _ _ (.inl q)⟩
 refine codeAny_call_function hr.depth (KX _ _ lk) rfl S.co S.gen rfl (W.codeRec_of KX hcd) (hb _ _ _ _ ?_);refine wpAny_newFunctionEnv_cells S.kind hkind fun env he s1 x=>?_;subst he;refine⟨lim.keeps x.toInCall.keep,codeAny_func ?_⟩;obtain⟨t,ht,hq⟩:=hbody A outer s H vs Q E (hr.deeper _) hsp;have I:Inv (vJ CX P w K mg base N qual scope f cdv A outer s H E) [] (start N vs) H s1:=Iv S hr.hd e0 hl r x;refine wpAny_mono (ht [] s1 (start N vs) H _ I hq) (fun fl s' hs=>?_) fun e s' hs=>hs;have fin:∀{σ':St} {H':Hp} {v:V} {u:Value},Inv (vJ CX P w K mg base N qual scope f cdv A outer s H E) [] σ' H' s'->bS v u->Q v H'->CE outer P w H s Q u s':=
  fun {σ' H' v u} J rv q=>⟨v,H',J.os,J.bare,J.base,J.hok,rv,q⟩
 cases fl with
 |ret u=>
  obtain⟨v,σ',H',J,rv,q⟩:=hs;exact fin J rv q
 |next=>
  obtain⟨σ',H',J,q⟩:=hs;exact fin (v:=V.non) (u:=Value.none) J rfl q
 |brk=>
  obtain⟨_,_,_,q⟩:=hs;exact False.elim q
 |cont=>
  obtain⟨_,_,_,q⟩:=hs;exact False.elim q
section
variable {X:Cx} {x:Str} {p pos:Pos} {e:Expr} {es:List Expr} {t:TA} {id T:String} {r:List V->Hp->VK->Prop}
def tCB (r:List V->Hp->VK->Prop)(t:TA):TE:=fun σ H Q=>t σ H fun vs H1=>r vs H1 Q
theorem bH (hc:fK X (.builtin id) r)(hg:Gl X x)(hm:X.mg x=none)(hv:bootBuiltins x=some (.builtin id))(ha:PA X (e :: es) t)(hn:x≠"__name__":=by decide)(hdb:(x == ("__debug__":Str))=false:=by decide)(he:starEach (e :: es) X.env=(false,eval e X.env) :: starEach es X.env:=by rfl)(hpl:(backTo pos (starEach es X.env)).any (·.1)=false:=by rfl):PE X (.Call (.Name x p) (e :: es) [] pos) (tCB r t):=by
 intro pins s σ H Q I h;refine wpAny_Call_Name_kw (gJ I hg hm hv ?_ hn hdb);exact PyProof.Rows.callWith_builtin1 (thn (ha pos pins s σ H _ I h) fun us s1 ⟨vs,H1,I1,r1,q1⟩=>hc pins s1 σ H1 vs us Q I1 r1 q1) he hpl
theorem dL (hc:fK X (.type T) r)(hg:Gl X x)(hm:X.mg x=none)(hv:bootBuiltins x=some (.type T))(ha:PA X (e :: es) t)(hn:x≠"__name__":=by decide)(hdb:(x == ("__debug__":Str))=false:=by decide)(he:starEach (e :: es) X.env=(false,eval e X.env) :: starEach es X.env:=by rfl)(hpl:(backTo pos (starEach es X.env)).any (·.1)=false:=by rfl):PE X (.Call (.Name x p) (e :: es) [] pos) (tCB r t):=by
 intro pins s σ H Q I h;refine wpAny_Call_Name_kw (gJ I hg hm hv ?_ hn hdb);exact PyProof.Rows.callWith_type1 (thn (ha pos pins s σ H _ I h) fun us s1 ⟨vs,H1,I1,r1,q1⟩=>hc pins s1 σ H1 vs us Q I1 r1 q1) he hpl
end
end L2
namespace HT
open PySem PyProof.Rows
section
variable {prog:Program} {w:World} {A:Around} {E:Value->Shared->Prop} {s:Shared}
theorem cat_tup {t b:Addr}{vs ws:List Value}{Q:Value->Shared->Prop}(ht:IsTup s.heap t vs.toArray)(hb:IsTup s.heap b ws.toArray)(hv:vs≠[])(h1:ws=[]->Q (.ref t) s)(h2:ws≠[]->Q (.ref s.heap.objs.size) { s with heap:=s.heap.push { cls:=.type "tuple",data:=.seq (vs++ws).toArray } })(hsz:vs.length+ws.length<=sizeLine):wpAny (model prog w) A (binaryOp .Add (.ref t) (.ref b)) Q E s:=by
 obtain⟨⟨cls,dd,data,sl⟩,ho,hc,n,hd⟩:=id ht;obtain⟨⟨cls2,dd2,data2,sl2⟩,ho2,hc2,n2,hd2⟩:=id hb;simp only at hc hd hc2 hd2;subst hc hd hc2 hd2;have e:vs.toArray++ws.toArray=(vs++ws).toArray:=by simp
 by_cases hw:ws=[]
 ·exact concat_meets ⟨_,ho,rfl⟩ ⟨_,ho2,rfl⟩ noFill_tuple_add seq_tuple_add PySem.F.slot_tuple_add PySem.F.entry_tuple_add (PySem.F.args_tuple_add_2 _ _)
   (tuple_addW1 t b vs.toArray ws.toArray n n2 dd dd2 sl sl2 (by simpa using hv) (by simp[hw])) ⟨ho,ho2,h1 hw⟩
 ·refine concat_meets ⟨_,ho,rfl⟩ ⟨_,ho2,rfl⟩ noFill_tuple_add seq_tuple_add PySem.F.slot_tuple_add PySem.F.entry_tuple_add (PySem.F.args_tuple_add_2 _ _)
   (tuple_addW2 t b vs.toArray ws.toArray n n2 dd dd2 sl sl2 (by simpa using hv) (by simpa using hw) (by rw[size_toArray,size_toArray];exact hsz)) ⟨ho,ho2,?_⟩
  rw[e];exact h2 hw
def sIx (n d:Nat):Option Int->Nat
 |none=>d
 |some v=>if v < 0 then (v+(n:Int)).toNat else min v.toNat n
end
end HT
namespace L2
open PySem PySem.Spec PyProof.Rows
abbrev TO:=St->Hp->(Option Int->Hp->Prop)->Prop
def PO (X:Cx)(e:Option Expr)(t:TO):Prop:=
 ∀(pins:List (Addr × Obj)) (s:Shared) (σ:St) (H:Hp) (Q:Option Int->Hp->Prop),Inv X pins σ H s->t σ H Q->
  wpAny (model X.prog X.w) X.A (evalPart e X.env) (fun u s'=>∃o H',Inv X pins σ H' s'/\IsPart u o/\Q o H') X.xe s
def Th:TO:=fun _ H Q=>Q none H
def qd6 (t:TE):TO:=fun σ H Q=>t σ H fun x H1=>∃i,x=.int i/\Q (some i) H1
section
variable {X:Cx} {e:Expr} {te:TE} {lo hi:Option Expr} {tl th:TO} {pos p2:Pos}
theorem jS:PO X none Th:=by
 intro pins s σ H Q I h;rw[evalPart_none];exact wpAny_pure ⟨none,H,I,.none,h⟩
theorem fY (h:PE X e te):PO X (some e) (qd6 te):=by
 intro pins s σ H Q I hw;rw[evalPart_some];refine thn (h pins s σ H _ I hw) fun u s1 ⟨x,H1,I1,r1,q1⟩=>?_;obtain⟨i,rfl,q⟩:=q1;obtain⟨t,rfl⟩:=r1;exact⟨some i,H1,I1,.int i t,q⟩
def SlR (X:Cx)(r:V->Option Int->Option Int->Hp->VK->Prop):Prop:=
 ∀(pins:List (Addr × Obj)) (s:Shared) (σ:St) (H:Hp) (x:V) (v vl vu:Value) (lo hi:Option Int) (sl:Addr) (Q:VK),Inv X pins σ H s->bS x v->s.heap.IsSliceOf sl vl vu .none->IsPart vl lo->IsPart vu hi->r x lo hi H Q->
  ∃T id,typeLookup (.type T) "__getitem__"=pure (some (.builtin id))/\s.TypeIs v T/\wpAny (model X.prog X.w) X.A (getItem v (.ref sl)) (EP X pins σ Q) X.xe s
def tSl (r:V->Option Int->Option Int->Hp->VK->Prop)(te:TE)(tl th:TO):TE:=fun σ H Q=>te σ H fun x H1=>tl σ H1 fun l H2=>th σ H2 fun u H3=>r x l u H3 Q
theorem gA {r:V->Option Int->Option Int->Hp->VK->Prop}(hr:SlR X r)(he:PE X e te)(hl:PO X lo tl)(hu:PO X hi th):PE X (.Subscript e (.Slice lo hi none p2) pos) (tSl r te tl th):=by
 intro pins s σ H Q I h;refine Subscript_ (thn (he pins s σ H _ I h) fun v s1 ⟨x,H1,I1,r1,q1⟩=>?_);refine wpAny_Slice (thn (hl pins s1 σ H1 _ I1 q1) fun vl s2 ⟨l,H2,I2,pl,q2⟩=>thn (hu pins s2 σ H2 _ I2 q2) fun vu s3 ⟨u,H3,I3,pu,q3⟩=>?_);rw[evalPart_none];refine wpAny_pure ?_;have I4:Inv X pins σ H3 { s3 with heap:=s3.heap.push { cls:=.type "slice",data:=.fields #[vl,vu,.none] } }:=I3.kept (t':=s3.toks) fun b ob q=>Heap.get?_push_of_some _ q;obtain⟨T,id,hT,ht,hg⟩:=hr pins { s3 with heap:=s3.heap.push { cls:=.type "slice",data:=.fields #[vl,vu,.none] } } σ H3 x v vl vu l u s3.heap.objs.size Q I4 r1 (Heap.IsSliceOf.new ..) pl pu q3;show wpAny (model X.prog X.w) X.A (subscriptTail e (.Slice lo hi none p2) v (.ref s3.heap.objs.size)) (EP X pins σ Q) X.xe { s3 with heap:=s3.heap.push { cls:=.type "slice",data:=.fields #[vl,vu,.none] } };exact tail_any (ops:=[.ref s3.heap.objs.size,v]) ht hT hg (by with_unfolding_all rfl)
def jR (xs:List V)(lo hi:Option Int):List V:=(xs.drop (HT.sIx xs.length 0 lo)).take (HT.sIx xs.length xs.length hi - HT.sIx xs.length 0 lo)
theorem Bg (xs:List V)(lo hi:Option Int):(jR xs lo hi).length<=xs.length:=by
 unfold jR;exact Nat.le_trans (length_take_le' _ _) (by rw[length_drop];exact Nat.sub_le _ _)
def qa2 (K:Frag):R2:=fun x y H Q=>∃a b xs ys,x=.ref a/\y=.ref b/\SqT K H a xs/\SqT K H b ys/\xs≠[]/\xs.length+ys.length<=sizeLine/\
 (ys=[]->Q (.ref a) H)/\(ys≠[]->∀p,H p=none->Q (.ref p) (upd H p (.tup (xs++ys))))
theorem bL.nil_iff {xs:List V}{us:List Value}(r:bL xs us):us=[]↔xs=[]:=by
 cases r with
 |nil=>simp
 |cons _ _=>simp
theorem Tu:OpR X (binaryOp .Add) (qa2 X.K):=by
 intro pins s σ H x y v u Q I rx ry h;obtain⟨a,b,xs,ys,rfl,rfl,ha,hb,hx,hz,q1,q2⟩:=h
 cases rx
 cases ry
 obtain⟨its,r1,p1,_⟩:=I.tuple ha;obtain⟨its2,r2,p2,_⟩:=I.tuple hb;refine HT.cat_tup p1 p2 (fun z=>hx (r1.nil_iff.mp z)) (fun z=>⟨.ref a,H,I,rfl,q1 (r2.nil_iff.mp z)⟩) (fun z=>?_) (by rw[<- r1.length,<- r2.length];exact hz);refine⟨.ref s.heap.objs.size,_,I.laid (t':=s.toks) (o:=.tup (xs++ys)) (fun b ob q=>Heap.get?_push_of_some _ q) (Nat.le_refl _) ?_,rfl,q2 (fun w=>z (r2.nil_iff.mpr w)) _ (I.hok.fresh (Nat.le_refl _))⟩;exact⟨by rw[List.length_append];exact hz,_,r1.append r2,IsTup.new _ _⟩
end
def ixN (n:Nat)(i:Int):Option Nat:=if 0<=i then (if i < n then some i.toNat else none) else if -(n:Int)<=i then some (i+n).toNat else none
def atI {α:Type}(xs:List α)(i:Int):Option α:=(ixN xs.length i).bind fun j=>xs[j]?
theorem Ga {n:Nat}{i:Int}{j:Nat}(h:ixN n i=some j):seqIndex? i n=some j/\j < n/\-(n:Int)<=i/\i < n:=by
 unfold ixN at h
 by_cases h0:0<=i
 ·rw[if_pos h0] at h
  by_cases h1:i < n
  ·rw[if_pos h1] at h;have e:i.toNat=j:=Option.some.inj h;exact⟨by rw[seqIndex_of h0 h1,e],by lia,by lia,h1⟩
  ·rw[if_neg h1] at h;cases h
 ·rw[if_neg h0] at h
  by_cases h1:-(n:Int)<=i
  ·rw[if_pos h1] at h;have e:(i+n).toNat=j:=Option.some.inj h;exact⟨by rw[seqIndex_neg (by lia) h1,e],by lia,h1,by lia⟩
  ·rw[if_neg h1] at h;cases h
theorem Fk {α:Type}{xs:List α}{i:Int}{v:α}(h:atI xs i=some v):∃j,seqIndex? i xs.length=some j/\xs[j]?=some v/\j < xs.length/\-(xs.length:Int)<=i/\i < xs.length:=by
 unfold atI at h
 cases e:ixN xs.length i with
 |none=>rw[e] at h;cases h
 |some j=>
  rw[e] at h;obtain⟨h1,h2,h3,h4⟩:=Ga e;exact⟨j,h1,h,h2,h3,h4⟩
theorem cH {α:Type}{xs:List α}{j:Nat}{v:α}(h:xs[j]?=some v):atI xs (j:Int)=some v:=by
 have hj:j < xs.length:=(List.getElem?_eq_some_iff.mp h).1;have e:ixN xs.length (j:Int)=some j:=by
  unfold ixN;rw[if_pos (by lia),if_pos (by lia)];simp
 unfold atI;rw[e];exact h
theorem Mf {α:Type}(xs:List α)(v:α):atI (xs++[v]) (-1)=some v:=by
 have hl:(xs++[v]).length=xs.length+1:=by simp
 have e:ixN (xs++[v]).length (-1)=some xs.length:=by
  unfold ixN;rw[hl,if_neg (by decide),if_pos (by lia)];congr 1;lia
 unfold atI;rw[e];show (xs++[v])[xs.length]?=some v;simp
def Tk (b:Expr):Prop:=∀o i,subscripted b false o i=operate [o,i] (getItem o i)
def IxR (X:Cx)(r:R2):Prop:=
 ∀(value slice:Expr) (pins:List (Addr × Obj)) (s:Shared) (σ:St) (H:Hp) (x y:V) (v u:Value) (Q:VK),Inv X pins σ H s->bS x v->bS y u->r x y H Q->
  subscripted slice false v u=operate [v,u] (getItem v u)->wpAny (model X.prog X.w) X.A (subscriptTail value slice v u) (EP X pins σ Q) X.xe s
def MtR (X:Cx)(id:String)(r:V->List V->Hp->VK->Prop):Prop:=
 ∀(pins:List (Addr × Obj)) (s:Shared) (σ:St) (H:Hp) (x:V) (xs:List V) (v:Value) (us:List Value) (Q:VK),Inv X pins σ H s->bS x v->bL xs us->r x xs H Q->
  wpAny (model X.prog X.w) X.A (call (.builtin id) (v :: us)) (EP X pins σ Q) X.xe s
section
variable {X:Cx} {a b:Expr} {ta tb:TE} {pos:Pos}
theorem aY {r:R2}(hr:IxR X r)(ha:PE X a ta)(hb:PE X b tb)(hs:Tk b):PE X (.Subscript a b pos) (tOp r ta tb):=by
 intro pins s σ H Q I h;exact Subscript_ (Wm ha hb I h fun v u s2 x y H2 I2 rx ry q=>hr a b pins s2 σ H2 x y v u Q I2 rx ry q (hs _ _))
def qa1 (K:Frag):R2:=fun x y H Q=>∃p xs i v,x=.ref p/\y=.int i/\SqL K H p xs/\atI xs i=some v/\Q v H
def To (K:Frag):R2:=fun x y H Q=>∃p xs i v,x=.ref p/\y=.int i/\SqT K H p xs/\atI xs i=some v/\Q v H
theorem cF:IxR X (qa1 X.K):=by
 intro value slice pins s σ H x y v u Q I rx ry h hs;obtain⟨p,xs,i,z,rfl,rfl,hq,he,q⟩:=h
 cases rx
 obtain⟨t,rfl⟩:=ry;obtain⟨its,r,pl,hz⟩:=I.list hq;obtain⟨j,h1,h2,h3,h4,h5⟩:=Fk he;obtain⟨w,ew,rw'⟩:=r.get h2;have hl:=r.length;have hn:=zG;have fin:EP X pins σ Q w s:=⟨z,H,I,rw',q⟩
 by_cases h0:0<=i
 ·have hj:i.toNat=j:=by
   rw[seqIndex_of h0 h5] at h1;exact Option.some.inj h1
  exact item_listR pl.isList h0 (by lia) (by rw[hj];simpa using ew) fin hs
 ·have hj:(i+(its.toArray.size:Int)).toNat=j:=by
   rw[seqIndex_neg (by lia) h4] at h1;rw[size_toArray,<- hl];exact Option.some.inj h1
  exact subscriptTail_builtinR (x:=w) pl.isList.typeIs slot_list_getitem.lookup
   (wpAny_getItem_list_neg (Q:=fun r s'=>r=w/\EP X pins σ Q r s') pl.isList (by lia) (by rw[size_toArray]<;>lia) (by lia) (by rw[hj];simpa using ew) ⟨rfl,fin⟩) hs
theorem bC:IxR X (To X.K):=by
 intro value slice pins s σ H x y v u Q I rx ry h hs;obtain⟨p,xs,i,z,rfl,rfl,hq,he,q⟩:=h
 cases rx
 obtain⟨t,rfl⟩:=ry;obtain⟨its,r,pl,hz⟩:=I.tuple hq;obtain⟨j,h1,h2,h3,h4,h5⟩:=Fk he;obtain⟨w,ew,rw'⟩:=r.get h2;have hl:=r.length;have hn:=zG;have fin:EP X pins σ Q w s:=⟨z,H,I,rw',q⟩
 exact subscriptTail_builtinR (x:=w) pl.typeIs slot_tuple_getitem.lookup
  (getItem_tuple (j:=j) (Q:=fun r s'=>r=w/\EP X pins σ Q r s') pl (by lia) (by lia) (by rw[size_toArray,<- hl];exact h1) (by simpa using ew) ⟨rfl,fin⟩) hs
theorem Dw (its:List Value)(n j:Nat)(u:Value):Obj.mapSeq (·.setIfInBounds j u) { cls:=.type "list",data:=.seq its.toArray n }={ cls:=.type "list",data:=.seq (its.set j u).toArray n }:=by
 simp[Obj.mapSeq]
theorem Inv.lst {pins:List (Addr × Obj)}{σ:St}{H:Hp}{s:Shared}{p:Addr}{xs:List V}(I:Inv X pins σ H s)(h:H p=some (.lst xs)) :
  ∃(its:List Value) (n:Nat),bL xs its/\s.heap.get? p=some { cls:=.type "list",data:=.seq its.toArray n }/\xs.length<=sizeLine:=by
 obtain⟨z,its,n,r,e⟩:=I.hok p _ h;exact⟨its,n,r,e,z⟩
theorem Inv.lstUpd {pins:List (Addr × Obj)}{σ:St}{H:Hp}{s:Shared}{p:Addr}{xs ys:List V}{its its':List Value}{n n':Nat}{f:Obj->Obj}(I:Inv X pins σ H s)(h:H p=some (.lst xs))(ho:s.heap.get? p=some { cls:=.type "list",data:=.seq its.toArray n })(hf:f { cls:=.type "list",data:=.seq its.toArray n }={ cls:=.type "list",data:=.seq its'.toArray n' })(r:bL ys its')(hz:ys.length<=sizeLine)(t:Nat) :
  Inv X pins σ (upd H p (.lst ys)) { s with heap:=s.heap.update p f,toks:=t }:=by
 have e:(s.heap.update p f).get? p=some { cls:=.type "list",data:=.seq its'.toArray n' }:=by
  rw[Heap.get?_update_self f ho (by rw[hf]<;>rfl),hf]
 refine I.write (x:=p) (e:=p) (by rw[h];trivial) (.inl rfl) (fun b u hb q=>(Heap.get?_update_other _ _ (Ne.symm hb)).trans q) ⟨_,e⟩ ?_;exact⟨hz,its',n',r,e⟩
def qb4:V->V->V->Hp->(Hp->Prop)->Prop:=fun o i v H Q=>∃p xs k j,o=.ref p/\i=.int k/\H p=some (.lst xs)/\ixN xs.length k=some j/\Q (upd H p (.lst (xs.set j v)))
theorem kY:Zn X qb4:=by
 intro pins s σ H o i v ov iv u Q I ro ri rv h;obtain⟨p,xs,k,j,rfl,rfl,hp,hj,q⟩:=h
 cases ro
 obtain⟨t,rfl⟩:=ri;obtain⟨its,n,r,ho,hz⟩:=I.lst hp;obtain⟨h1,h2,h3,h4⟩:=Ga hj;have hl:=r.length;have hn:=zG;have I':Inv X pins σ (upd H p (.lst (xs.set j v))) { s with heap:=s.heap.update p (Obj.mapSeq (·.setIfInBounds j u)) }:=
  I.lstUpd hp ho (Dw its n j u) (r.set rv j) (by rw[length_set];exact hz) s.toks
 by_cases h0:0<=k
 ·have hk:k.toNat=j:=by
   rw[seqIndex_of h0 h4] at h1;exact Option.some.inj h1
  exact W.ki_setAt ho h0 (by lia) (by rw[size_toArray,<- hl];exact h4) (by rw[hk];exact⟨_,I',q⟩)
 ·have hk:(k+(its.toArray.size:Int)).toNat=j:=by
   rw[seqIndex_neg (by lia) h3] at h1;rw[size_toArray,<- hl];exact Option.some.inj h1
  exact W.ki_setBack ho (by lia) (by rw[size_toArray,<- hl];exact h3) (by lia) (by rw[hk];exact⟨_,I',q⟩)
theorem sbA (lo hi:Option Int)(n:Nat):(sliceBounds lo hi none n).1=((HT.sIx n 0 lo:Nat):Int):=by
 cases lo with
 |none=>simp[sliceBounds,HT.sIx]
 |some i=>
  simp only[sliceBounds,HT.sIx,Option.getD_none,show (1:Int) > 0 by decide,if_true]
  by_cases h:i < 0
  ·simp only[h,if_true]<;>lia
  ·simp only[h,if_false]<;>lia
theorem zI (lo hi:Option Int)(n:Nat):(sliceBounds lo hi none n).1=((HT.sIx n 0 lo:Nat):Int)/\(sliceBounds lo hi none n).2.1=((HT.sIx n n hi:Nat):Int)/\(sliceBounds lo hi none n).2.2=1:=by
 refine⟨sbA lo hi n,?_,rfl⟩
 cases hi with
 |none=>simp[sliceBounds,HT.sIx]
 |some i=>exact sbA (some i) lo n
theorem vG (its:List Value)(lo hi:Option Int):slicePick its.toArray lo hi none=((its.drop (HT.sIx its.length 0 lo)).take (HT.sIx its.length its.length hi - HT.sIx its.length 0 lo)).toArray:=by
 obtain⟨h1,h2,h3⟩:=zI lo hi its.toArray.size;unfold slicePick;rw[h1,h2,h3];simp only[sliceRange_one,pick_run,size_toArray]<;>rfl
def qa3 (K:Frag):V->Option Int->Option Int->Hp->VK->Prop:=fun x lo hi H Q=>∃a xs,x=.ref a/\SqL K H a xs/\∀p,H p=none->Q (.ref p) (upd H p (.lst (jR xs lo hi)))
theorem iV:SlR X (qa3 X.K):=by
 intro pins s σ H x v vl vu lo hi sl Q I rx hs pl pu h;obtain⟨a,xs,rfl,hx,q⟩:=h
 cases rx
 obtain⟨its,r,ht,hz⟩:=I.list hx;have hlen:=r.length;refine⟨"list",_,slot_list_getitem.lookup,ht.isList.typeIs,?_⟩;refine wpAny_getItem_list_slice ht.isList hs pl pu .none (by simp) ?_ (by rw[size_toArray]<;>lia);rw[vG,<- hlen];refine⟨.ref s.heap.objs.size,_,I.laid (t':=s.toks) (o:=.lst (jR xs lo hi)) (fun b ob q=>Heap.get?_push_of_some _ q) (Nat.le_refl _) ?_,rfl,q _ (I.hok.fresh (Nat.le_refl _))⟩;exact⟨Nat.le_trans (Bg xs lo hi) hz,_,0,(r.drop (HT.sIx xs.length 0 lo)).take (HT.sIx xs.length xs.length hi - HT.sIx xs.length 0 lo),Heap.get?_push_size _ rfl⟩
def mP:V->Bool
 | .non=>true
 | .bl _=>true
 | .int _=>true
 | .str _=>true
 |_=>false
def eqV:V->V->Bool
 | .non,.non=>true
 | .bl a,.bl b=>a == b
 | .bl a,.int b=>(if a then 1 else 0) == b
 | .int a,.bl b=>a == (if b then 1 else 0)
 | .int a,.int b=>a == b
 | .str a,.str b=>a == b
 |_,_=>false
theorem Xl {A:Around}{s:Shared}{y x:V}{u v:Value}(ry:bS y u)(rx:bS x v)(fy:mP y=true)(fx:mP x=true):SeqAt.EqAt A s u v (eqV y x):=by
 cases y with
 |non=>
  cases ry
  cases x with
  |non=>cases rx;exact SeqAt.EqAt.same _
  |bl b=>cases rx;exact SeqAt.EqAt.none_bool b
  |int b=>obtain⟨t,rfl⟩:=rx;exact SeqAt.EqAt.none_int b t
  |str b=>obtain⟨t,rfl⟩:=rx;exact SeqAt.EqAt.none_str b t
  |_=>exact absurd (show false=true from fx) Bool.false_ne_true
 |bl a=>
  cases ry
  cases x with
  |non=>cases rx;exact SeqAt.EqAt.bool_none a
  |bl b=>cases rx;exact SeqAt.EqAt.bool_bool a b
  |int b=>obtain⟨t,rfl⟩:=rx;exact SeqAt.EqAt.bool_int a b t
  |str b=>obtain⟨t,rfl⟩:=rx;exact SeqAt.EqAt.bool_str a b t
  |_=>exact absurd (show false=true from fx) Bool.false_ne_true
 |int a=>
  obtain⟨t',rfl⟩:=ry
  cases x with
  |non=>cases rx;exact SeqAt.EqAt.int_none a t'
  |bl b=>cases rx;exact SeqAt.EqAt.int_bool a t' b
  |int b=>obtain⟨t,rfl⟩:=rx;exact SeqAt.EqAt.int_int a t' b t
  |str b=>obtain⟨t,rfl⟩:=rx;exact SeqAt.EqAt.int_str a t' b t
  |_=>exact absurd (show false=true from fx) Bool.false_ne_true
 |str a=>
  obtain⟨t',rfl⟩:=ry
  cases x with
  |non=>cases rx;exact SeqAt.EqAt.str_none a t'
  |bl b=>cases rx;exact SeqAt.EqAt.str_bool a t' b
  |int b=>obtain⟨t,rfl⟩:=rx;exact SeqAt.EqAt.str_int a t' b t
  |str b=>obtain⟨t,rfl⟩:=rx;exact SeqAt.EqAt.str_str a t' b t
  |_=>exact absurd (show false=true from fx) Bool.false_ne_true
 |_=>exact absurd (show false=true from fy) Bool.false_ne_true
def eqU (x:V)(u:Value):Bool:=match u with
 | .none=>eqV .non x
 | .bool b=>eqV (.bl b) x
 | .int i _=>eqV (.int i) x
 | .str z _=>eqV (.str z) x
 |_=>false
theorem Ld {x y:V}{u:Value}(r:bS y u)(f:mP y=true):eqU x u=eqV y x:=by
 cases y with
 |non=>cases r;rfl
 |bl b=>cases r;rfl
 |int i=>obtain⟨t,rfl⟩:=r;rfl
 |str z=>obtain⟨t,rfl⟩:=r;rfl
 |_=>exact absurd (show false=true from f) Bool.false_ne_true
theorem pE {x:V}:∀{xs:List V} {us:List Value},bL xs us->xs.all mP=true->us.any (eqU x)=xs.any fun y=>eqV y x
 |_,_,.nil,_=>rfl
 |y :: xs,u :: us,.cons r t,f=>by
  rw[all_cons,Bool.and_eq_true] at f;rw[any_cons,any_cons,Ld r f.1,pE t f.2]
theorem lG {A:Around}{s:Shared}{x:V}{v:Value}(rx:bS x v)(fx:mP x=true):∀{xs:List V} {us:List Value},bL xs us->xs.all mP=true->∀u∈us,SeqAt.EqAt A s u v (eqU x u)
 |_,_,.nil,_=>fun u hu=>by cases hu
 |y :: xs,u :: us,.cons r t,f=>fun u' hu=>by
  rw[all_cons,Bool.and_eq_true] at f;rcases mem_cons.mp hu with rfl | hu
  ·rw[Ld r f.1];exact Xl r rx f.1 fx
  ·exact lG rx fx t f.2 u' hu
def inV (x:V)(xs:List V):Bool:=xs.any fun y=>eqV y x
def rIn (K:Frag)(neg:Bool):R2:=fun x y H Q=>∃p xs,y=.ref p/\(SqL K H p xs\/SqT K H p xs)/\mP x=true/\xs.all mP=true/\Q (.bl (if neg then !inV x xs else inV x xs)) H
theorem Jn:OpR X (compareOp .In) (rIn X.K false):=by
 intro pins s σ H x y v u Q I rx ry h;obtain⟨p,xs,rfl,hq,fx,fs,q⟩:=h
 cases ry
 rcases hq with hq | hq
 ·obtain⟨its,r,pl,hz⟩:=I.list hq;refine SeqAt.in_listAt (eqU x) pl.isList (fun w hw=>lG rx fx r fs w (by simpa using hw)) ⟨.bl _,H,I,rfl,?_⟩;rw[show its.toArray.any (eqU x)=its.any (eqU x) by simp,pE r fs];exact q
 ·obtain⟨its,r,pl,hz⟩:=I.tuple hq;refine SeqAt.in_tupleAt (eqU x) pl (fun w hw=>lG rx fx r fs w (by simpa using hw)) ⟨.bl _,H,I,rfl,?_⟩;rw[show its.toArray.any (eqU x)=its.any (eqU x) by simp,pE r fs];exact q
theorem yP:OpR X (compareOp .NotIn) (rIn X.K true):=by
 intro pins s σ H x y v u Q I rx ry h;obtain⟨p,xs,rfl,hq,fx,fs,q⟩:=h
 cases ry
 rcases hq with hq | hq
 ·obtain⟨its,r,pl,hz⟩:=I.list hq;refine SeqAt.notIn_listAt (eqU x) pl.isList (fun w hw=>lG rx fx r fs w (by simpa using hw)) ⟨.bl _,H,I,rfl,?_⟩;rw[show its.toArray.any (eqU x)=its.any (eqU x) by simp,pE r fs];exact q
 ·obtain⟨its,r,pl,hz⟩:=I.tuple hq;refine SeqAt.notIn_tupleAt (eqU x) pl (fun w hw=>lG rx fx r fs w (by simpa using hw)) ⟨.bl _,H,I,rfl,?_⟩;rw[show its.toArray.any (eqU x)=its.any (eqU x) by simp,pE r fs];exact q
theorem bD:fK X (.builtin "len") (fun xs H Q=>∃p ys,xs=[.ref p]/\(SqL X.K H p ys\/SqT X.K H p ys)/\Q (.int ys.length) H):=by
 intro pins s σ H xs us Q I r h;obtain⟨p,ys,rfl,hq,q⟩:=h;obtain⟨u,rfl,rx⟩:=mL r
 cases rx
 have hn:=zG;rcases hq with hq | hq
 ·obtain⟨its,r',pl,hz⟩:=I.list hq;have hlen:=r'.length;exact Calls.call_len_list pl.isList (by simp only[size_toArray]<;>lia) ⟨.int ys.length,H,I.tok _,⟨s.toks+1,by rw[size_toArray,hlen]⟩,q⟩
 ·obtain⟨its,r',pl,hz⟩:=I.tuple hq;have hlen:=r'.length;exact len_tuple pl (by simp only[size_toArray]<;>lia) ⟨.int ys.length,H,I.tok _,⟨s.toks+1,by rw[size_toArray,hlen]⟩,q⟩
theorem cU:fK X (.type "list") (fun xs H Q=>∃p ys,xs=[.ref p]/\(SqL X.K H p ys\/SqT X.K H p ys)/\∀l,H l=none->Q (.ref l) (upd H l (.lst ys))):=by
 intro pins s σ H xs us Q I r h;obtain⟨p,ys,rfl,hq,q⟩:=h;obtain⟨u,rfl,rx⟩:=mL r
 cases rx
 have fin:∀(its:List Value),bL ys its->ys.length<=sizeLine->∀(h':Heap) (c':Nat),(∀b o',s.heap.get? b=some o'->h'.get? b=some o')->
   h'.get? s.heap.objs.size=some { cls:=.type "list",dict:=none,data:=.seq its.toArray c',slots:=#[] }->EP X pins σ Q (.ref s.heap.objs.size) { s with heap:=h' }:=fun its r' hz h' c' kp e=>
  ⟨.ref s.heap.objs.size,_,I.laid (t':=s.toks) kp (Nat.le_refl _) (show cD X.prog X.w _ h' _ (.lst ys) from ⟨hz,its,c',r',e⟩),rfl,q _ (I.hok.fresh (Nat.le_refl _))⟩
 rcases hq with hq | hq
 ·obtain⟨its,r',pl,hz⟩:=I.list hq;have hlen:=r'.length;obtain⟨o,ho,hc,n,hd⟩:=pl.isList;exact call_list_seq p (.inl rfl) ho hc hd (fun h' c' kp e=>fin its r' hz h' c' kp e) (by simp only[size_toArray]<;>lia)
 ·obtain⟨its,r',pl,hz⟩:=I.tuple hq;have hlen:=r'.length;obtain⟨o,ho,hc,n,hd⟩:=pl;exact call_list_seq p (.inr rfl) ho hc hd (fun h' c' kp e=>fin its r' hz h' c' kp e) (by simp only[size_toArray]<;>lia)
theorem mI:fK X (.type "tuple") (fun xs H Q=>∃p ys,xs=[.ref p]/\((SqL X.K H p ys/\∀l,H l=none->Q (.ref l) (upd H l (.tup ys)))\/(SqT X.K H p ys/\Q (.ref p) H))):=by
 intro pins s σ H xs us Q I r h;obtain⟨p,ys,rfl,h⟩:=h;obtain⟨u,rfl,rx⟩:=mL r
 cases rx
 rcases h with ⟨hq,q⟩ | ⟨hq,q⟩
 ·obtain⟨its,r',pl,hz⟩:=I.list hq;have hlen:=r'.length;refine call_tuple_list pl.isList (fun h' kp=>?_) (by simp only[size_toArray]<;>lia);have I1:Inv X pins σ H { s with heap:=h' }:=I.kept (t':=s.toks) kp;have I2:Inv X pins σ (upd H h'.objs.size (.tup ys)) { s with heap:=h'.push { cls:=.type "tuple",data:=.seq its.toArray } }:=
   I1.laid (t':=s.toks) (fun b o e=>Heap.get?_push_of_some _ e) (Nat.le_refl _) (show cD X.prog X.w _ _ _ (.tup ys) from ⟨hz,its,r',IsTup.new _ _⟩)
  exact⟨.ref h'.objs.size,_,I2,rfl,q _ (I1.hok.fresh (Nat.le_refl _))⟩
 ·obtain⟨its,r',pl,hz⟩:=I.tuple hq;exact call_tuple_same pl ⟨.ref p,H,I,rfl,q⟩
def tyV (K:Frag)(T:String)(x:V)(H:Hp):Prop:=match x with
 | .str _=>T = "str"
 | .int _=>T = "int"
 | .ref p=>(T = "list"/\∃xs,SqL K H p xs)\/(T = "tuple"/\∃o,K.lookup p=some o/\o.cls=.type "tuple"/\o.dict=none)\/
   (T = "dict"/\((∃kvs,H p=some (.dK kvs))\/∃kvs,H p=some (.dT kvs)))\/(T = "set"/\∃S n,H p=some (.set S n))
 |_=>False
theorem Xr {pins:List (Addr × Obj)}{σ:St}{H:Hp}{s:Shared}{T:String}{x:V}{v:Value}(I:Inv X pins σ H s)(r:bS x v)(ty:tyV X.K T x H) :
  s.TypeIs v T/\∀a,v=.ref a->∃ob,s.heap.get? a=some ob/\ob.dict=none:=by
 cases x with
 |str z=>
  obtain⟨t,rfl⟩:=r
  cases (show T = "str" from ty)
  exact⟨typeIs_str s z t,fun _ e=>nomatch e⟩
 |int i=>
  obtain⟨t,rfl⟩:=r
  cases (show T = "int" from ty)
  exact⟨typeIs_int s i t,fun _ e=>nomatch e⟩
 |ref p=>
  cases r
  rcases ty with ⟨rfl,xs,hq⟩ | ⟨rfl,o,hk,hc,hd⟩ | ⟨rfl,hk⟩ | ⟨rfl,S,n,hk⟩
  ·obtain⟨its,_,pl,_⟩:=I.list hq;refine⟨pl.isList.typeIs,fun a e=>?_⟩
   cases e
   obtain⟨o,n,e,c,hd,_⟩:=pl;exact⟨o,e,hd⟩
  ·refine⟨⟨o,I.kIn p o hk,hc⟩,fun a e=>?_⟩
   cases e
   exact⟨o,I.kIn _ o hk,hd⟩
  ·have z:∃o,s.heap.get? p=some o/\o.ExactDict:=by
    rcases hk with ⟨kvs,hk⟩ | ⟨kvs,hk⟩
    ·obtain⟨_,_,_,_,o,_,_,e,ex,_⟩:=I.hok p _ hk;exact⟨o,e,ex⟩
    ·obtain⟨_,_,_,_,o,_,_,e,ex,_⟩:=I.hok p _ hk;exact⟨o,e,ex⟩
   obtain⟨o,e,ex⟩:=z;refine⟨⟨o,e,ex.1⟩,fun a e2=>?_⟩
   cases e2
   exact⟨o,e,ex.2.1⟩
  ·obtain⟨o,_,_,_,e,ex,_⟩:=I.hok p _ hk;refine⟨⟨o,e,ex.1⟩,fun a e2=>?_⟩
   cases e2
   exact⟨o,e,ex.2.1⟩
 |_=>exact False.elim ty
def tBM (K:Frag)(T:String)(r:V->List V->Hp->VK->Prop)(to:TE)(t:TA):TE:=fun σ H Q=>to σ H fun x H1=>tyV K T x H1/\t σ H1 fun xs H2=>r x xs H2 Q
variable {o e:Expr} {es:List Expr} {to:TE} {t:TA} {name:Str} {apos cpos:Pos} {T id:String} {r:V->List V->Hp->VK->Prop}
theorem uV (pa:PlainAttrs T)(slot:Slot T name id)(hty:typeOf (.builtin id)=pure (.type "method_descriptor"))(hm:MtR X id r)(ho:PE X o to)(ha:PA X (e :: es) t)(hbase:attributeBase o name X.env (eval o X.env)=eval o X.env:=by rfl)(hfew:((backTo cpos (starEach (e :: es) X.env)).all (fun x=>!x.1) && (backToKw cpos (keywordEach [] X.env)).all (fun x=>x.1.isSome)
   && decide ((e :: es).length+([]:List Keyword).length+(if ([]:List Keyword).isEmpty then 0 else 1) < 30))=true:=by rfl)(hline:(apos.endLine == cpos.line)=true:=by rfl)(hs:starEach (e :: es) X.env=(false,eval e X.env) :: starEach es X.env:=by rfl)(hplain:(backTo cpos (starEach es X.env)).any (·.1)=false:=by rfl) :
  PE X (.Call (.Attribute o name apos) (e :: es) [] cpos) (tBM X.K T r to t):=by
 intro pins s σ H Q I h;refine wpAny_Call_method_late hbase hfew hline rfl (thn (ho pins s σ H _ I h) fun v s1 ⟨x,H1,I1,r1,ty,q1⟩=>?_);obtain⟨h1,h2⟩:=Xr I1 r1 ty;refine⟨T,id,pa,slot,hty,h1,h2,?_⟩;have hA:=ha cpos pins s1 σ H1 _ I1 q1;rw[hs] at hA ⊢;refine Calls.callWith_builtin (by show (false || (backTo cpos (starEach es X.env)).any (·.1))=false;rw[hplain]<;>rfl) (Calls.evalArgs_plain ?_);exact thn hA fun us s2 ⟨vs,H2,I2,r2,q2⟩=>hm pins s2 σ H2 x vs v us Q I2 r1 r2 q2
end
def MtM (X:Cx)(id:String)(r:V->List V->Hp->VK->Prop):Prop:=
 ∀(pins:List (Addr × Obj)) (s:Shared) (σ:St) (H:Hp) (x:V) (xs:List V) (v:Value) (us:List Value) (Q:VK),Inv X pins σ H s->bS x v->bL xs us->r x xs H Q->
  wpAny (model X.prog X.w) X.A (call (.builtin id) (v :: us)) (EP X pins σ Q) X.xe s
theorem bL.one:∀{x:V} {us:List Value},bL [x] us->∃u,us=[u]/\bS x u
 |_,_,.cons r .nil=>⟨_,rfl,r⟩
theorem bL.rep {xs:List V}{us:List Value}(h:bL xs us):∀k:Nat,bL (replicate k xs).flatten (replicate k us).flatten
 |0=>.nil
 |k+1=>by
  rw[replicate_succ,replicate_succ,flatten_cons,flatten_cons];exact bL.append h (bL.rep h k)
theorem vS (its:List Value):∀(k:Nat) (acc:List Value),
  foldl (fun x1 x2=>x1++x2) acc.toArray (replicate k its.toArray)=(acc++(replicate k its).flatten).toArray
 |0,acc=>by simp
 |k+1,acc=>by
  have e:acc.toArray++its.toArray=(acc++its).toArray:=by simp
  have e2:(acc++its)++(replicate k its).flatten=acc++(replicate (k+1) its).flatten:=by
   rw[replicate_succ,flatten_cons,List.append_assoc]
  rw[<- e2,<- vS its k (acc++its),<- e,replicate_succ,foldl_cons]
section
variable {X:Cx} {pins:List (Addr × Obj)} {σ:St} {H:Hp} {s:Shared} {l b:Addr} {xs ys zs:List V}
theorem Inv.lset {its its':List Value}{n:Nat}{f:Array Value->Array Value}{t':Nat}(I:Inv X pins σ H s)(hH:H l=some (.lst xs))(e:s.heap.get? l=some { cls:=.type "list",data:=.seq its.toArray n })(hf:f its.toArray=its'.toArray)(hv:bL ys its')(hz:ys.length<=sizeLine) :
  Inv X pins σ (upd H l (.lst ys)) { s with heap:=s.heap.update l (Obj.mapSeq f),toks:=t' }:=by
 have q:=PySem.IsL.update e f;rw[hf] at q;refine I.write (x:=l) (e:=l) (by rw[hH];exact trivial) (.inl rfl) (fun b' u hb hu=>(Heap.get?_update_other s.heap (Obj.mapSeq f) (Ne.symm hb)).trans hu) ⟨_,q⟩ ?_;exact⟨hz,its',_,hv,q⟩
theorem Inv.lnew {its:List Value}{t':Nat}(I:Inv X pins σ H s)(hv:bL ys its)(hz:ys.length<=sizeLine) :
  Inv X pins σ (upd H s.heap.objs.size (.lst ys)) { s with heap:=s.heap.push { cls:=.type "list",data:=.seq its.toArray },toks:=t' }:=
 I.laid (fun _ _ q=>Heap.get?_push_of_some _ q) (Nat.le_refl _) ⟨hz,its,0,hv,Heap.get?_push_size _ rfl⟩
theorem Inv.fresh (I:Inv X pins σ H s):H s.heap.objs.size=none:=I.hok.fresh (Nat.le_refl _)
theorem Inv.lstM (I:Inv X pins σ H s)(hH:H l=some (.lst xs)):xs.length<=sizeLine/\∃(its:List Value) (n:Nat),bL xs its/\xs.length=its.length/\s.heap.get? l=some { cls:=.type "list",data:=.seq its.toArray n }:=by
 obtain⟨z,its,n,r,e⟩:=I.hok l _ hH;exact⟨z,its,n,r,r.length,e⟩
theorem zQ {n:Nat}(h:n<=sizeLine):Builtin.List.listTooLong n=false:=by
 unfold Builtin.List.listTooLong;exact decide_eq_false (by lia)
end
section
variable {X:Cx}
def Qt:V->List V->Hp->VK->Prop:=fun x vs H Q=>∃l xs y,x=.ref l/\vs=[y]/\H l=some (.lst xs)/\xs.length < sizeLine/\Q .non (upd H l (.lst (xs++[y])))
theorem iC:MtM X "list.append" Qt:=by
 intro pins s σ H x vs v us Q I rx rv h;obtain⟨l,xs,y,rfl,rfl,hH,hz,q⟩:=h
 cases rx
 obtain⟨u,rfl,ru⟩:=rv.one;obtain⟨z,its,n,r,hl,e⟩:=I.lstM hH;refine call_meets F.slot_list_append ⟨_,e,rfl⟩ F.entry_list_append (F.args_list_append_2 _ _) (PySem.list_append l its.toArray n u (by rw[size_toArray];lia)) ⟨e,?_⟩;refine⟨.non,_,I.lset (its':=its++[u]) hH e (by simp) (r.append (.cons ru .nil)) ?_,rfl,q⟩;rw[List.length_append,length_singleton];lia
def Ug:V->List V->Hp->VK->Prop:=fun x vs H Q=>∃l b xs zs,x=.ref l/\vs=[.ref b]/\H l=some (.lst xs)/\H b=some (.lst zs)/\xs.length+zs.length<=sizeLine/\Q .non (upd H l (.lst (xs++zs)))
theorem Js:MtM X "list.extend" Ug:=by
 intro pins s σ H x vs v us Q I rx rv h;obtain⟨l,b,xs,zs,rfl,rfl,hH,hB,hz,q⟩:=h
 cases rx
 obtain⟨u,rfl,ru⟩:=rv.one
 cases ru
 obtain⟨z,its,n,r,hl,e⟩:=I.lstM hH;obtain⟨z2,its2,n2,r2,hl2,e2⟩:=I.lstM hB;have hsz:its.toArray.size+its2.toArray.size<=sizeLine:=by rw[size_toArray,size_toArray];lia
 have hlong:¬(!its.toArray.isEmpty && Builtin.List.listTooLong (its.toArray.size+its2.toArray.size))=true:=by
  rw[zQ hsz,Bool.and_false];exact Bool.false_ne_true
 refine call_meets F.slot_list_extend ⟨_,e,rfl⟩ F.entry_list_extend (F.args_list_extend_2 _ _)
  (AutoSeq1.list_extend_list_list_0 l its.toArray n b its2.toArray n2 hlong (by rw[size_toArray];lia) (by lia)) ⟨e,e2,?_⟩
 refine⟨.non,_,I.lset (its':=its++its2) hH e (by simp) (r.append r2) ?_,rfl,q⟩;rw[List.length_append];lia
def qg7:R2:=fun x y H Q=>∃l b xs zs,x=.ref l/\y=.ref b/\H l=some (.lst xs)/\H b=some (.lst zs)/\xs.length+zs.length<=sizeLine/\∀p,H p=none->Q (.ref p) (upd H p (.lst (xs++zs)))
theorem nX:OpR X (binaryOp .Add) qg7:=by
 intro pins s σ H x y v u Q I rx ry h;obtain⟨l,b,xs,zs,rfl,rfl,hH,hB,hz,q⟩:=h
 cases rx
 cases ry
 obtain⟨z,its,n,r,hl,e⟩:=I.lstM hH;obtain⟨z2,its2,n2,r2,hl2,e2⟩:=I.lstM hB;refine PySem.P.add_list e e2 ?_ (by rw[size_toArray,size_toArray];lia);have ea:its.toArray++its2.toArray=(its++its2).toArray:=by simp
 rw[ea];exact⟨.ref _,_,I.lnew (t':=s.toks) (r.append r2) (by rw[List.length_append];lia),rfl,q _ I.fresh⟩
def qf5:R2:=fun x y H Q=>∃l k xs,x=.ref l/\y=.int k/\H l=some (.lst xs)/\-(2 ^ 63)<=k/\k < 2 ^ 63/\xs.length*k.toNat<=sizeLine/\
 ∀p,H p=none->Q (.ref p) (upd H p (.lst (replicate k.toNat xs).flatten))
theorem Ro {α:Type}(xs:List α)(k:Nat):(replicate k xs).flatten.length=k*xs.length:=by
 induction k with
 |zero=>simp
 |succ k ih=>rw[replicate_succ,flatten_cons,List.length_append,ih,Nat.succ_mul,Nat.add_comm]
theorem nB:OpR X (binaryOp .Mult) qf5:=by
 intro pins s σ H x y v u Q I rx ry h;obtain⟨l,k,xs,rfl,rfl,hH,h1,h2,hz,q⟩:=h
 cases rx
 obtain⟨t,rfl⟩:=ry;obtain⟨z,its,n,r,hl,e⟩:=I.lstM hH;have hlen:its.toArray.size*k.toNat<=sizeLine:=by rw[size_toArray,<- hl];exact hz
 have hcap:¬its.toArray.size*k.toNat > (2 ^ 63 - 1) / 8:=by
  have:(sizeLine:Nat)<=(2 ^ 63 - 1) / 8:=by decide
  lia
 have hfit:¬(!Builtin.List.listFitsIndex k)=true:=by
  rw[fitsIndex_both h1 h2];exact Bool.false_ne_true
 have hlong:¬Builtin.List.listTooLong (its.toArray.size*k.toNat)=true:=by
  rw[zQ hlen];exact Bool.false_ne_true
 have hnew:foldl (fun x1 x2=>x1++x2) #[] (replicate (if its.toArray.isEmpty=true then 0 else k.toNat) its.toArray)=(replicate k.toNat its).flatten.toArray:=by
  have f0:∀m:Nat,foldl (fun x1 x2=>x1++x2) #[] (replicate m its.toArray)=(replicate m its).flatten.toArray:=fun m=>by
   have:=vS its m [];rw[nil_append] at this;exact this
  rw[f0]
  cases its with
  |nil=>simp
  |cons a r'=>rw[if_neg (by simp)]
 refine wpAny_binaryOp_repeat_ref (T:="list") (U:="int") (by decide) ⟨_,e,rfl⟩ (fun s'=>typeIs_int s' k t) noFill_list_mul F.fills_int_mul F.slot_int_rmul repeat_list F.slot_int_index.lookup
  (call_meets F.slot_int_rmul (typeIs_int s k t) F.entry_int_rmul (F.args_int_rmul_2 _ _) (int___rmul___int_list k t l its.toArray n)
   ⟨e,rfl,⟨_,e,rfl⟩,call_meets F.slot_list_mul ⟨_,e,rfl⟩ F.entry_list_mul (F.args_list_mul_2 _ _) (AutoListH.list___mul___list_int_3 l its.toArray n k t hfit hcap hlong) ⟨e,?_⟩⟩)
 rw[hnew];exact⟨.ref _,_,I.lnew (t':=s.toks) (r.rep k.toNat) (by rw[Ro,Nat.mul_comm];exact hz),rfl,q _ I.fresh⟩
end
end L2
namespace Att
open PySem PySem.W PySem.Calls PyProof.Rows
theorem rJ {P:Params}{h:Heap}:∀(ns:List Int) (vs:List Value),WellAll P h vs (ns.map WData.int)->IntsAre vs ns:=by
 intro ns
 induction ns with
 |nil=>
  intro vs w;rw[map_nil] at w
  cases w
  exact .nil
 |cons n ns ih=>
  intro vs w;rw[map_cons] at w
  cases w with
  |cons a b=>
   cases a
   exact .cons _ _ (ih _ b)
theorem Jv {l:OpenLaw}{n:Nat}(hn:l.most=some n){P:Params}{h:Heap}{args:List WData}{vals:List Value}(hpre:l.row.toRowW.claim.pre args=true)(hwl:WellAll P h vals args) :
  ∃a vs ns,vals=[Value.ref a]/\args=[WData.list (ns.map WData.int)]/\h.get? a=some { cls:=.type "list",data:=.seq vs.toArray }/\IntsAre vs ns/\ns.length<=n:=by
 have hsh:WShape.hasAll [] args [.list .int]=true:=(pre_splitW hpre).1;have hc:l.pre.holds [] { args:=args }=true:=(pre_splitW hpre).2;obtain⟨d,r,rfl,h1,h2⟩:=hasAllW_cons hsh;obtain rfl:=hasAllW_nil h2;obtain⟨xs,rfl,h3⟩:=hasW_list h1;obtain⟨ns,rfl⟩:=items_int h3;have hlen:ns.length<=n:=by
  unfold OpenLaw.pre at hc;have h4:(WTm.not (.lt (.lit (.int (n:Int))) (.len (.arg 0)))).holds [] { args:=[.list (ns.map .int)] }=true:=by
   have h4:=(holds_andW hc).1;rw[hn] at h4;exact h4
  have h5:=condW_of h4 (w_not (w_lt w_lit (w_len_list (w_arg rfl))));rw[length_map] at h5;refine Nat.le_of_not_lt fun q=>?_;have q':(n:Int) < ((ns.length:Nat):Int):=by lia
  first
   | (rw[decide_eq_true q'] at h5;exact absurd h5 (by decide))
   | (simp at h5;lia)
 cases hwl with
 |cons w1 w2=>
  cases w2
  cases w1 with
  |list ho hall=>exact⟨_,_,ns,rfl,rfl,ho,rJ ns _ hall,hlen⟩
theorem Jy (l:OpenLaw)(args:List WData):l.row.toRowW.claim.post args (.bool true) args=true:=
 postW_of (r:=l.row.toRowW) (X:=(true == true))
  (show WShape.has [] (.bool true) .bool=true by first | rfl | decide | simp[WShape.has,WShape.arms,WShape.armsAll])
  (show (WTm.eq .res (.lit (.bool true))).value [] { args:=args,res:=some (.bool true),after:=args }=some (.bool (true == true)) from w_eq_bool (w_res rfl) w_lit) rfl
theorem attach_call {l:OpenLaw}{n:Nat}{q:Program}{loose:List Str}{XP:(Str->Option Value)->Heap->Prop}{YP:World->Heap->Prop}{d:DefRec}(hn:l.most=some n)(hdf:d.params.defaults=[])(call:∀(w:World) (s₀ s₁:Shared) (mg mb:Str->Option Value) (fa:Addr) (o:Obj) (pm cd doc:Value) (a:Addr) (vs:List Value) (ns:List Int),
   Ground q loose [] XP w s₀ mg mb s₁.heap->YP w s₁.heap->
   s₁.heap.get? fa=some o->o.data=.func (docDef d.name d.params d.body d.scope pm cd doc)->s₁.heap.CodeRec cd d.name->mg d.name=some (.ref fa)->
   s₁.heap.get? a=some { cls:=.type "list",data:=.seq vs.toArray }->IntsAre vs ns->ns.length<=n->s₁.gens=#[]->
   codeAny (model l.prog w) callerA (.call (.ref fa) ⟨[.ref a],[]⟩) (fun r s'=>r=.ok (.ret (.bool true))/\OldK s₁.heap s'.heap/\s'.os=s₁.os/\AllBare s'.gens) s₁) :
  WalkO q loose XP YP l.row.toRowW d [] (fun f vs=>PySem.call f vs):=by
 intro w s₀ s₁ mg mb G Y fa o pm cd doc dV kV ho hd hcd hD hmg hg args vals as hpre hlay hrd hwl hlo;obtain rfl:dV=.none:=Dflts.none hD hdf;obtain rfl:kV=.none:=Dflts.noKw hD;obtain⟨a,vs,ns,rfl,rfl,hobj,hints,hlen⟩:=Jv hn hpre hwl;refine enter_call (codeAny_mono (call w s₀ s₁ mg mb fa o pm cd doc a vs ns G Y ho (fd_plain hd) hcd hmg hobj hints hlen hg) fun r s' hq=>?_);obtain⟨rfl,h2,h3,h4⟩:=hq;exact⟨.inl ⟨.bool true,.bool true,[],rfl,fun _=>rfl,.bool true,Jy l _,fun _=>⟨Pairwise.nil,fun _ hm=>(nomatch hm)⟩⟩,h2,h3,h4⟩
end Att
namespace L2
open PySem PySem.Spec PyProof.Rows
theorem vL:∀{vs:List Value} {ns:List Int},IntsAre vs ns->bL (ns.map V.int) vs
 |_,_,.nil=>.nil
 |_,_,.cons n t h=>.cons ⟨t,rfl⟩ (vL h)
def Vo (H:Hp):Prop:=∀b,H b=none\/∃o xs,H b=some (.frz o (.lst xs))
theorem Ml {P:Program}{w:World}{K:Frag}{mg mb:Str->Option Value}{CX:CXT}{k:Nat}{fa a:Addr}{fd:FuncData}{x:Str}{sp:Sp}{s₁:Shared}{vs:List Value}{ns:List Int}(KX:K.In s₁.heap)(hns:s₁.heap.Ns mainGlobals mg)(hb:s₁.heap.Ns builtinsNs mb)(hbb:∀x:Str,x≠"__name__"->mb x=bootBuiltins x)(hlim:s₁.heap.NoLimit)(hg:s₁.gens=#[])(ha:s₁.heap.get? a=some { cls:=.type "list",data:=.seq vs.toArray })(hi:IntsAre vs ns)(hl:ns.length<=sizeLine)(hr:fQ k callerA)(F:∀base:Heap,K.In base->base.Ns mainGlobals mg->aJ P w K mg base CX k fa fd [x] sp)(hbind:∀(s:Shared) (u:Value),BindsTo s fd ⟨[u],[]⟩ [(x,u)])(hsp:∀H:Hp,Vo H->SqL K H a (ns.map V.int)->sp [.ref a] H (fun v _=>v=.bl true) fun _ _ _=>False)(hCX:∀H e s',CX [] H s₁ (fun _ _ _=>False) e s'->False) :
  codeAny (model P w) callerA (.call (.ref fa) ⟨[.ref a],[]⟩) (fun r s'=>r=.ok (.ret (.bool true))/\OldK s₁.heap s'.heap/\s'.os=s₁.os/\AllBare s'.gens) s₁:=by
 have rv:=vL hi;have lenV:=hi.length;have core:∀H:Hp,Vo H->SqL K H a (ns.map V.int)->HOk P w H s₁.heap->(∀b,H b≠none->b=a)->(H a≠none->K.lookup a=none)->
   codeAny (model P w) callerA (.call (.ref fa) ⟨[.ref a],[]⟩) (fun r s'=>r=.ok (.ret (.bool true))/\OldK s₁.heap s'.heap/\s'.os=s₁.os/\AllBare s'.gens) s₁:=by
  intro H hO hS hok hA hK;have base_of:∀{b:Addr} {o:Obj},s₁.heap.get? b=some o->H b=none->(yV s₁.heap H).get? b=some o:=fun e n=>Nj e n;have noA:∀{b:Addr} {o:Obj} {es:Array DictEntry} {ep:Nat},s₁.heap.get? b=some o->o.data=.dict es ep->H b=none:=fun {b o es ep} e d=>by
   cases q:H b with
   |none=>rfl
   |some u=>
    have e':b=a:=hA b (by rw[q];simp);subst e';rw[ha] at e;cases e;have d':Data.seq vs.toArray _=Data.dict es ep:=d
    cases d'
  have nsK:∀{b:Addr} {m:Str->Option Value},s₁.heap.Ns b m->(yV s₁.heap H).Ns b m:=fun {b m} ⟨o,es,ep,e,d,r⟩=>⟨o,es,ep,base_of e (noA e d),d,r⟩
  have hKb:K.In (yV s₁.heap H):=fun b o e=>base_of (KX b o e) (by
   cases q:H b with
   |none=>rfl
   |some u=>
    have e':b=a:=hA b (by rw[q];simp);subst e';rw[hK (by rw[q];simp)] at e;cases e)
  have hM:Mod K mg (yV s₁.heap H):=⟨hKb,nsK hns,⟨mb,nsK hb,hbb⟩,let ⟨mc,h1,h2⟩:=hlim;⟨mc,nsK h1,h2⟩⟩
  have e0:Cr P w K mg (yV s₁.heap H) callerA [] s₁ H:=⟨rfl,hM,fun b o e=>Qz e,Nat.le_of_eq (Kj _ _),trivial,fun b hb=>absurd (show b∈([]:List Addr) from hb) (by simp),hok,.of_eq hg⟩
  refine codeAny_mono ((F _ hKb (nsK hns)).run callerA [] s₁ H ⟨[.ref a],[]⟩ [.ref a] [.ref a] _ _ hr e0 (hbind s₁ (.ref a)) (.cons rfl .nil) (hsp H hO hS)) fun r s' h=>?_
  cases r with
  |error e=>exact(hCX H e s' h).elim
  |ok fl=>
   cases fl with
   |next=>exact False.elim h
   |brk=>exact False.elim h
   |cont=>exact False.elim h
   |ret u=>
    obtain⟨v,H',os,bare,un,hok',r',q⟩:=h;have q':v=.bl true:=q;subst q';obtain rfl:u=Value.bool true:=r';refine⟨rfl,OldK.of_keep fun b o e=>?_,os,bare⟩
    cases q:H b with
    |none=>exact un.keep b o e q (by intro z;exact absurd (show b∈([]:List Addr) from z) (by simp)) (by simp)
    |some u=>
     rcases hO b with z | ⟨ob,xs,z⟩
     ·rw[q] at z;cases z
     ·have z2:=un.frzs b ob _ z;obtain⟨e1,_⟩:=hok b _ z;obtain⟨e2,_⟩:=hok' b _ z2;rw[e] at e1;cases e1;exact e2
 cases hk:K.lookup a with
 |some o=>
  have e:=KX a o hk;rw[ha] at e
  cases e
  refine core (fun _=>none) (fun _=>.inl rfl) (.inr ⟨_,vs.toArray,_,hk,rfl,rfl,rfl,by rw[size_toArray,lenV];exact hl,by simpa using rv⟩) (fun b u z=>by have z':(none:Option HO)=some u:=z;cases z') (fun b z=>absurd rfl z) fun z=>absurd rfl z
 |none=>
  refine core (fun b=>if b=a then some (.frz { cls:=.type "list",data:=.seq vs.toArray } (.lst (ns.map V.int))) else none) (fun b=>?_) (.inl (.inr ⟨{ cls:=.type "list",data:=.seq vs.toArray },if_pos rfl⟩)) (fun b u z=>?_) (fun b z=>?_) fun _=>hk
  ·by_cases hb:b=a
   ·exact .inr ⟨_,_,if_pos hb⟩
   ·exact .inl (if_neg hb)
  ·by_cases hb:b=a
   ·have z':=(if_pos hb).symm.trans z
    cases z'
    subst hb;exact⟨ha,by rw[length_map];exact hl,vs,_,rv,ha⟩
   ·have z':=(if_neg hb).symm.trans z
    cases z'
  ·by_cases hb:b=a
   ·exact hb
   ·exact absurd (if_neg hb) z
abbrev KOf {K:Frag}{h:Heap}(_:K.In h):Frag:=K
theorem Su {l:W.OpenLaw}{n k:Nat}{q:Program}{loose:List Str}{XP:(Str->Option Value)->Heap->Prop}{YP:World->Heap->Prop}{d:DefRec}{K:Params->Frag}{CX:World->CXT}{sp:World->Sp}{x:Str}(hn:l.most=some n)(hn2:n<=sizeLine)(hdf:d.params.defaults=[])(hr:fQ k callerA)(hY:∀(w:World) (h:Heap),YP w h->(K w.params).In h)(F:∀(w:World) (mg:Str->Option Value) (fa:Addr) (h:Heap),(K w.params).In h->h.Ns mainGlobals mg->mg d.name=some (.ref fa)->
   ∃fd:FuncData,(∀(s:Shared) (u:Value),BindsTo s fd ⟨[u],[]⟩ [(x,u)])/\
    ∀base:Heap,(K w.params).In base->base.Ns mainGlobals mg->aJ l.prog w (K w.params) mg base (CX w) k fa fd [x] (sp w))(hsp:∀(w:World) (H:Hp) (a:Addr) (ns:List Int),ns.length<=n->Vo H->SqL (K w.params) H a (ns.map V.int)->sp w [.ref a] H (fun v _=>v=.bl true) fun _ _ _=>False)(hCX:∀(w:World) (H:Hp) (s:Shared) (e:Value) (s':Shared),CX w [] H s (fun _ _ _=>False) e s'->False) :
  W.WalkO q loose XP YP l.row.toRowW d [] (fun f vs=>PySem.call f vs):=by
 refine Att.attach_call hn hdf fun w s₀ s₁ mg mb fa o pm cd doc a vs ns G Y ho hd hcd hmg hobj hints hlen hg=>?_;have KX:=hY w _ Y;obtain⟨fd,hb,hF⟩:=F w mg fa _ KX G.T.g hmg;exact Ml KX G.T.g G.T.b G.T.builtins G.T.nolimit hg hobj hints (Nat.le_trans hlen hn2) hr hF hb (fun H hO hS=>hsp w H a ns hlen hO hS) fun H e s'=>hCX w H s₁ e s'
def cN (s:Stmt)(j:Nat):Stmt:=match s with
 | .ClassDef _ _ _ body _ _ _ _ _ _ _=>body.getD j (.Pass ⟨0,0,0,0⟩)
 |_=>.Pass ⟨0,0,0,0⟩
def eU (s:Stmt):Arguments:=match s with
 | .FunctionDef _ a _ _ _ _ _ _ _ _=>a
 |_=>{ posonlyargs:=[],args:=[],vararg:=none,kwonlyargs:=[],kw_defaults:=[],kwarg:=none,defaults:=[] }
def dU (s:Stmt):List Stmt:=match s with
 | .FunctionDef _ _ b _ _ _ _ _ _ _=>b
 |_=>[]
def aH (s:Stmt):Scope:=match s with
 | .FunctionDef _ _ _ _ _ _ sc _ _ _=>sc
 |_=>{ kind:=.function,names:=[],isGenerator:=false,isCoroutine:=false }
abbrev CX0:CXT:=fun _ _ _ _ _ _=>False
abbrev E0:XK:=fun _ _ _=>False
theorem aS {X:Cx}:kB CX0 X E0:=fun _ _ _ _ _ _ _ h=>h.elim
theorem Qj {A:Around}{k:Nat}(hr:fQ k A):A.units+1 < cLine:=Nat.lt_of_le_of_lt (Nat.add_le_add_left (by decide:1<=64) _) hr.units
theorem aW {n:Nat}(h:n<=1000):n < sizeLine:=Nat.lt_of_le_of_lt h (by decide)
section
variable {X:Cx}
theorem pv (i:Nat){x:Str}{pos:Pos}(hN:X.N[i]?=some x:=by rfl)(hv:Vis X.env.scope x:=by first | exact Or.inl rfl | exact Or.inr (Or.inl rfl) | exact Or.inr (Or.inr rfl))(hd:(x == ("__debug__":Str))=false:=by decide)(hcd:(x == ("__classdict__":Str))=false:=by decide):PE X (.Name x pos) (Up i):=Mt hN hv hd hcd
end
theorem eH {A B:Prop}(h:B):if false=true then A else B:=by
 rw[if_neg Bool.false_ne_true];exact h
theorem cT {A B:Prop}(h:A):if true=true then A else B:=by
 rw[if_pos rfl];exact h
theorem Ja {c A B:Prop}[Decidable c](h1:c->A)(h2:¬c->B):if c then A else B:=by
 by_cases h:c
 ·rw[if_pos h];exact h1 h
 ·rw[if_neg h];exact h2 h
def aK (H H':Hp):Prop:=∀b o,H b=some o->H' b=some o
theorem aK.refl (H:Hp):aK H H:=fun _ _ h=>h
theorem aK.trans {H H1 H2:Hp}(a:aK H H1)(b:aK H1 H2):aK H H2:=fun c o h=>b c o (a c o h)
theorem aK.free {H H':Hp}(e:aK H H'){l:Addr}(h:H' l=Option.none):H l=Option.none:=by
 cases q:H l with
 |none=>rfl
 |some o=>
  rw[e l o q] at h
  cases h
theorem aK.seq {K:Frag}{H H':Hp}{a:Addr}{xs:List V}(e:aK H H')(h:SqL K H a xs):SqL K H' a xs:=by
 rcases h with (h | ⟨o,h⟩) | h
 ·exact .inl (.inl (e _ _ h))
 ·exact .inl (.inr ⟨o,e _ _ h⟩)
 ·exact .inr h
section
variable {X:Cx}
def Bt (n:Nat)(i:Int):Prop:=i.natAbs < 2 ^ n
theorem uC {n:Nat}{i:Int}(h:Bt n i):Builtin.Int.intBits i<=n:=by
 unfold Builtin.Int.intBits;split
 ·exact Nat.zero_le _
 ·rename_i h0
  have hp:i.natAbs≠0:=by
   intro z;apply h0;simp at z ⊢;exact z
  have:i.natAbs.log2 < n:=(Nat.log2_lt hp).mpr h;lia
def Uq (i j:Int):Prop:=∃n m,Bt n i/\Bt m j/\n<=1048576/\m<=1048576
theorem Uq.ok {i j:Int}(h:Uq i j):IntMulOk i j:=by
 obtain⟨n,m,h1,h2,h3,h4⟩:=h;have e:(2:Nat) ^ 20=1048576:=by decide
 exact IntMulOk.of_bits (by have:=uC h1;lia) (by have:=uC h2;lia)
theorem cZ:OpR X (binaryOp .Mult) (rI Uq fun i j=>.int (i*j)):=opI fun _ _ _ _ _ _ _ hc q=>mul_int q hc.ok
def Fv (i j:Int):Prop:=j≠0/\∃n,Bt n j/\n<=9000
theorem Fv.ok {i j:Int}(h:Fv i j):Builtin.divisionGoesByPylong i j=false:=by
 obtain⟨h0,n,h1,h2⟩:=h;refine PyProof.noPylong_of_log2 ?_;have hp:j.natAbs≠0:=by lia
 have:j.natAbs.log2 < n:=(Nat.log2_lt hp).mpr h1;lia
theorem kM:OpR X (binaryOp .FloorDiv) (rI Fv fun i j=>.int (i.fdiv j)):=opI fun _ _ _ _ _ _ _ hc q=>floordiv_int hc.1 q (.inl hc.ok)
mutual
inductive mE (K:Frag) (H:Hp):V->PyData->Prop where
 |non:mE K H .non .none
 |bl (b:Bool):mE K H (.bl b) (.bool b)
 |int (i:Int):mE K H (.int i) (.int i)
 |str (x:Str):mE K H (.str x) (.str x)
 |lst {a:Addr} {xs:List V} {ds:List PyData} (h:SqL K H a xs) (q:rB K H xs ds):mE K H (.ref a) (.list ds)
 |tup {a:Addr} {xs:List V} {ds:List PyData} (h:SqT K H a xs) (q:rB K H xs ds):mE K H (.ref a) (.tuple ds)
inductive rB (K:Frag) (H:Hp):List V->List PyData->Prop where
 |nil:rB K H [] []
 |cons {x:V} {d:PyData} {xs:List V} {ds:List PyData} (p:mE K H x d) (q:rB K H xs ds):rB K H (x :: xs) (d :: ds)
end
theorem jT {pins:List (Addr × Obj)}{s:Shared}{σ:St}{H:Hp}(I:Inv X pins σ H s):∀{x:V} {d:PyData},mE X.K H x d->∀{u:Value},bS x u->∃as,Reads s.heap u d as:=by
 intro x d h
 induction h using mE.rec (motive_2:=fun xs ds _=>∀{us:List Value},bL xs us->∃as,ReadsAll s.heap us ds as) with
 |non=>intro u r;cases (show u=Value.none from r);exact⟨_,.none⟩
 |bl b=>intro u r;cases (show u=Value.bool b from r);exact⟨_,.bool b⟩
 |int i=>intro u r;obtain⟨t,rfl⟩:=(show ∃t,u=Value.int i t from r);exact⟨_,.int i t⟩
 |str y=>intro u r;obtain⟨t,rfl⟩:=(show ∃t,u=Value.str y t from r);exact⟨_,.str y t⟩
 |lst h q ih=>
  intro u r
  cases (show u=Value.ref _ from r)
  obtain⟨its,rv,pl,_⟩:=I.list h;obtain⟨as,ra⟩:=ih rv;obtain⟨o,h1,h2,n,h3⟩:=pl.isList;exact⟨_,.list h1 h2 h3 (by simpa using ra)⟩
 |tup h q ih=>
  intro u r
  cases (show u=Value.ref _ from r)
  obtain⟨its,rv,pl,_⟩:=I.tuple h;obtain⟨as,ra⟩:=ih rv;obtain⟨o,h1,h2,n,h3⟩:=pl;exact⟨_,.tuple h1 h2 h3 (by simpa using ra)⟩
 |nil=>rename_i us r;cases r;exact⟨_,.nil⟩
 |cons p q ih1 ih2=>
  rename_i us r
  cases r with
  |cons r1 r2=>
   obtain⟨as,h1⟩:=ih1 r1;obtain⟨bs,h2⟩:=ih2 r2;exact⟨_,.cons h1 h2⟩
def Jc (K:Frag)(neg:Bool):R2:=fun x y H Q=>∃d e,mE K H x d/\mE K H y e/\d.canLay0=true/\e.canLay0=true/\min d.depth e.depth<=16/\Q (.bl (if neg then !PyData.eqv d e else PyData.eqv d e)) H
theorem Db (hu:X.A.units+64 < cLine):OpR X (compareOp .Eq) (Jc X.K false):=by
 intro pins s σ H x y v u Q I rx ry h;obtain⟨d,e,h1,h2,c1,c2,hm,q⟩:=h;obtain⟨as,r1⟩:=jT I h1 rx;obtain⟨bs,r2⟩:=jT I h2 ry;exact PySem.SeqAt.compareEq_reads r1 r2 c1 c2 (by lia) ⟨.bl (PyData.eqv d e),H,I,rfl,q⟩
theorem Yt (hu:X.A.units+64 < cLine):OpR X (compareOp .NotEq) (Jc X.K true):=by
 intro pins s σ H x y v u Q I rx ry h;obtain⟨d,e,h1,h2,c1,c2,hm,q⟩:=h;obtain⟨as,r1⟩:=jT I h1 rx;obtain⟨bs,r2⟩:=jT I h2 ry;exact PySem.SeqAt.compareNe_reads r1 r2 c1 c2 (by lia) ⟨.bl (!PyData.eqv d e),H,I,rfl,q⟩
end
section
variable {prog:Program} {w:World} {A:Around} {R:Result->Shared->Prop} {s:Shared}
abbrev Vd (ifs:List Expr)(env:Env):Sem Bool:=forIn ifs true fun c r=>if r=true then do let ok <- isTrue c env (eval c env);pure (ForInStep.yield ok) else pure (ForInStep.yield r)
theorem vQ {elt target iter:Expr}{ifs:List Expr}{scope:Scope}{pos:Pos}{it acc:Value}{env:Env}(I:Nat->Shared->Prop)(turn:∀n s,I n s->wpAny (model prog w) A (pyNext it) (fun r s₁=>match r with
   |none=>R (.ok .next) s₁
   |some v=>wpAny (model prog w) A (letOwnedTupleGo target it v) (fun _ s₀=>wpAny (model prog w) A (assign target env v) (fun _ s₂=>
     wpAny (model prog w) A (Vd ifs env) (fun ok s₃=>
      if ok=true then wpAny (model prog w) A (eval elt env) (fun x s₄=>
       wpAny (model prog w) A (call (.builtin "list.append") [acc,x]) (fun _ s₅=>∃m,m < n/\I m s₅) (fun _ _=>False) s₄) (fun _ _=>False) s₃
      else ∃m,m < n/\I m s₃) (fun _ _=>False) s₂) (fun _ _=>False) s₀) (fun _ _=>False) s₁) (fun _ _=>False) s)(n:Nat)(h:I n s) :
  codeAny (model prog w) A (.compLoop (.ListComp elt [⟨target,iter,ifs,0⟩] scope pos) 0 it acc env) R s:=by
 refine codeAny_loop rfl I (fun n s hI=>?_) n h;show wpAny _ A ((compTurn (.ListComp elt [⟨target,iter,ifs,0⟩] scope pos) 0 it acc env).onRaise (fun x=>do noteFrame x env;theTreesLotGoes x)) _ _ s;refine wpAny_noted ?_;rw[compTurn_list];refine wpAny_bind (wpAny_standAt (wpAny_bind (wpAny_mono (turn n s hI) (fun r s₁ h₁=>?_) fun _ _ z=>z.elim)))
 cases r with
 |none=>exact wpAny_pure h₁
 |some v=>
  refine wpAny_bind (wpAny_mono h₁ (fun _ s₀ h₀=>?_) fun _ _ z=>z.elim);refine wpAny_bind (wpAny_mono h₀ (fun _ s₂ h₂=>wpAny_bind (wpAny_mono h₂ (fun ok s₃ h₃=>?_) fun _ _ z=>z.elim)) fun _ _ z=>z.elim)
  cases ok with
  |false=>exact wpAny_pure ⟨rfl,h₃⟩
  |true=>
   rw[if_pos rfl] at h₃;show wpAny _ _ ((do let _ <- call (.builtin "list.append") [acc,<- eval elt env]) >>= fun _=>again (.compLoop (.ListComp elt [⟨target,iter,ifs,0⟩] scope pos) 0 it acc env)) _ _ _;exact wpAny_bind (wpAny_bind (wpAny_mono h₃ (fun x s₄ h₄=>wpAny_bind (wpAny_mono h₄ (fun _ s₅ h₅=>wpAny_pure (wpAny_pure ⟨rfl,h₅⟩)) fun _ _ z=>z.elim)) fun _ _ z=>z.elim))
end
structure yC (X:Cx) (scope:Scope) (cl:List (Str × Addr)) (Nc:List Str) (nl:Nat) (fr:List Nat):Prop where
 clos:closureFor scope X.env=pure cl
 kind:scope.kind=.function
 names:∀y∈scope.names,y.2=.local->scope.names.lookup y.1=some .local
 cell:∀y∈scope.names,y.2≠.cell
 sub:∀x c,cl.lookup x=some c->X.env.cells.lookup x=some c
 has:∀x,(relabel scope X.env).names.lookup x=some .cell\/(relabel scope X.env).names.lookup x=some .free->∃c,cl.lookup x=some c
 len:Nc.length=nl+fr.length
 tail:∀i n,Nc[nl+i]?=some n->∃j,fr[i]?=some j/\X.N[j]?=some n/\X.env.kindOf n=some .cell/\cl.lookup n=X.env.cells.lookup n/\((relabel scope X.env).names.lookup n=some .cell\/(relabel scope X.env).names.lookup n=some .free)
abbrev dY (X:Cx)(scope:Scope)(cl:List (Str × Addr))(Nc:List Str)(C:Addr)(s3:Shared)(H3:Hp)(fp:List Addr)(pins:List (Addr × Obj)):Cx:=
 { X with N:=Nc,s₀:=s3,H₀:=H3,env:=compEnvC scope cl C X.env,outer:=X.stack,ex:=fp,fn:=fun _=>false,pn:=X.pn++pins,xe:=fun _ _=>False }
def σC (nl:Nat)(fr:List Nat)(σ:St):St:=replicate nl none++fr.map fun j=>(σ[j]?).join
abbrev PIf (X:Cx)(ifs:List Expr)(t:TT):Prop:=
 ∀(pins:List (Addr × Obj)) (s:Shared) (σ:St) (H:Hp) (Q:Bool->Hp->Prop),Inv X pins σ H s->t σ H Q->wpAny (model X.prog X.w) X.A (Vd ifs X.env) (TP X pins σ Q) X.xe s
theorem cA {X:Cx}:PIf X [] (fun _ H Q=>Q true H):=fun _ _ _ H _ I h=>wpAny_pure ⟨H,I,h⟩
theorem sG {X:Cx}{c:Expr}{t:TT}(h:PT X c t):PIf X [c] t:=fun pins s σ H Q I q=>wpAny_tests_one (h pins s σ H Q I q)
section
variable {X:Cx} {scope:Scope} {cl:List (Str × Addr)} {Nc:List Str} {nl:Nat} {fr:List Nat} {pins:List (Addr × Obj)} {σ:St} {H3:Hp} {s3:Shared} {fp:List Addr} {h4:Heap} {tk:Nat}
theorem Cp (ck:yC X scope cl Nc nl fr)(I:Inv X pins σ H3 s3)(hf:∀b∈fp,iO X pins H3 b)(hfs:∀b∈fp,b < s3.heap.objs.size)(hns:h4.Ns s3.heap.objs.size fun _=>none)(hk:∀b o,s3.heap.get? b=some o->h4.get? b=some o) :
  Inv (dY X scope cl Nc s3.heap.objs.size s3 H3 fp pins) [] (σC nl fr σ) H3 { s3 with heap:=h4,toks:=tk }:=by
 have stk:∀b∈frs X.stack,b∈X.env.locals :: X.fs:=I.stkSub;have nfs:∀b,b≠X.env.locals->b∉X.fs->b∉frs X.stack:=fun b h1 h2 z=>(mem_cons.mp (stk b z)).elim h1 h2;have ltc:∀x c,cl.lookup x=some c->c < s3.heap.objs.size:=fun x c e=>by
  obtain⟨v,z⟩:=I.cell x c (ck.sub x c e);exact z.lt
 refine⟨⟨I.ok.mod,ck.kind,I.ok.glob,I.ok.blt,Nat.le_refl _,fun x y c h1 h2=>I.ok.inj x y c (ck.sub x c h1) (ck.sub y c h2),fun x hx=>ck.has x hx,fun x c hz=>Bool.noConfusion hz,I.ok.hd,I.ok.frames,.inl rfl,fun b hb=>?_,I.bs,Nat.le_trans I.ok.bsz I.sz,fun b o e hb=>?_,fun b hb=>?_,I.stack,I.stkFree⟩,
  rfl,I.bare,Un.kept hk,⟨_,hns,fun i x v h1 h2 h3=>?_⟩,fun x c e=>?_,I.hok.fresh (Nat.le_refl _),fun x c e=>I.freeC x c (ck.sub x c e),fun p hp=>?_,I.hok.kept hk,?_⟩
 ·obtain⟨f0,f1,f2,f3,f4,f5⟩:=hf b hb;exact⟨Nat.ne_of_lt (hfs b hb),fun x c e=>f4 x c (ck.sub x c e)⟩
 ·obtain⟨f0,f1,f2,f3,f4,f5⟩:=hf b hb;rcases f3 with z | z
  ·exact I.ok.noex b o e z
  ·exact absurd (Nat.lt_of_lt_of_le (Heap.lt_size e) (Nat.le_trans I.ok.bsz z)) (Nat.lt_irrefl _)
 ·obtain⟨f0,f1,f2,f3,f4,f5⟩:=hf b hb;exact nfs b f1 f2
 ·-- a name's value
  unfold σC at h2
  by_cases hi:i < nl
  ·rw[getElem?_append_left (by simpa using hi),getElem?_replicate] at h2;split at h2<;>cases h2
  ·have hi':nl<=i:=by lia
   rw[getElem?_append_right (by simpa using hi'),length_replicate,getElem?_map] at h2;obtain⟨k,rfl⟩:∃k,i=nl+k:=⟨i - nl,by lia⟩
   obtain⟨j,e1,e2,e3,e4,e5⟩:=ck.tail k x h1;rw[Nat.add_sub_cancel_left,e1] at h2;have h2':(σ[j]?).join=some v:=by simpa using h2
   have h2'':σ[j]?=some (some v):=by
    cases q:σ[j]? with
    |none=>rw[q] at h2';cases h2'
    |some z=>rw[q] at h2';exact congrArg some h2'
   obtain⟨m,hn,hl⟩:=I.loc;obtain⟨u,r,l⟩:=hl j x v e2 h2'' (.inr (.inl e3));refine⟨u,r,?_⟩;rcases l with ⟨k1,_⟩ | ⟨k1,c,ec,z⟩
   ·rw[e3] at k1;cases k1
   ·obtain⟨o,ho,hd⟩:=z;exact .inr ⟨e5,c,by show cl.lookup x=some c;rw[e4];exact ec,o,hk _ _ ho,hd⟩
 ·obtain⟨v,o,ho,hd⟩:=I.cell x c (ck.sub x c e);exact⟨v,o,hk _ _ ho,hd⟩
 ·have hp':p∈X.pn++pins:=by simpa using hp
  obtain⟨e,n,ne,nf,d⟩:=I.pin p hp';exact⟨hk _ _ e,n,Nat.ne_of_lt (Heap.lt_size e),nfs _ ne nf,d⟩
 ·unfold σC;show _=Nc.length;rw[List.length_append,length_replicate,length_map,ck.len]
theorem Nq {pins':List (Addr × Obj)}{σ':St}{H':Hp}{s':Shared}(I:Inv X pins σ H3 s3)(hf:∀b∈fp,iO X pins H3 b)(J:Inv (dY X scope cl Nc s3.heap.objs.size s3 H3 fp pins) pins' σ' H' s'):Inv X pins σ H' s'/\iO X pins H' s3.heap.objs.size:=by
 refine⟨I.call' (ch:=fp) J.os J.base J.hok J.bare fun b hb=>?_,I.fpOk (Nat.le_refl _) J.free⟩;obtain⟨f0,f1,f2,f3,f4,f5⟩:=hf b hb;exact⟨f3,f1,f4,f5⟩
theorem Inv.off {b:Addr}{H:Hp}{s:Shared}{h':Heap}(I:Inv X pins σ H s)(f:iO X pins H b)(hs:Heap.SameBut b s.heap h'):Inv X pins σ H { s with heap:=h' }:=by
 obtain⟨f0,f1,f2,f3,f4,f5⟩:=f;exact I.turned (t':=s.toks) (it:=b) (fun c o hb e=>(hs.2 c hb).trans e) f0 f1 f3 f4 f5
end
def Ax (J:It)(nl:Nat)(fr:List Nat)(g:TG)(tt:TT)(te:TE)(σ:St)(D:Addr)(H1:Hp)(Q:VK):Prop:=
 ∃W:Nat->Nat->List V->Hp->Prop,(∃m,W 0 m [] (upd H1 D (.lst [])))/\∀i m ys H2,W i m ys H2->H2 D=some (.lst ys)/\
  ((J.stop i H2/\Q (.ref D) H2)\/(J.go i H2/\∀x H3,J.yld i H2 x H3->g x (σC nl fr σ) H3 fun σ2 H4=>σ2.length=(σC nl fr σ).length/\(∀(i:Nat) v,(σC nl fr σ)[i]?=some (some v)->σ2[i]?=some (some v))/\
   tt σ2 H4 fun b H5=>if b=true then te σ2 H5 fun y H6=>H6 D=some (.lst ys)/\ys.length < sizeLine/\∃m',m' < m/\W (i+1) m' (ys++[y]) (upd H6 D (.lst (ys++[y])))
    else ∃m',m' < m/\W (i+1) m' ys H5))
def Ap (wi:TI)(nl:Nat)(fr:List Nat)(g:TG)(tt:TT)(te:TE):TE:=fun σ H Q=>wi σ H fun J H1=>∀D,H1 D=none->Ax J nl fr g tt te σ D H1 Q
section
variable {X:Cx} {scope:Scope} {cl:List (Str × Addr)} {Nc:List Str} {nl:Nat} {fr:List Nat} {elt tg iter:Expr} {ifs:List Expr} {pos:Pos} {wi:TI} {g:TG} {tt:TT} {te:TE}
theorem zU (hc:X.calm=true)(ck:yC X scope cl Nc nl fr)(hi:PI X tg iter wi)(hg:∀C s3 H3 fp pins,PG (dY X scope cl Nc C s3 H3 fp pins) tg g)(ht:∀C s3 H3 fp pins,PIf (dY X scope cl Nc C s3 H3 fp pins) ifs tt)(he:∀C s3 H3 fp pins,PE (dY X scope cl Nc C s3 H3 fp pins) elt te){pins:List (Addr × Obj)}{s:Shared}{σ:St}{H:Hp}{Q:VK}(I:Inv X pins σ H s)(h:Ap wi nl fr g tt te σ H Q){RR:Value->Addr->Result->Shared->Prop}(fin:∀D C s',(∃H',(∃m,s'.heap.Ns C m)/\Inv X pins σ H' s'/\iO X pins H' C/\Q (.ref D) H')->RR (.ref D) C (.ok .next) s') :
  wpAny (model X.prog X.w) X.A (eval iter X.env) (fun x s₁=>wpAny (model X.prog X.w) X.A (pyIter x) (fun it s₂=>wpAny (model X.prog X.w) X.A (newList []) (fun acc s₃=>
   wpAny (model X.prog X.w) X.A (newFunctionEnv scope X.env.globals cl [] X.env.qual none .none (some X.env)) (fun cenv s₄=>
    codeAny (model X.prog X.w) X.A (.compStart (.ListComp elt [⟨tg,iter,ifs,0⟩] scope pos) 0 it acc { cenv with scope:=relabel scope X.env }) (RR acc cenv.locals) s₄) X.xe s₃) X.xe s₂) X.xe s₁) X.xe s:=by
 refine thn (hi pins s σ H _ I h) fun v s1 h1=>thn h1 fun itv s2 h2=>?_;obtain⟨it,fp,tn,J,H2,e,I2,T,st2,f2,hD⟩:=h2;subst e;have hn2:H2 s2.heap.objs.size=none:=I2.hok.fresh (Nat.le_refl _);obtain⟨W,⟨m0,w0⟩,turn⟩:=hD s2.heap.objs.size hn2;refine wpAny_newObj_type (wpAny_newFunctionEnv ck.cell (by intro y hy;simp at hy) (fun h4 hns hsb=>?_) ck.kind);dsimp only at hns hsb ⊢;have I3:Inv X pins σ (upd H2 s2.heap.objs.size (.lst [])) { s2 with heap:=s2.heap.push { cls:=.type "list",dict:=none,data:=.seq ([]:List Value).toArray } }:=
  I2.laid (t':=s2.toks) (fun b u e=>Heap.get?_push_of_some _ e) (Nat.le_refl _) ⟨Nat.zero_le _,[],0,.nil,Heap.get?_push_size _ rfl⟩
 have hfs:∀b∈fp,b < s2.heap.objs.size:=fun b hb=>by
  obtain⟨o,e,_⟩:=T.obj 0 _ st2 b hb;exact Heap.lt_size e
 have f3:∀b∈fp,iO X pins (upd H2 s2.heap.objs.size (.lst [])) b:=fun b hb=>⟨by rw[aM (Nat.ne_of_lt (hfs b hb))];exact(f2 b hb).1,(f2 b hb).2⟩
 generalize hH3:upd H2 s2.heap.objs.size (.lst [])=H3 at *
 generalize hs3:({ s2 with heap:=s2.heap.push { cls:=.type "list",dict:=none,data:=.seq ([]:List Value).toArray } }:Shared)=s3 at *
 have z3:s3.heap=s2.heap.push { cls:=.type "list",dict:=none,data:=.seq ([]:List Value).toArray }:=by rw[<- hs3]
 have hsz3:s3.heap.objs.size=s2.heap.objs.size+1:=by rw[z3,Heap.size_push]
 rw[<- z3] at hns hsb ⊢;have hk4:∀b o,s3.heap.get? b=some o->h4.get? b=some o:=fun b o e=>hsb.extBut b o (Nat.ne_of_lt (Heap.lt_size e)) (Heap.get?_push_of_some _ e);have hfs3:∀b∈fp,b < s3.heap.objs.size:=fun b hb=>Nat.lt_of_lt_of_le (hfs b hb) (by rw[hsz3];exact Nat.le_succ _);have hns':h4.Ns s3.heap.objs.size fun _=>none:=by simpa using hns
 have K0:=fun tk=>Cp (tk:=tk) ck I3 f3 hfs3 hns' hk4;have stat:∀{H':Hp},(∀b∈fp,H' b=none)->∀b∈fp,iO (dY X scope cl Nc s3.heap.objs.size s3 H3 fp pins) [] H' b:=fun {H'} hn b hb=>by
  obtain⟨f0,g1,g2,g3,g4,g5⟩:=f3 b hb;refine⟨hn b hb,Nat.ne_of_lt (hfs3 b hb),fun z=>?_,.inl hb,fun x c e=>g4 x c (ck.sub x c e),fun p hp=>g5 p (by simpa using hp)⟩;exact(mem_cons.mp (I3.stkSub b z)).elim g1 g2
 have st4:tn 0 h4:=T.keep 0 _ _ st2 fun b hb o e=>hk4 b o (by rw[z3];exact Heap.get?_push_of_some _ e);have loop:∀tk,codeAny (model X.prog X.w) X.A (.compLoop (.ListComp elt [⟨tg,iter,ifs,0⟩] scope pos) 0 (.ref it) (.ref s2.heap.objs.size) (compEnvC scope cl s3.heap.objs.size X.env)) (RR (.ref s2.heap.objs.size) s3.heap.objs.size) { s3 with heap:=h4,toks:=tk }:=by
  intro tk;refine vQ (fun n s'=>∃i ys H',Inv (dY X scope cl Nc s3.heap.objs.size s3 H3 fp pins) [] (σC nl fr σ) H' s'/\tn i s'.heap/\(∀b∈fp,H' b=none)/\W i n ys H') ?_ m0 ⟨0,[],H3,K0 tk,st4,fun b hb=>(f3 b hb).1,w0⟩;rintro n s5 ⟨i,ys,H5,I5,st5,fr5,w5⟩;obtain⟨hl5,q5⟩:=turn i n ys H5 w5;rcases q5 with ⟨stop,qn⟩ | ⟨go,step⟩
  ·refine wpAny_mono (T.done (dY X scope cl Nc s3.heap.objs.size s3 H3 fp pins) rfl rfl rfl hc i [] s5 (σC nl fr σ) H5 (fun _ _=>False) I5 (stat fr5) st5 stop) (fun r s6 h6=>?_) fun _ _ z=>z;obtain⟨hr,I6⟩:=h6;subst hr;obtain⟨z1,z2⟩:=Nq I3 f3 I6;refine fin _ _ _ ⟨H5,?_,z1,z2,qn⟩;obtain⟨m,hm,_⟩:=I6.loc;exact⟨m,hm⟩
  ·refine wpAny_mono (T.item (dY X scope cl Nc s3.heap.objs.size s3 H3 fp pins) rfl rfl rfl hc i [] s5 (σC nl fr σ) H5 (fun _ _=>False) I5 (stat fr5) st5 go) (fun r s6 h6=>?_) fun _ _ z=>z;obtain⟨u,hr,h6⟩:=h6;subst hr;refine wpAny_mono h6 (fun _ s7 h7=>?_) fun _ _ z=>z;obtain⟨x,H7,I7,r7,y7,st7,fr7⟩:=h7;have I7':=I7.pinned (stat fr7) (T.obj _ _ st7);refine wpAny_mono (hg s3.heap.objs.size s3 H3 fp pins _ s7 _ H7 x u _ I7' r7 (step x H7 y7)) (fun _ s8 h8=>?_) fun _ _ z=>z;obtain⟨σ8,H8,I8,l8,k8,q8⟩:=h8;refine wpAny_mono (ht s3.heap.objs.size s3 H3 fp pins _ s8 σ8 H8 _ I8 q8) (fun b s9 h9=>?_) fun _ _ z=>z;obtain⟨H9,I9,q9⟩:=h9;have again:∀{ys':List V} {H':Hp} {s':Shared} {m':Nat},Inv (dY X scope cl Nc s3.heap.objs.size s3 H3 fp pins) ([]++pX fp s7.heap) σ8 H' s'->m' < n->W (i+1) m' ys' H'->
     ∃m,m < n/\∃i ys H',Inv (dY X scope cl Nc s3.heap.objs.size s3 H3 fp pins) [] (σC nl fr σ) H' s'/\tn i s'.heap/\(∀b∈fp,H' b=none)/\W i m ys H':=fun {ys' H' s' m'} I' hm w'=>by
    refine⟨m',hm,i+1,ys',H',I'.unpinned.weak l8.symm k8,T.keep _ _ _ st7 fun b hb o e=>(I'.pin (b,o) (mem_append_right _ (mem_append_right _ (gH hb e)))).1,fun b hb=>?_,w'⟩;obtain⟨o,e,d⟩:=T.obj _ _ st7 b hb;exact(I'.pin (b,o) (mem_append_right _ (mem_append_right _ (gH hb e)))).2.1
   cases b with
   |false=>
    rw[if_neg Bool.false_ne_true] at q9 ⊢;obtain⟨m',hm,w9⟩:=q9;exact again I9 hm w9
   |true=>
    rw[if_pos rfl] at q9 ⊢;refine wpAny_mono (he s3.heap.objs.size s3 H3 fp pins _ s9 σ8 H9 _ I9 q9) (fun yv s10 h10=>?_) fun _ _ z=>z;obtain⟨y,H10,I10,r10,hl10,hz10,m',hm,w10⟩:=h10;refine wpAny_mono (iC (X:=dY X scope cl Nc s3.heap.objs.size s3 H3 fp pins) _ s10 σ8 H10 (.ref s2.heap.objs.size) [y] _ [yv] (fun v H'=>H'=upd H10 s2.heap.objs.size (.lst (ys++[y]))) I10 rfl (.cons r10 .nil) ⟨_,ys,y,rfl,rfl,hl10,hz10,rfl⟩) (fun _ s11 h11=>?_) fun _ _ z=>z;obtain⟨_,H11,I11,_,e11⟩:=h11;subst e11;exact again I11 hm w10
 have L:=loop (s2.toks+([]:List (Str × Value)).length);rw[show s3.gens=s2.gens by rw[<- hs3],show s3.drawn=s2.drawn by rw[<- hs3],show s3.os=s2.os by rw[<- hs3]] at L;exact codeAny_compStart_list L (T.self _ 0 _ _ _ st4 L)
theorem cL (hc:X.calm=true)(ck:yC X scope cl Nc nl fr)(hi:PI X tg iter wi)(hg:∀C s3 H3 fp pins,PG (dY X scope cl Nc C s3 H3 fp pins) tg g)(ht:∀C s3 H3 fp pins,PIf (dY X scope cl Nc C s3 H3 fp pins) ifs tt)(he:∀C s3 H3 fp pins,PE (dY X scope cl Nc C s3 H3 fp pins) elt te)(hs:∀x,foldedSetIterable iter X.env x=pure x:=by intro _;rfl):PE X (.ListComp elt [⟨tg,iter,ifs,0⟩] scope pos) (Ap wi nl fr g tt te):=by
 intro pins s σ H Q I h;rw[eval_ListComp];refine wpAny_comprehension_free (use:=none) rfl hs ck.clos ck.kind ck.names (zU (RR:=fun acc C=>compPost (model X.prog X.w) X.A X.xe none (EP X pins σ Q) acc C) hc ck hi hg ht he I h fun D C s' hh=>?_);obtain⟨H',⟨m,hm⟩,hI,hF,q⟩:=hh;exact⟨m,hm,fun h' hs'=>⟨.ref D,H',hI.off hF hs',rfl,q⟩⟩
theorem hZ {i:Nat}{y:Str}{py spos:Pos}(hN:X.N.Nodup)(hiy:X.N[i]?=some y)(hy:X.env.scope.names.lookup y=some .local)(hc:X.calm=true)(ck:yC X scope cl Nc nl fr)(hi:PI X tg iter wi)(hg:∀C s3 H3 fp pins,PG (dY X scope cl Nc C s3 H3 fp pins) tg g)(ht:∀C s3 H3 fp pins,PIf (dY X scope cl Nc C s3 H3 fp pins) ifs tt)(he:∀C s3 H3 fp pins,PE (dY X scope cl Nc C s3 H3 fp pins) elt te)(hsw:swapsWith (.ListComp elt [⟨tg,iter,ifs,0⟩] scope pos) (some (.Name y py)) spos.line X.env=pure true)(hs:∀x,foldedSetIterable iter X.env x=pure x:=by intro _;rfl):PS X (.Assign [.Name y py] (.ListComp elt [⟨tg,iter,ifs,0⟩] scope pos) spos) (Xh (Ap wi nl fr g tt te) (gD i)):=by
 intro pins s σ H D I h;rw[exec_Assign_Name_used _ _ _ _ hsw];refine wpAny_bind (wpAny_standAt (wpAny_bind ?_));show wpAny _ X.A (do let _ <- comprehension (.ListComp elt [⟨tg,iter,ifs,0⟩] scope pos) scope X.env _ (newList []) false (eval iter X.env) (some (assign (.Name y py) X.env))) _ _ s;refine wpAny_bind (wpAny_mono (wpAny_comprehension_free (use:=some (assign (.Name y py) X.env)) (Q:=fun _ s'=>SP X pins D .next s') rfl hs ck.clos ck.kind ck.names
  (zU (RR:=fun acc C=>compPost (model X.prog X.w) X.A X.xe (some (assign (.Name y py) X.env)) (fun _ s'=>SP X pins D .next s') acc C) hc ck hi hg ht he I h fun Dd C s' hh=>?_)) (fun _ s' hq=>wpAny_pure (wpAny_pure hq)) fun _ _ e=>e)
 obtain⟨H',⟨m,hm⟩,hI,hF,q⟩:=hh;show wpAny _ X.A (assign (.Name y py) X.env (.ref Dd)) _ _ _;refine wpAny_assign_Name (vW hI hN hiy (.inl hy) (v:=.ref Dd) rfl (fun s2 I2 hsb=>?_) (.inr hy));obtain⟨a,sb,ha⟩:=hsb;have hCa:C≠a:=by
  rcases ha with z | z
  ·rw[z];exact hF.2.1
  ·exact Ne.symm (hF.2.2.2.2.1 y a z)
 refine⟨m,hm.sameBut sb hCa,fun h' hs'=>⟨_,H',I2.off hF hs',q⟩⟩
end
end L2
namespace Mq
abbrev Q2:=Int × Int
def gc (a b:Int):Int:=(Int.gcd a b:Nat)
theorem Sm (a b:Int):gc b (Int.fmod a b)=gc a b:=by
 unfold gc;rw[Int.fmod_def,Int.gcd_comm a b,Int.sub_eq_add_neg,<- Int.mul_neg,Int.gcd_add_mul_left_right]
theorem Ip {a b:Int}(h:b≠0):(Int.fmod a b).natAbs < b.natAbs:=by
 rcases (by lia:0 < b\/b < 0) with h1 | h1
 ·have:=Int.fmod_nonneg_of_pos a h1;have:=Int.fmod_lt_of_pos a h1;lia
 ·have h2:0 < -b:=by lia
  have e:Int.fmod a b=- Int.fmod (-a) (-b):=by
   rw[Int.neg_fmod_neg];lia
  have:=Int.fmod_nonneg_of_pos (-a) h2;have:=Int.fmod_lt_of_pos (-a) h2;lia
theorem Uo (a:Int):gc a 0=if a < 0 then -a else a:=by
 unfold gc;rw[Int.gcd_zero];split<;>lia
theorem uK {a b:Int}(h:b≠0):0 < gc a b:=by
 have:=Int.gcd_pos_of_ne_zero_right a h;unfold gc;lia
structure Low (p:Q2):Prop where
 pos:1<=p.2
 one:gc p.1 p.2=1
def dvr (t b:Int):Int:=if b < 0 then -gc t b else gc t b
def red (t b:Int):Q2:=(Int.fdiv t (dvr t b),Int.fdiv b (dvr t b))
theorem vC {t b:Int}(h:b≠0):dvr t b≠0:=by
 have:=uK (a:=t) h;unfold dvr;split<;>lia
theorem dQ {a g k:Int}(hg:g≠0)(h:a=g*k):Int.fdiv a g=k:=by
 rw[h,Int.mul_fdiv_cancel_left _ hg]
theorem Rf (t b:Int):dvr t b ∣ t/\dvr t b ∣ b:=by
 have h1:gc t b ∣ t:=Int.gcd_dvd_left t b;have h2:gc t b ∣ b:=Int.gcd_dvd_right t b;unfold dvr;split
 ·exact⟨Int.neg_dvd.mpr h1,Int.neg_dvd.mpr h2⟩
 ·exact⟨h1,h2⟩
theorem qU {t b:Int}(h:b≠0):t=dvr t b*(red t b).1/\b=dvr t b*(red t b).2:=by
 obtain⟨⟨x,hx⟩,⟨y,hy⟩⟩:=Rf t b;have hg:=vC (t:=t) h;have e1:(red t b).1=x:=dQ hg hx;have e2:(red t b).2=y:=dQ hg hy;rw[e1,e2];exact⟨hx,hy⟩
theorem jM {t b:Int}(h:b≠0):Low (red t b):=by
 obtain⟨h1,h2⟩:=qU (t:=t) h;have hg:=vC (t:=t) h;have hp:=uK (a:=t) h;have nd:(dvr t b).natAbs=(gc t b).natAbs:=by unfold dvr;split<;>simp
 have e:Int.gcd t b=(dvr t b).natAbs*Int.gcd (red t b).1 (red t b).2:=by
  rw[<- Int.gcd_mul_left,<- h1,<- h2]
 have e2:(gc t b).natAbs=Int.gcd t b:=by unfold gc;simp
 rw[nd,e2] at e;have hp':0 < Int.gcd t b:=by unfold gc at hp;lia
 have one:Int.gcd (red t b).1 (red t b).2=1:=by
  have:Int.gcd t b*Int.gcd (red t b).1 (red t b).2=Int.gcd t b*1:=by lia
  exact Nat.eq_of_mul_eq_mul_left hp' this
 refine⟨?_,by unfold gc;rw[one];rfl⟩;have sgn:0 < (red t b).2:=by
  by_cases hb:b < 0
  ·have hd:dvr t b < 0:=by unfold dvr;rw[if_pos hb];lia
   have hq:¬(red t b).2<=0:=fun q=>by
    have:=Int.mul_nonneg_of_nonpos_of_nonpos (Int.le_of_lt hd) q;lia
   lia
  ·have hd:0 < dvr t b:=by unfold dvr;rw[if_neg hb];lia
   have hq:¬(red t b).2<=0:=fun q=>by
    have:=Int.mul_nonpos_of_nonneg_of_nonpos (Int.le_of_lt hd) q;lia
   lia
 lia
theorem Jq {t b:Int}(h:b≠0):(red t b).1*b=t*(red t b).2:=by
 obtain⟨h1,h2⟩:=qU (t:=t) h;generalize (red t b).1=x at *
 generalize (red t b).2=y at *
 generalize dvr t b=g at *
 subst h1 h2;grind
theorem iM {a g k:Int}(hg:g≠0)(h:a=g*k):k.natAbs<=a.natAbs:=by
 rw[h,Int.natAbs_mul];exact Nat.le_mul_of_pos_left _ (by lia)
theorem tO {t b:Int}(h:b≠0):(red t b).1.natAbs<=t.natAbs/\(red t b).2.natAbs<=b.natAbs:=by
 obtain⟨h1,h2⟩:=qU (t:=t) h;exact⟨iM (vC h) h1,iM (vC h) h2⟩
theorem Lh {t b:Int}(h:b≠0):(dvr t b).natAbs<=b.natAbs:=by
 have e:(dvr t b).natAbs=Int.gcd t b:=by unfold dvr gc;split<;>simp
 rw[e];exact Int.gcd_le_natAbs_right t h
theorem Pb {p q:Q2}(hp:Low p)(hq:Low q)(h:p.1*q.2=q.1*p.2):p=q:=by
 have gp:Int.gcd p.2 p.1=1:=by have:=hp.one;rw[Int.gcd_comm];unfold gc at this;lia
 have gq:Int.gcd q.2 q.1=1:=by have:=hq.one;rw[Int.gcd_comm];unfold gc at this;lia
 have d1:p.2 ∣ q.2:=by
  have:p.2 ∣ p.1*q.2:=⟨q.1,by rw[h,Int.mul_comm]⟩
  have:=Int.dvd_gcd_mul_iff_dvd_mul.mpr this;rw[gp] at this;simpa using this
 have d2:q.2 ∣ p.2:=by
  have:q.2 ∣ q.1*p.2:=⟨p.1,by rw[<- h,Int.mul_comm]⟩
  have:=Int.dvd_gcd_mul_iff_dvd_mul.mpr this;rw[gq] at this;simpa using this
 have l1:=Int.le_of_dvd (by have:=hq.pos;lia) d1;have l2:=Int.le_of_dvd (by have:=hp.pos;lia) d2;have e2:p.2=q.2:=by lia
 have e1:p.1=q.1:=by
  rw[e2] at h;exact Int.eq_of_mul_eq_mul_right (by have:=hq.pos;lia) h
 exact Prod.ext e1 e2
def kI (p q:Q2):Q2:=red (p.1*q.2+q.1*p.2) (p.2*q.2)
def eQ (p q:Q2):Q2:=red (p.1*q.2 - q.1*p.2) (p.2*q.2)
def rD (p q:Q2):Q2:=red (p.1*q.1) (p.2*q.2)
def rG (p q:Q2):Q2:=red (p.1*q.2) (p.2*q.1)
def tot (l:List Q2):Q2:=l.foldl kI (0,1)
theorem hG {a b:Int}(ha:1<=a)(hb:1<=b):a*b≠0:=by
 have:=Int.mul_pos (show 0 < a by lia) (show 0 < b by lia);lia
theorem jE {p q:Q2}(hp:1<=p.2)(hq:1<=q.2):Low (kI p q):=jM (hG hp hq)
def B (n:Nat)(i:Int):Prop:=i.natAbs < 2 ^ n
structure Bd (n:Nat) (p:Q2):Prop where
 a:B n p.1
 b:B n p.2
theorem B.mono {n m:Nat}{i:Int}(h:B n i)(l:n<=m):B m i:=Nat.lt_of_lt_of_le h (Nat.pow_le_pow_right (by decide) l)
theorem B.mul {n m:Nat}{i j:Int}(h:B n i)(q:B m j):B (n+m) (i*j):=by
 unfold B at *
 rw[Int.natAbs_mul,Nat.pow_add];exact Nat.mul_lt_mul'' h q
theorem B.add {n:Nat}{i j:Int}(h:B n i)(q:B n j):B (n+1) (i+j):=by
 unfold B at *
 have:=Int.natAbs_add_le i j;rw[Nat.pow_succ];lia
theorem B.neg {n:Nat}{i:Int}(h:B n i):B n (-i):=by unfold B at *;lia
theorem B.sub {n:Nat}{i j:Int}(h:B n i)(q:B n j):B (n+1) (i - j):=by
 rw[Int.sub_eq_add_neg];exact h.add q.neg
theorem B.le {n:Nat}{i j:Int}(h:B n i)(l:j.natAbs<=i.natAbs):B n j:=Nat.lt_of_le_of_lt l h
theorem Bd.mono {n m:Nat}{p:Q2}(h:Bd n p)(l:n<=m):Bd m p:=⟨h.a.mono l,h.b.mono l⟩
theorem sQ {n m:Nat}{p q:Q2}(h:Bd n p)(g:Bd m q)(hp:1<=p.2)(hq:1<=q.2):Bd (n+m+1) (kI p q):=by
 have k:=tO (t:=p.1*q.2+q.1*p.2) (hG hp hq);have a2:B (n+m) (q.1*p.2):=by rw[Nat.add_comm];exact g.a.mul h.b
 exact⟨((h.a.mul g.b).add a2).le k.1,((h.b.mul g.b).mono (Nat.le_succ _)).le k.2⟩
def Pos (l:List Q2):Prop:=∀f∈l,1<=f.2
theorem Kh {l:List Q2}:∀{p:Q2},Low p->Pos l->Low (l.foldl kI p):=by
 induction l with
 |nil=>intro p h _;exact h
 |cons x r ih=>intro p h k;exact ih (jE h.pos (k x (by simp))) fun f hf=>k f (by simp[hf])
theorem Ut:Low (0,1):=⟨Int.le_refl 1,rfl⟩
theorem Hg {l:List Q2}(h:Pos l):Low (tot l):=Kh Ut h
theorem Oq {k:Nat}{l:List Q2}:∀{n:Nat} {p:Q2},Bd n p->Low p->Pos l->(∀f∈l,Bd k f)->Bd (n+(k+1)*l.length) (l.foldl kI p):=by
 induction l with
 |nil=>intro n p h _ _ _;simpa using h
 |cons x r ih=>
  intro n p h hl hp hb;have q:=sQ h (hb x (by simp)) hl.pos (hp x (by simp));have:=ih q (jE hl.pos (hp x (by simp))) (fun f hf=>hp f (by simp[hf])) fun f hf=>hb f (by simp[hf]);refine this.mono ?_;simp only[length_cons,Nat.mul_add,Nat.mul_one];lia
theorem Xe {k:Nat}{l:List Q2}(hp:Pos l)(hb:∀f∈l,Bd k f):Bd (1+(k+1)*l.length) (tot l):=
 Oq ⟨show (0:Nat) < 2 ^ 1 by decide,show (1:Nat) < 2 ^ 1 by decide⟩ Ut hp hb
end Mq
open Mq (Bd Hg Lh Low dQ dvr eQ gc hG jE jM kI rD rG red sQ tot)
namespace L2
open PySem PySem.Spec PyProof.Rows
structure aU (K:Frag) (x qual:Str) (st:Stmt) (dV:Value) (f:Addr) (fd:FuncData):Prop where
 ex:∃(oc:Value) (od:Option Addr) (kV doc pm:Value) (an:Option Addr) (cdv ct:Value) (osl:Array (Option Value)),
  fd=W.fnOf x qual (eU st) (dU st) (aH st) dV kV doc pm an cdv ct/\K.lookup f=some ⟨oc,od,.func fd,osl⟩/\W.codeIn K cdv qual=true
 kp:W.keepIn K (.ref f)=true
section
variable {P:Program} {w:World} {K:Frag} {mg:Str->Option Value} {base:Heap} {CX:CXT}
theorem aU.okX {x qual:Str}{st:Stmt}{dV:Value}{f:Addr}{fd:FuncData}{N ps:List Str}{k:Nat}{sp:Sp}(F:aU K x qual st dV f fd)(S:aQ N ps (aH st))(len:∀vs H Q E,sp vs H Q E->vs.length=ps.length)(hbody:∀(cdv:Value) (A:Around) (outer:List Env) (s:Shared) (H:Hp) (vs:List V) (Q:VK) (E:XK),fQ k (A.deeper (envOfC qual (aH st) s.heap.objs.size f cdv))->sp vs H Q E->
   ∃t,PSs (vJ CX P w K mg base N qual (aH st) f cdv A outer s H E) (dU st) t/\t { nx:=fun _ H'=>Q .non H',rt:=Q } (start N vs) H):aJ P w K mg base CX (k+1) f fd ps sp:=by
 obtain⟨oc,od,kV,doc,pm,an,cdv,ct,osl,rfl,lk,hcd⟩:=F.ex;exact qb8 lk hcd S len fun A outer s H vs Q E hr hsp=>hbody cdv A outer s H vs Q E hr hsp
theorem aU.ok {x qual:Str}{st:Stmt}{dV:Value}{f:Addr}{fd:FuncData}{N ps:List Str}{k:Nat}{sp:Sp}(F:aU K x qual st dV f fd)(S:aQ N ps (aH st))(len:∀vs H Q E,sp vs H Q E->vs.length=ps.length)(hbody:∀(cdv:Value) (A:Around) (outer:List Env) (s:Shared) (H:Hp) (vs:List V) (Q:VK) (E:XK),fQ k (A.deeper (envOfC qual (aH st) s.heap.objs.size f cdv))->sp vs H Q E->
   ∃t,PSs (vJ CX P w K mg base N qual (aH st) f cdv A outer s H E).nox (dU st) t/\t { nx:=fun _ H'=>Q .non H',rt:=Q } (start N vs) H):aJ P w K mg base CX (k+1) f fd ps sp:=
 F.okX S len fun cdv A outer s H vs Q E hr hsp=>by
  obtain⟨t,h,q⟩:=hbody cdv A outer s H vs Q E hr hsp;exact⟨t,h.nox,q⟩
theorem aU.binds {x qual:Str}{st:Stmt}{dV:Value}{f:Addr}{fd:FuncData}{ps:List Str}(F:aU K x qual st dV f fd)(h:∀(kV doc pm:Value) (an:Option Addr) (cdv ct:Value) (us:List Value),us.length=ps.length->bindArgs (W.fnOf x qual (eU st) (dU st) (aH st) dV kV doc pm an cdv ct) ⟨us,[]⟩=pure (ps.zip us)):aP K fd ps []:=by
 obtain⟨oc,od,kV,doc,pm,an,cdv,ct,osl,rfl,lk,hcd⟩:=F.ex;exact .all (h kV doc pm an cdv ct)
theorem zH {x qual:Str}{st:Stmt}{dV:Value}{f:Addr}{oc:Value}{od an:Option Addr}{osl:Array (Option Value)}{kV doc pm cdv ct:Value}(l:K.lookup f=some ⟨oc,od,.func (W.fnOf x qual (eU st) (dU st) (aH st) dV kV doc pm an cdv ct),osl⟩)(c:W.codeIn K cdv qual=true)(k:kI9 K f):aU K x qual st dV f (W.fnOf x qual (eU st) (dU st) (aH st) dV kV doc pm an cdv ct):=⟨⟨oc,od,kV,doc,pm,an,cdv,ct,osl,rfl,l,c⟩,k⟩
end
abbrev fT (p:Mq.Q2):HO:=.tup [.int p.1,.int p.2]
def Fq (K:Frag)(H:Hp)(a:Addr)(p:Mq.Q2):Prop:=SqT K H a [.int p.1,.int p.2]
theorem aK.seqT {K:Frag}{H H':Hp}{a:Addr}{xs:List V}(e:aK H H')(h:SqT K H a xs):SqT K H' a xs:=by
 rcases h with (h | ⟨o,h⟩) | h
 ·exact .inl (.inl (e _ _ h))
 ·exact .inl (.inr ⟨o,e _ _ h⟩)
 ·exact .inr h
theorem aD {H:Hp}{p:Addr}(h:H p=none)(o:HO):aK H (upd H p o):=fun b u q=>by rw[aM (bB q h)];exact q
theorem aK.fq {K:Frag}{H H':Hp}{a:Addr}{p:Mq.Q2}(e:aK H H')(h:Fq K H a p):Fq K H' a p:=e.seqT h
theorem Fq.of {K:Frag}{H:Hp}{a:Addr}{p:Mq.Q2}(h:H a=some (fT p)):Fq K H a p:=SqT.of h
theorem eX {K:Frag}{σ:St}{H:Hp}{i:Nat}{a:Addr}{p:Mq.Q2}{Q:VK}(hv:σ[i]?=some (some (.ref a)))(h:Fq K H a p)(q:Q (.int p.1) H):tOp (To K) (Up i) (tC (.int 0)) σ H Q:=
 ⟨_,hv,a,_,_,_,rfl,rfl,h,rfl,q⟩
theorem cW {K:Frag}{σ:St}{H:Hp}{i:Nat}{a:Addr}{p:Mq.Q2}{Q:VK}(hv:σ[i]?=some (some (.ref a)))(h:Fq K H a p)(q:Q (.int p.2) H):tOp (To K) (Up i) (tC (.int 1)) σ H Q:=
 ⟨_,hv,a,_,_,_,rfl,rfl,h,rfl,q⟩
theorem dC {H:Hp}{n m:Nat}{i j:Int}{Q:VK}(h1:Mq.B n i)(h2:Mq.B m j)(h3:n<=1048576)(h4:m<=1048576)(q:Q (.int (i*j)) H):rI Uq (fun i j=>.int (i*j)) (.int i) (.int j) H Q:=
 ⟨_,_,rfl,rfl,⟨n,m,h1,h2,h3,h4⟩,q⟩
theorem iN {H:Hp}{n:Nat}{i j:Int}{Q:VK}(h1:j≠0)(h2:Mq.B n j)(h3:n<=9000)(q:Q (.int (i.fdiv j)) H):rI Fv (fun i j=>.int (i.fdiv j)) (.int i) (.int j) H Q:=
 ⟨_,_,rfl,rfl,⟨h1,n,h2,h3⟩,q⟩
structure Bl (mg:Str->Option Value):Prop where
 isi:mg "isinstance"=none
 int:mg "int"=none
 bool:mg "bool"=none
 abs:mg "abs"=none
def iD (t:Value):Prop:=t=.type "bool"\/t=.type "str"\/t=.type "NoneType"\/t=.type "tuple"\/t=.type "list"
def oS (K:Frag):Sp:=fun vs H Q _=>∃x,vs=[x]/\((∃i,x=.int i/\Q (.bl true) H)\/(∃t,jB K H x t/\iD t/\Q (.bl false) H))
def Ry:Sp:=fun vs H Q _=>∃a b:Int,vs=[.int a,.int b]/\Q (.int (gc a b)) H
def Pe (H:Hp)(Q:VK)(p:Mq.Q2):Prop:=∀a H',aK H H'->H' a=some (fT p)->Q (.ref a) H'
def nU:Sp:=fun vs H Q _=>∃(t b:Int) (n:Nat),vs=[.int t,.int b]/\b≠0/\Mq.B n b/\n<=9000/\Pe H Q (red t b)
def lD (K:Frag)(f:Mq.Q2->Mq.Q2->Mq.Q2):Sp:=fun vs H Q _=>∃(a b:Addr) (p q:Mq.Q2) (n m:Nat),vs=[.ref a,.ref b]/\Fq K H a p/\Fq K H b q/\1<=p.2/\1<=q.2/\Bd n p/\Bd m q/\n+m+1<=9000/\Pe H Q (f p q)
inductive Fqs (K:Frag) (H:Hp):List V->List Mq.Q2->Prop where
 |nil:Fqs K H [] []
 |cons {a:Addr} {p:Mq.Q2} {xs:List V} {ps:List Mq.Q2} (h:Fq K H a p) (q:Fqs K H xs ps):Fqs K H (.ref a :: xs) (p :: ps)
theorem Fqs.same {K:Frag}{H H':Hp}(e:aK H H'):∀{xs:List V} {ps:List Mq.Q2},Fqs K H xs ps->Fqs K H' xs ps
 |_,_,.nil=>.nil
 |_,_,.cons h q=>.cons (e.fq h) (Fqs.same e q)
theorem Fqs.length {K:Frag}{H:Hp}:∀{xs:List V} {ps:List Mq.Q2},Fqs K H xs ps->xs.length=ps.length
 |_,_,.nil=>rfl
 |_,_,.cons _ q=>by simp[Fqs.length q]
theorem Fqs.get {K:Frag}{H:Hp}:∀{xs:List V} {ps:List Mq.Q2} {i:Nat} {x:V},Fqs K H xs ps->xs[i]?=some x->∃a p,x=.ref a/\ps[i]?=some p/\Fq K H a p
 |_,_,_,_,.nil,h=>by simp at h
 |_,_,0,_,.cons h _,e=>by simp at e;exact⟨_,_,e.symm,rfl,h⟩
 |_,_,i+1,_,.cons _ q,e=>by simpa using Fqs.get q (by simpa using e)
theorem Fqs.app {K:Frag}{H:Hp}:∀{xs ys:List V} {ps qs:List Mq.Q2},Fqs K H xs ps->Fqs K H ys qs->Fqs K H (xs++ys) (ps++qs)
 |_,_,_,_,.nil,r=>r
 |_,_,_,_,.cons h q,r=>.cons h (Fqs.app q r)
theorem Fqs.take {K:Frag}{H:Hp}:∀{xs:List V} {ps:List Mq.Q2} (n:Nat),Fqs K H xs ps->Fqs K H (xs.take n) (ps.take n)
 |_,_,_,.nil=>by simp;exact .nil
 |_,_,0,.cons _ _=>.nil
 |_,_,n+1,.cons h q=>.cons h (Fqs.take n q)
theorem Fq.upd {K:Frag}{H:Hp}{a l:Addr}{p:Mq.Q2}{xs:List V}{o:HO}(h:Fq K H a p)(hl:H l=some (.lst xs)):Fq K (L2.upd H l o) a p:=by
 rcases h with (h | ⟨u,h⟩) | h
 ·exact .inl (.inl (by rw[aM (kN h hl (fun z=>by cases z))];exact h))
 ·exact .inl (.inr ⟨u,by rw[aM (kN h hl (fun z=>by cases z))];exact h⟩)
 ·exact .inr h
theorem Fqs.upd {K:Frag}{H:Hp}{l:Addr}{ys:List V}{o:HO}(hl:H l=some (.lst ys)):∀{xs:List V} {ps:List Mq.Q2},Fqs K H xs ps->Fqs K (L2.upd H l o) xs ps
 |_,_,.nil=>.nil
 |_,_,.cons h q=>.cons (h.upd hl) (Fqs.upd hl q)
theorem aK.change {H H':Hp}{l:Addr}{o:HO}(s:aK H H')(h:H l=none):aK H (L2.upd H' l o):=fun b u q=>by
 rw[aM (bB q h)];exact s b u q
def qd (p:Mq.Q2):PyData:=.tuple [.int p.1,.int p.2]
theorem Fq.dat {K:Frag}{H:Hp}{a:Addr}{p:Mq.Q2}(h:Fq K H a p):mE K H (.ref a) (qd p):=.tup h (.cons (.int _) (.cons (.int _) .nil))
theorem Fqs.dat {K:Frag}{H:Hp}:∀{xs:List V} {ps:List Mq.Q2},Fqs K H xs ps->rB K H xs (ps.map qd)
 |_,_,.nil=>.nil
 |_,_,.cons h q=>.cons h.dat (Fqs.dat q)
theorem Xk (p:Mq.Q2):(qd p).canLay0=true:=rfl
theorem rS:∀ps:List Mq.Q2,PyData.canLayAll0 (ps.map qd)=true
 | []=>rfl
 |p :: r=>by
  show ((qd p).canLay0 && PyData.canLayAll0 (r.map qd))=true;rw[Xk,rS r];rfl
theorem Lf (p:Mq.Q2):(qd p).depth<=1:=by simp[qd,PyData.depth,PyData.depthAll]
theorem vO:∀ps:List Mq.Q2,PyData.depthAll (ps.map qd)<=1
 | []=>by simp[PyData.depthAll]
 |p :: r=>by
  have a:=Lf p;have b:=vO r;simp only[map_cons,PyData.depthAll];lia
theorem El (ps:List Mq.Q2):(PyData.list (ps.map qd)).depth<=2:=by
 have:=vO ps;simp only[PyData.depth];lia
theorem Yg {K:Frag}{H:Hp}{a b:Addr}{xs ys:List V}{ps:List Mq.Q2}{neg:Bool}{Q:VK}(h1:SqL K H a xs)(h2:SqL K H b ys)(f1:Fqs K H xs ps)(f2:Fqs K H ys ps)(z:Q (.bl (!neg)) H):Jc K neg (.ref a) (.ref b) H Q:=by
 refine⟨_,_,.lst h1 f1.dat,.lst h2 f2.dat,?_,?_,?_,?_⟩
 ·exact rS ps
 ·exact rS ps
 ·have:=El ps;lia
 ·have e:PyData.eqv (.list (ps.map qd)) (.list (ps.map qd))=true:=PySem.SeqAt.eqv_refl _ (rS ps);rw[e]
  cases neg<;>exact z
abbrev Hq (nl:Nat)(fr:List Nat)(g:TG)(tt:TT)(te:TE)(σ:St)(D:Addr)(Pv:Nat->List V->Hp->Prop)(i:Nat)(ys:List V)(x:V)(H:Hp):Prop:=
 g x (σC nl fr σ) H fun σ2 H4=>σ2.length=(σC nl fr σ).length/\(∀(i:Nat) v,(σC nl fr σ)[i]?=some (some v)->σ2[i]?=some (some v))/\
  tt σ2 H4 fun b H5=>if b=true then te σ2 H5 fun y H6=>H6 D=some (.lst ys)/\ys.length < sizeLine/\Pv (i+1) (ys++[y]) (upd H6 D (.lst (ys++[y]))) else Pv (i+1) ys H5
section
variable {nl:Nat} {fr:List Nat} {g:TG} {tt:TT} {te:TE} {σ:St} {D:Addr} {H1:Hp} {Q:VK}
theorem iE {lo:Int}{n:Nat}(Pv:Nat->List V->Hp->Prop)(h0:Pv 0 [] (upd H1 D (.lst [])))(hl:∀i ys H,Pv i ys H->H D=some (.lst ys))(hs:∀i ys H,i < n->Pv i ys H->∀(C:Nat->List V->Hp->Prop),(∀ys H,Pv (i+1) ys H->C (i+1) ys H)->Hq nl fr g tt te σ D C i ys (.int (lo+i)) H)(hd:∀ys H,Pv n ys H->Q (.ref D) H) :
  Ax (Itr lo n) nl fr g tt te σ D H1 Q:=by
 refine⟨fun i m ys H=>m=n - i/\i<=n/\Pv i ys H,⟨n,by simp,Nat.zero_le _,h0⟩,?_⟩;rintro i m ys H ⟨rfl,hi,p⟩;refine⟨hl i ys H p,?_⟩
 by_cases hlt:i < n
 ·refine .inr ⟨hlt,fun x H' y=>?_⟩;obtain⟨e,y⟩:=y;subst e y;exact hs i ys _ hlt p (fun j zs Hz=>∃m',m' < n - i/\m'=n - j/\j<=n/\Pv j zs Hz) fun zs Hz z=>⟨n - (i+1),by lia,rfl,hlt,z⟩
 ·have e:i=n:=by lia
  subst e;exact .inl ⟨Nat.le_refl _,hd ys H p⟩
theorem bX {K:Frag}{a:Addr}{xs:List V}(Pv:Nat->List V->Hp->Prop)(h0:Pv 0 [] (upd H1 D (.lst [])))(hl:∀i ys H,Pv i ys H->H D=some (.lst ys))(hx:∀i ys H,i<=xs.length->Pv i ys H->SqL K H a xs)(hs:∀i ys x H,xs[i]?=some x->Pv i ys H->∀(C:Nat->List V->Hp->Prop),(∀ys H,Pv (i+1) ys H->C (i+1) ys H)->Hq nl fr g tt te σ D C i ys x H)(hd:∀ys H,Pv xs.length ys H->Q (.ref D) H) :
  Ax (Itl K a) nl fr g tt te σ D H1 Q:=by
 refine⟨fun i m ys H=>m=xs.length - i/\i<=xs.length/\Pv i ys H,⟨xs.length,by simp,Nat.zero_le _,h0⟩,?_⟩;rintro i m ys H ⟨rfl,hi,p⟩;refine⟨hl i ys H p,?_⟩;have q:=hx i ys H hi p
 by_cases hlt:i < xs.length
 ·refine .inr ⟨⟨xs,xs[i],q,by simp[hlt]⟩,fun x H' y=>?_⟩;obtain⟨e,y⟩:=y;subst e;exact hs i ys x _ (y xs q) p (fun j zs Hz=>∃m',m' < xs.length - i/\m'=xs.length - j/\j<=xs.length/\Pv j zs Hz) fun zs Hz z=>⟨xs.length - (i+1),by lia,rfl,hlt,z⟩
 ·have e:i=xs.length:=by lia
  subst e;exact .inl ⟨⟨xs,q,Nat.le_refl _⟩,hd ys H p⟩
end
theorem bU {fr:List Nat}{σ:St}{x:V}:((σC 1 fr σ).set 0 (some x)).length=(σC 1 fr σ).length/\∀(i:Nat) v,(σC 1 fr σ)[i]?=some (some v)->((σC 1 fr σ).set 0 (some x))[i]?=some (some v):=by
 refine⟨by simp,fun i v h=>?_⟩
 match i with
 |0=>unfold σC at h;simp at h
 |k+1=>rw[getElem?_set_ne (by lia)];exact h
theorem cC {names:List (Str × NameKind)}{cl:List (Str × Addr)}(h:names.all (fun y=>!(y.2 == .cell || y.2 == .free) || (cl.lookup y.1).isSome)=true)(x:Str)(hx:names.lookup x=some .cell\/names.lookup x=some .free):∃c,cl.lookup x=some c:=by
 have key:∀k,(k=NameKind.cell\/k=NameKind.free)->names.lookup x=some k->∃c,cl.lookup x=some c:=fun k hk e=>by
  have m:=all_eq_true.mp h _ (PySem.mem_of_lookup e);have:(k == NameKind.cell || k == NameKind.free)=true:=by rcases hk with rfl | rfl<;>rfl
  simp only[this,Bool.not_true,Bool.false_or] at m;exact Option.isSome_iff_exists.mp m
 rcases hx with e | e
 ·exact key _ (.inl rfl) e
 ·exact key _ (.inr rfl) e
section
variable {X:Cx} {pins:List (Addr × Obj)} {σ:St} {H:Hp} {s:Shared} {h':Heap}
theorem Inv.turnedL {t':Nat}{fp:List Addr}(I:Inv X pins σ H s)(k:∀b o,b∉fp->s.heap.get? b=some o->h'.get? b=some o)(hf:∀b∈fp,iO X pins H b):Inv X pins σ H { s with heap:=h',toks:=t' }:=by
 have nit:∀b u,H b=some u->b∉fp:=fun b u e z=>by rw[(hf b z).1] at e;cases e
 have nL:X.env.locals∉fp:=fun z=>(hf _ z).2.1 rfl;refine I.step (g':=s.gens) (d':=s.drawn) (ch:=fp) (fun b hb=>?_) (fun b o _ _ hc e _=>k b o hc e) (fun b o _ _ hc e _=>⟨o.slots,k b o hc e⟩) (fun _ _ _ _ n=>n)
  (fun b o hc e=>⟨o,k b o hc e⟩) (fun _ _ e=>e) (fun _ _ _ e=>e) (fun b ps e=>⟨#[],by rw[e];simp⟩) (fun m hm=>?_) (fun b u e=>?_) I.bare
 ·obtain⟨f0,f1,f2,f3,f4,f5⟩:=hf b hb;exact⟨f3,f1,f4,f5⟩
 ·obtain⟨o,es,ep,ho,r⟩:=hm;exact⟨o,es,ep,k _ o nL ho,r⟩
 ·refine(I.hok b u e).stay (fun c v hc q=>k c v ?_ q) (fun _ q=>q) fun _ _ q=>q;rcases hc with z | z
  ·rw[z];exact nit b u e
  ·exact nit c _ z
end
def Itz (K : Frag)(a b : Addr) : It :=
  ⟨fun i H => ∃ xs ys x y, SqL K H a xs /\ SqL K H b ys /\ xs[i]? = some x /\ ys[i]? = some y,
   fun i H v H' => ∃ T x y, v = .ref T /\ H T = none /\ H' = upd H T (.tup [x, y]) /\ ∀ xs ys, SqL K H a xs -> SqL K H b ys -> xs[i]? = some x /\ ys[i]? = some y,
   fun i H => ∃ xs ys, SqL K H a xs /\ SqL K H b ys /\ (xs.length <= i \/ ys.length <= i)⟩
def Zw (z TI TO i1 i2 l1 l2:Addr)(i:Nat)(h:Heap):Prop:=
 ZipApart z TI TO i1 i2 l1 l2/\IsZip h z TI TO .none/\IsPair h TI (.ref i1) (.ref i2)/\(∃a b,IsPair h TO a b)/\h.IsListIter i1 l1 i/\h.IsListIter i2 l2 i
theorem Pa {P:Program}{w:World}{K:Frag}{elts:List Expr}{kk:Nat}{tpos:Pos}(z TI TO i1 i2 l1 l2:Addr) :
  Lz P w K (.Tuple elts kk tpos) (Itz K l1 l2) [z,TI,TO,i1,i2] z (Zw z TI TO i1 i2 l1 l2) where
 mem:=by simp
 obj:=fun i h st b hb=>by
  obtain⟨ap,hz,hi,⟨a,c,ho⟩,⟨o1,e1,c1,d1⟩,⟨o2,e2,c2,d2⟩⟩:=st;simp only[mem_cons,not_mem_nil,or_false] at hb;rcases hb with rfl | rfl | rfl | rfl | rfl
  ·exact⟨_,hz,fun v q=>by cases q⟩
  ·exact⟨_,hi,fun v q=>by cases q⟩
  ·exact⟨_,ho,fun v q=>by cases q⟩
  ·exact⟨o1,e1,fun v q=>by rw[d1] at q;cases q⟩
  ·exact⟨o2,e2,fun v q=>by rw[d2] at q;cases q⟩
 keep:=fun i h h' st k=>by
  obtain⟨ap,hz,hi,⟨a,c,ho⟩,⟨o1,e1,c1,d1⟩,⟨o2,e2,c2,d2⟩⟩:=st;exact⟨ap,k _ (by simp) _ hz,k _ (by simp) _ hi,⟨a,c,k _ (by simp) _ ho⟩,⟨o1,k _ (by simp) _ e1,c1,d1⟩,⟨o2,k _ (by simp) _ e2,c2,d2⟩⟩
 item:=by
  intro X hP hw hK hc i pins s σ H E I hf st hg;subst hP hw hK;obtain⟨ap,hz,hi,⟨a,c,ho⟩,t1,t2⟩:=st;obtain⟨xs,ys,x,y,hx,hy,ex,ey⟩:=hg;obtain⟨its1,rv1,p1,z1⟩:=I.list hx;obtain⟨its2,rv2,p2,z2⟩:=I.list hy;obtain⟨u1,hu1,ru1⟩:=rv1.get ex;obtain⟨u2,hu2,ru2⟩:=rv2.get ey;refine wpAny_pyNext_zip_item ap hz hi ho t1 t2 p1.isList p2.isList (x:=u1) (y:=u2) (by simpa using hu1) (by simpa using hu2) fun h' g1 g2 g3 g4 g5 g6 kk'=>?_;have hn:H s.heap.objs.size=none:=I.hok.fresh (Nat.le_refl _);have lt:∀b∈[z,TI,TO,i1,i2],b < s.heap.objs.size:=fun b hb=>by
   simp only[mem_cons,not_mem_nil,or_false] at hb;obtain⟨o1,e1,_⟩:=t1;obtain⟨o2,e2,_⟩:=t2;rcases hb with rfl | rfl | rfl | rfl | rfl
   ·exact Heap.lt_size hz
   ·exact Heap.lt_size hi
   ·exact Heap.lt_size ho
   ·exact Heap.lt_size e1
   ·exact Heap.lt_size e2
  have I1:Inv X pins σ (upd H s.heap.objs.size (.tup [x,y])) { s with heap:=s.heap.push { cls:=.type "tuple",data:=.seq #[u1,u2] } }:=
   I.laid (t':=s.toks) (fun b o e=>Heap.get?_push_of_some _ e) (Nat.le_refl _) (show cD X.prog X.w _ _ _ (.tup [x,y]) from ⟨zl9 2,[u1,u2],.cons ru1 (.cons ru2 .nil),IsTup.new _ _⟩)
  have hf1:∀b∈[z,TI,TO,i1,i2],iO X pins (upd H s.heap.objs.size (.tup [x,y])) b:=fun b hb=>⟨by rw[aM (Nat.ne_of_lt (lt b hb))];exact(hf b hb).1,(hf b hb).2⟩
  have k1:∀b o,b∉[z,TI,TO,i1,i2]->(s.heap.push { cls:=.type "tuple",data:=.seq #[u1,u2] }).get? b=some o->h'.get? b=some o:=fun b o nb e=>by
   simp only[mem_cons,not_mem_nil,or_false,not_or] at nb
   by_cases hb:b=s.heap.objs.size
   ·subst hb;rw[Heap.get?_push_size _ rfl] at e
    cases e
    exact g5
   ·have e0:s.heap.get? b=some o:=by rw[Heap.get?_push_ne _ _ _ hb] at e;exact e
    exact kk' b o nb.1 nb.2.2.1 nb.2.2.2.1 nb.2.2.2.2 e0
  have I2:Inv X pins σ (upd H s.heap.objs.size (.tup [x,y])) { s with heap:=h',toks:=s.toks }:=I1.turnedL (t':=s.toks) k1 hf1;refine⟨_,rfl,wpAny_letOwnedTupleGo_zip (s:={ s with heap:=h' }) g1 fun h2 q1 q2=>?_⟩;have kz:∀b o,b≠z->h'.get? b=some o->h2.get? b=some o:=fun b o nb e=>(q2.2 b nb).trans e;have I3:Inv X pins σ (upd H s.heap.objs.size (.tup [x,y])) { s with heap:=h2,toks:=s.toks }:=Inv.turnedL (s:={ s with heap:=h',toks:=s.toks }) (t':=s.toks) (fp:=[z]) I2 (fun b o nb e=>kz b o (by simpa using nb) e) fun b hb=>hf1 b (by simp at hb;simp[hb]);have hTI:h'.get? TI=some { cls:=.type "tuple",data:=.seq #[.ref i1,.ref i2] }:=kk' TI _ ap.TIz ap.TITO ap.TIi1 ap.TIi2 hi;obtain⟨o3,e3,c3,d3⟩:=g3;obtain⟨o4,e4,c4,d4⟩:=g4;refine⟨.ref s.heap.objs.size,_,I3,rfl,⟨_,x,y,rfl,hn,rfl,fun xs' ys' h1 h2=>?_⟩,⟨ap,q1,kz _ _ ap.TIz hTI,⟨_,_,kz _ _ ap.TOz g2⟩,⟨o3,kz _ _ ap.i1z e3,c3,d3⟩,⟨o4,kz _ _ ap.i2z e4,c4,d4⟩⟩,fun b hb=>(hf1 b hb).1⟩;rw[I.list_inj h1 hx,I.list_inj h2 hy];exact⟨ex,ey⟩
 done:=by
  intro X hP hw hK hc i pins s σ H E I hf st hg;subst hP hw hK;obtain⟨ap,hz,hi,⟨a,c,ho⟩,t1,t2⟩:=st;obtain⟨xs,ys,hx,hy,hor⟩:=hg;obtain⟨its1,rv1,p1,z1⟩:=I.list hx;obtain⟨its2,rv2,p2,z2⟩:=I.list hy;have l1':=rv1.length;have l2':=rv2.length;refine wpAny_pyNext_zip_end (I.ok.hd hc) ap hz hi ho t1 t2 p1.isList p2.isList (by rcases hor with h | h;left;simp;lia;right;simp;lia) fun h' kk'=>⟨rfl,?_⟩
  refine I.turnedL (t':=s.toks) (fun b o nb e=>?_) hf;simp only[mem_cons,not_mem_nil,or_false,not_or] at nb;exact kk' b o nb.1 nb.2.2.1 nb.2.2.2.1 nb.2.2.2.2 e
 self:=fun A i s Q E st h=>by
  obtain⟨ap,hz,hi,⟨a,c,ho⟩,t1,t2⟩:=st;exact wpAny_pyIter_zip hz h
section
variable {X:Cx}
def qf6 (K:Frag)(ta:TA):TI:=fun σ H R=>ta σ H fun vs H1=>∃a b,vs=[.ref a,.ref b]/\(∃xs,SqL K H1 a xs)/\(∃ys,SqL K H1 b ys)/\R (Itz K a b) H1
theorem lK {e1 e2:Expr}{ta:TA}{p pos:Pos}{elts:List Expr}{kk:Nat}{tpos:Pos}(hg:Gl X "zip")(hm:X.mg "zip"=none)(hv:bootBuiltins "zip"=some (.type "zip"))(ha:PA X [e1,e2] ta)(hs:starEach [e1,e2] X.env=(false,eval e1 X.env) :: starEach [e2] X.env:=by rfl)(hpl:(backTo pos (starEach [e2] X.env)).any (·.1)=false:=by rfl):PI X (.Tuple elts kk tpos) (.Call (.Name "zip" p) [e1,e2] [] pos) (qf6 X.K ta):=by
 intro pins s σ H R I h;refine Call_ (gJ I hg hm hv (PyProof.Rows.callWith_type1 (thn (ha pos pins s σ H _ I h) fun us s1 ⟨vs,H1,I1,r1,q1⟩=>?_) hs hpl));obtain⟨a,b,rfl,⟨xs,hx⟩,⟨ys,hy⟩,q⟩:=q1;obtain⟨u,w',rfl,ra,rb⟩:=uH r1
 cases (show u=Value.ref a from ra)
 cases (show w'=Value.ref b from rb)
 obtain⟨its1,rv1,p1,z1⟩:=I1.list hx;obtain⟨its2,rv2,p2,z2⟩:=I1.list hy;have la:a < s1.heap.objs.size:=by obtain⟨o,e,_⟩:=p1.isList;exact Heap.lt_size e
 have lb:b < s1.heap.objs.size:=by obtain⟨o,e,_⟩:=p2.isList;exact Heap.lt_size e
 refine call_zip_2 p1.isList p2.isList fun h' g1 g2 g3 g4 g5 g6 kk'=>?_;refine wpAny_pyIter_zip g1 ?_;have ne:∀i j:Nat,i≠j->s1.heap.objs.size+i≠s1.heap.objs.size+j:=fun i j n e=>n (Nat.add_left_cancel e);have nl:∀(c:Addr) (i:Nat),c < s1.heap.objs.size->c≠s1.heap.objs.size+i:=fun c i l e=>absurd (Nat.lt_of_lt_of_le l (Nat.le_add_right _ i)) (by rw[<- e];exact Nat.lt_irrefl _);have n0:∀j:Nat,j≠0->s1.heap.objs.size+j≠s1.heap.objs.size:=fun j n e=>n (Nat.add_left_cancel (e.trans (Nat.add_zero _).symm));refine⟨s1.heap.objs.size+4,[s1.heap.objs.size+4,s1.heap.objs.size+2,s1.heap.objs.size+3,s1.heap.objs.size,s1.heap.objs.size+1],_,Itz X.K a b,H1,rfl,I1.kept (t':=s1.toks) kk',Pa _ _ _ _ _ a b,⟨?_,g1,g2,⟨_,_,g3⟩,g4,g5⟩,fun c hc=>?_,q⟩
 ·exact⟨ne 2 4 (by decide),ne 3 4 (by decide),(n0 4 (by decide)).symm,ne 1 4 (by decide),ne 2 3 (by decide),n0 2 (by decide),ne 2 1 (by decide),n0 3 (by decide),ne 3 1 (by decide),(n0 1 (by decide)).symm,
   nl a 4 la,nl a 3 la,Nat.ne_of_lt la,nl a 1 la,nl b 4 lb,nl b 3 lb,Nat.ne_of_lt lb,nl b 1 lb⟩
 ·have hle:s1.heap.objs.size<=c:=by
   simp only[mem_cons,not_mem_nil,or_false] at hc;rcases hc with rfl | rfl | rfl | rfl | rfl<;>first | exact Nat.le_add_right _ _ | exact Nat.le_refl _
  exact I1.fpOk hle (I1.hok.fresh hle)
theorem Hm {K:Frag}{a b:Addr}{xs ys:List V}{g:TG}{tb:TS}{D:jX}{σ:St}{H:Hp}(Pv:Nat->St->Hp->Prop)(h0:Pv 0 σ H)(hl:∀i σ H,i<=min xs.length ys.length->Pv i σ H->SqL K H a xs/\SqL K H b ys)(hs:∀i x y σ H T,xs[i]?=some x->ys[i]?=some y->Pv i σ H->H T=none->g (.ref T) σ (upd H T (.tup [x,y])) fun σ2 H2=>tb { D with nx:=Pv (i+1),ct:=Pv (i+1),bk:=D.nx } σ2 H2)(hd:∀σ H,Pv (min xs.length ys.length) σ H->D.nx σ H) :
  ∃W:Nat->Nat->St->Hp->Prop,(∃m,W 0 m σ H)/\∀i m σ H,W i m σ H->
   ((Itz K a b).stop i H/\D.nx σ H)\/((Itz K a b).go i H/\∃N:St->Hp->Prop,(∀σ' H',N σ' H'->∃m',m' < m/\W (i+1) m' σ' H')/\∀x H',(Itz K a b).yld i H x H'->g x σ H' fun σ2 H2=>tb { D with nx:=N,ct:=N,bk:=D.nx } σ2 H2):=by
 refine⟨fun i m σ H=>m=min xs.length ys.length - i/\i<=min xs.length ys.length/\Pv i σ H,⟨_,rfl,Nat.zero_le _,h0⟩,?_⟩;rintro i m σ H ⟨rfl,hi,p⟩;obtain⟨qx,qy⟩:=hl i σ H hi p
 by_cases hlt:i < min xs.length ys.length
 ·have hx:i < xs.length:=by lia
  have hy:i < ys.length:=by lia
  refine .inr ⟨⟨xs,ys,xs[i],ys[i],qx,qy,by simp[hx],by simp[hy]⟩,Pv (i+1),fun σ' H' p'=>⟨min xs.length ys.length - (i+1),by lia,rfl,hlt,p'⟩,fun v H' z=>?_⟩;obtain⟨T,x,y,rfl,hT,rfl,hh⟩:=z;obtain⟨ex,ey⟩:=hh xs ys qx qy;exact hs i x y σ H T ex ey p hT
 ·have e:i=min xs.length ys.length:=by lia
  subst e;exact .inl ⟨⟨xs,ys,qx,qy,by lia⟩,hd σ H p⟩
theorem jA {K:Frag}{a b:Addr}{xs ys:List V}{nl:Nat}{fr:List Nat}{g:TG}{tt:TT}{te:TE}{σ:St}{D:Addr}{H1:Hp}{Q:VK}(Pv:Nat->List V->Hp->Prop)(h0:Pv 0 [] (upd H1 D (.lst [])))(hl:∀i zs H,Pv i zs H->H D=some (.lst zs))(hx:∀i zs H,i<=min xs.length ys.length->Pv i zs H->SqL K H a xs/\SqL K H b ys)(hs:∀i zs x y H T,xs[i]?=some x->ys[i]?=some y->Pv i zs H->H T=none->∀(C:Nat->List V->Hp->Prop),(∀zs H,Pv (i+1) zs H->C (i+1) zs H)->Hq nl fr g tt te σ D C i zs (.ref T) (upd H T (.tup [x,y])))(hd:∀zs H,Pv (min xs.length ys.length) zs H->Q (.ref D) H) :
  Ax (Itz K a b) nl fr g tt te σ D H1 Q:=by
 refine⟨fun i m zs H=>m=min xs.length ys.length - i/\i<=min xs.length ys.length/\Pv i zs H,⟨_,rfl,Nat.zero_le _,h0⟩,?_⟩;rintro i m zs H ⟨rfl,hi,p⟩;refine⟨hl i zs H p,?_⟩;obtain⟨qx,qy⟩:=hx i zs H hi p
 by_cases hlt:i < min xs.length ys.length
 ·have hx':i < xs.length:=by lia
  have hy':i < ys.length:=by lia
  refine .inr ⟨⟨xs,ys,xs[i],ys[i],qx,qy,by simp[hx'],by simp[hy']⟩,fun v H' z=>?_⟩;obtain⟨T,x,y,rfl,hT,rfl,hh⟩:=z;obtain⟨ex,ey⟩:=hh xs ys qx qy;exact hs i zs x y H T ex ey p hT (fun j zs Hz=>∃m',m' < min xs.length ys.length - i/\m'=min xs.length ys.length - j/\j<=min xs.length ys.length/\Pv j zs Hz) fun zs Hz z=>⟨min xs.length ys.length - (i+1),by lia,rfl,hlt,z⟩
 ·have e:i=min xs.length ys.length:=by lia
  subst e;exact .inl ⟨⟨xs,ys,qx,qy,by lia⟩,hd zs H p⟩
def Sa:V->List V->Hp->VK->Prop:=fun x vs H Q=>∃(l:Addr) (xs:List V) (k:Nat) (i:Int) (y:V),x=.ref l/\vs=[.int i,y]/\i=(k:Int)/\k<=xs.length/\H l=some (.lst xs)/\xs.length < sizeLine/\Q .non (upd H l (.lst (xs.take k++y :: xs.drop k)))
theorem Jx:MtM X "list.insert" Sa:=by
 intro pins s σ H x vs v us Q I rx rv h;obtain⟨l,xs,k,i,y,rfl,rfl,hik,hk,hH,hz,q⟩:=h
 cases rx
 obtain⟨u1,u2,rfl,⟨t,rfl⟩,ru⟩:=uH rv;obtain⟨z,its,n,r,hl,e⟩:=I.lstM hH;have hs:sizeLine=16777216:=sizeLine_eq;have hfit:¬(!Builtin.List.listFitsIndex i)=true:=by
  rw[fitsIndex_both (by lia) (by lia)];exact Bool.false_ne_true
 have hM:=AutoSeq1.list_insert_list_int_val_1 l its.toArray n i t u2 hfit (by rw[size_toArray];lia);refine call_meets F.slot_list_insert ⟨_,e,rfl⟩ F.entry_list_insert (F.args_list_insert_3 (Value.ref l) (Value.int i t) u2) hM ⟨e,?_⟩;refine⟨.non,_,I.lset (its':=its.take k++u2 :: its.drop k) hH e ?_ ((r.take k).append (.cons ru (r.drop k))) ?_,rfl,q⟩
 ·have ek:(if i < 0 then (i+(its.toArray.size:Int)).toNat else min i.toNat its.toArray.size)=k:=by
   rw[if_neg (by lia),size_toArray];lia
  show (its.toArray.extract 0 (if i < 0 then (i+(its.toArray.size:Int)).toNat else min i.toNat its.toArray.size)).push u2++its.toArray.extract (if i < 0 then (i+(its.toArray.size:Int)).toNat else min i.toNat its.toArray.size)=_;rw[ek];apply Array.ext';simp[take_of_length_le]
 ·rw[List.length_append,length_cons,length_take,length_drop];lia
end
def Tb (h0:Heap)(H:Hp)(h:Heap)(a:Addr)(v:Value):Prop:=
 v=.none\/∃T oT ts,v=.ref T/\T≠a/\h0.get? T=none/\H T=none/\h.get? T=some oT/\oT.data=.fields ts/\ts[3]?=some .none
structure Fl (h0:Heap) (H:Hp) (h:Heap) (a:Addr) (C:Value) (d:Option Addr):Prop where
 new:h0.get? a=none
 free:H a=none
 at_:∃oe vs v,h.get? a=some oe/\oe.cls=C/\oe.dict=d/\oe.data=.fields vs/\vs[1]?=some v/\Tb h0 H h a v
theorem Fl.older {h0 h1:Heap}{H:Hp}{h:Heap}{a:Addr}{C:Value}{d:Option Addr}(F:Fl h0 H h a C d)(k:∀b,h0.get? b=none->h1.get? b=none):Fl h1 H h a C d:=by
 obtain⟨n,f,oe,vs,v,e1,e2,e3,e4,e5,t⟩:=F;refine⟨k _ n,f,oe,vs,v,e1,e2,e3,e4,e5,?_⟩;rcases t with t | ⟨T,oT,ts,t1,t2,t3,t4⟩
 ·exact .inl t
 ·exact .inr ⟨T,oT,ts,t1,t2,k _ t3,t4⟩
theorem uB (f:Array Value->Array Value)(o:Obj):(o.mapFields f).dict=o.dict:=by
 obtain⟨c,d,dt,sl⟩:=o
 cases dt<;>rfl
section
variable {M:Model} {A:Around} {E:Value->Shared->Prop} {s:Shared}
theorem xI {base:Heap}{env:Env}{outer:List Env}{L e:Addr}{oe:Obj}{vs:Array Value}{head:Value}{hadNext:Bool}{Q:Unit->Shared->Prop}(hfr:A.frames=some (env :: outer))(hl:s.heap.FunFrames base (env :: outer))(hf:env.frame=some L)(he:s.heap.get? e=some oe)(hd:oe.data=.fields vs)(hsz:1 < vs.size)(h:∀h' T oT ts,s.heap.objs.size<=T->(∀b o,b∉frs (env :: outer)->b≠e->s.heap.get? b=some o->h'.get? b=some o)->(∀b o,b∈frs (env :: outer)->s.heap.get? b=some o->∃sl,h'.get? b=some { o with slots:=sl })->
   h'.get? e=some (oe.mapFields (·.setIfInBounds 1 (.ref T)))->h'.get? T=some oT->oT.data=.fields ts->ts[3]?=some .none->T≠e->Q () { s with heap:=h' }) :
  wpAny M A (do let a <- frameOf env;let pl <- entryPlaceOf L hadNext;let b <- EntryCells.newEntry head a .none (rawInt L) .none pl;setField (.ref e) 1 b) (fun _ s'=>wpAny M A (setFlight (.ref e) none) Q E s') E s:=by
 have hene:e∉frs (env :: outer):=fun hm=>by
  obtain⟨_,o,ho,hnf⟩:=hl.mem hm;rw[he] at ho;injection ho with ho;subst ho;exact hnf vs hd
 refine wpAny_bind (wpAny_frameOf_fun hfr hl hf fun h₁ hs₁=>?_);refine wpAny_bind (wpAny_entryPlaceOf fun pl hpl=>?_);unfold EntryCells.newEntry newFields;refine wpAny_bind (wpAny_newObj_type ?_ (hpl.sizeOk5 _ _ _ _ _));have he₁:h₁.get? e=some oe:=(hs₁.2.1 e hene).trans he;have he₂:=Heap.get?_push_of_some (h:=h₁) { cls:=.type "traceback",dict:=none,data:=.fields ([head,.ref L,.none,rawInt L,.none]++(if pl.isEmpty then replicate 6 Value.none else pl)).toArray } he₁;refine wpAny_setField he₂ hd hsz ?_;have hTe:h₁.objs.size≠e:=Nat.ne_of_gt (Heap.lt_size he₁);have hd₃:=Obj.data_mapFields hd (·.setIfInBounds 1 (Value.ref h₁.objs.size));have he₃:=Heap.get?_update_self (Obj.mapFields (·.setIfInBounds 1 (Value.ref h₁.objs.size))) he₂ (Obj.isFreed_of_fields hd₃);have hT₃:=(Heap.get?_update_other (h₁.push { cls:=.type "traceback",dict:=none,data:=.fields ([head,.ref L,.none,rawInt L,.none]++(if pl.isEmpty then replicate 6 Value.none else pl)).toArray })
  (Obj.mapFields (·.setIfInBounds 1 (Value.ref h₁.objs.size))) (Ne.symm hTe)).trans (Heap.get?_push_size h₁ rfl)
 unfold setFlight;refine wpAny_bind (wpAny_field he₃ hd₃ (x:=.ref h₁.objs.size) (by simp[hsz]) ?_);rw[if_pos (show (Value.ref h₁.objs.size != Value.none)=true from by simp)];have keep:∀b o,b≠e->h₁.get? b=some o->
   (((h₁.push { cls:=.type "traceback",dict:=none,data:=.fields ([head,.ref L,.none,rawInt L,.none]++(if pl.isEmpty then replicate 6 Value.none else pl)).toArray }).update e (Obj.mapFields (·.setIfInBounds 1 (Value.ref h₁.objs.size)))).update h₁.objs.size
    (Obj.mapFields (·.setIfInBounds 3 ((none:Option Addr).elim Value.none fun f=>rawInt f)))).get? b=some o:=fun b o hbe hb=>by
  have hbT:h₁.objs.size≠b:=Nat.ne_of_gt (Heap.lt_size hb);rw[Heap.get?_update_other _ _ hbT,Heap.get?_update_other _ _ (Ne.symm hbe)];exact Heap.get?_push_of_some _ hb
 refine wpAny_setField hT₃ rfl (by simp only[size_toArray,List.length_append,length_cons,length_nil]<;>lia) (h _ h₁.objs.size _ _ (Nat.le_of_eq hs₁.1.symm) ?_ ?_ ?_
  (Heap.get?_update_self _ hT₃ (Obj.isFreed_of_fields (Obj.data_mapFields rfl _))) (Obj.data_mapFields rfl _) ?_ hTe)
 ·exact fun b o hb hbe q=>keep b o hbe ((hs₁.2.1 b hb).trans q)
 ·intro b o hb q;obtain⟨sl,e1⟩:=hs₁.2.2 b o q;exact⟨sl,keep b _ (fun z=>hene (z ▸ hb)) e1⟩
 ·rw[Heap.get?_update_other _ _ hTe];exact he₃
 ·first | (simp;done) | (rcases hpl with rfl | ⟨_,_,_,_,_,_,_,rfl⟩<;>simp)
theorem Qm {base h0:Heap}{H:Hp}{env:Env}{outer:List Env}{L e:Addr}{C:Value}{d:Option Addr}{Q:Unit->Shared->Prop}(hfr:A.frames=some (env :: outer))(hl:s.heap.FunFrames base (env :: outer))(hf:env.frame=some L)(F:Fl h0 H s.heap e C d)(hnew:∀b,s.heap.objs.size<=b->h0.get? b=none/\H b=none)(h:∀(h':Heap) (ch:List Addr),(∀b∈ch,h0.get? b=none/\H b=none/\∃o vs,s.heap.get? b=some o/\o.data=.fields vs)->(∀b o,b∉frs (env :: outer)->b∉ch->s.heap.get? b=some o->h'.get? b=some o)->
   (∀b o,b∈frs (env :: outer)->s.heap.get? b=some o->∃sl,h'.get? b=some { o with slots:=sl })->Fl h0 H h' e C d->Q () { s with heap:=h' }) :
  wpAny M A (noteFrame (.ref e) env) (fun _ s'=>wpAny M A (setFlight (.ref e) none) Q E s') E s:=by
 obtain⟨n,f,oe,vs,v,e1,e2,e3,e4,e5,t⟩:=F;have hsz:1 < vs.size:=(Array.getElem?_eq_some_iff.mp e5).1;have fin:∀{h':Heap} {T:Addr} {oT:Obj} {ts:Array Value},s.heap.objs.size<=T->h'.get? e=some (oe.mapFields (·.setIfInBounds 1 (.ref T)))->h'.get? T=some oT->oT.data=.fields ts->ts[3]?=some .none->T≠e->Fl h0 H h' e C d:=by
  intro h' T oT ts z he hT hd h3 hTe;refine⟨n,f,_,_,.ref T,he,?_,?_,Obj.data_mapFields e4 _,by simp[hsz],.inr ⟨T,oT,ts,rfl,hTe,(hnew T z).1,(hnew T z).2,hT,hd,h3⟩⟩
  ·rw[Obj.cls_mapFields];exact e2
  ·rw[uB];exact e3
 rcases t with rfl | ⟨T,oT,ts,rfl,t2,t3,t4,t5,t6,t7⟩
 ·unfold noteFrame;simp only[hf];refine wpAny_bind (wpAny_field e1 e4 e5 ?_);rw[if_neg (by decide)];refine xI hfr hl hf e1 e4 hsz fun h' T oT ts z k1 k2 he hT hd h3 hTe=>?_;refine h h' [e] (fun b hb=>?_) (fun b o h1 h2 q=>k1 b o h1 (fun w=>h2 (by simp[w])) q) k2 (fin z he hT hd h3 hTe);have hb:b=e:=by simpa using hb
  subst hb;exact⟨n,f,_,_,e1,e4⟩
 ·unfold noteFrame;simp only[hf];refine wpAny_bind (wpAny_field e1 e4 e5 ?_);rw[if_pos (show (Value.ref T != Value.none)=true from by simp)];refine wpAny_bind (wpAny_field t5 t6 t7 ?_);rw[if_neg (show ¬((Value.none == rawInt L)=true) from by simp[rawInt])];refine wpAny_bind (wpAny_setField t5 t6 (Array.getElem?_eq_some_iff.mp t7).1 ?_);have other:∀b,b≠T->(s.heap.update T (Obj.mapFields (·.setIfInBounds 3 Value.none))).get? b=s.heap.get? b:=fun b hb=>Heap.get?_update_other _ _ (Ne.symm hb);have noRecord:∀b o,s.heap.get? b=some o->(∀vs,o.data≠.fields vs)->b≠T:=fun b o hb hnf q=>by
   rw[q,t5] at hb;injection hb with hb;subst hb;exact hnf ts t6
  have nofr:∀b,b∈frs (env :: outer)->b≠T:=fun b hb=>by
   obtain⟨_,o,ho,hnf⟩:=hl.mem hb;exact noRecord b o ho hnf
  refine xI (s:={ s with heap:=s.heap.update T (Obj.mapFields (·.setIfInBounds 3 Value.none)) }) (base:=base) hfr (hl.of_keeps fun b o hb hnf=>⟨o,(other b (noRecord b o hb hnf)).trans hb,rfl⟩) hf ((other e (Ne.symm t2)).trans e1) e4 hsz
   fun h' T' oT' ts' z k1 k2 he hT hd h3 hTe=>?_
  have z':s.heap.objs.size<=T':=by
   have:=Heap.size_after_update s.heap T (Obj.mapFields (·.setIfInBounds 3 Value.none));exact Nat.le_trans (Nat.le_of_eq this.symm) z
  refine h h' [e,T] (fun b hb=>?_) (fun b o h1 h2 q=>?_) (fun b o hb q=>?_) (fin z' he hT hd h3 hTe)
  ·rcases mem_cons.mp hb with hb | hb
   ·subst hb;exact⟨n,f,_,_,e1,e4⟩
   ·have hb:b=T:=by simpa using hb
    subst hb;exact⟨t3,t4,_,_,t5,t6⟩
  ·exact k1 b o h1 (fun w=>h2 (by simp[w])) ((other b fun w=>h2 (by simp[w])).trans q)
  ·exact k2 b o hb ((other b (nofr b hb)).trans q)
end
section
variable {X:Cx} {pins:List (Addr × Obj)} {σ:List (Option V)} {H H':Hp} {s:Shared} {h':Heap}
theorem cD.ex {P:Program}{w:World}{h:Heap}{a:Addr}{o:HO}(x:cD P w H h a o):∃u,h.get? a=some u:=by
 cases o with
 |lst xs=>obtain⟨_,_,_,_,e⟩:=x;exact⟨_,e⟩
 |tup xs=>obtain⟨_,_,_,o,e,_⟩:=x;exact⟨_,e⟩
 |dK kvs=>obtain⟨_,_,_,_,o,_,_,e,_⟩:=x;exact⟨_,e⟩
 |dT kvs=>obtain⟨_,_,_,_,o,_,_,e,_⟩:=x;exact⟨_,e⟩
 |set S n=>obtain⟨o,_,_,_,e,_⟩:=x;exact⟨_,e⟩
 |ins C dx fs=>obtain⟨_,_,_,e,_⟩:=x;exact⟨_,e⟩
 |own y=>obtain⟨_,e⟩:=x;exact⟨_,e⟩
 |xd fs=>obtain⟨_,⟨_,_,_,e,_⟩,_⟩:=x;exact⟨_,e⟩
 |rng lo hi=>obtain⟨_,_,_,e⟩:=x;exact⟨_,e⟩
 |frz ob u=>obtain⟨e,_⟩:=x;exact⟨_,e⟩
 |tbl ps=>exact⟨_,(show h.get? a=some _ from x)⟩
 |met f y=>exact⟨_,(show h.get? a=some _ from x)⟩
 |ext φ=>obtain⟨_,⟨_,e⟩,_⟩:=x;exact⟨_,e⟩
theorem HOk.none_of {P:Program}{w:World}{h:Heap}{a:Addr}(x:HOk P w H h)(e:h.get? a=none):H a=none:=by
 cases q:H a with
 |none=>rfl
 |some o=>
  obtain⟨u,hu⟩:=(x a o q).ex;rw[e] at hu;cases hu
theorem Inv.stepN {g':Array GenState}{t':Nat}{d':Drawn}{ch:List Addr}(I:Inv X pins σ H s)(hch:∀b∈ch,X.s₀.heap.get? b=none/\b≠X.env.locals/\(∀x c,X.env.cells.lookup x=some c->c≠b)/\∀p∈X.pn++pins,p.1≠b)(keep:∀b o,b≠X.env.locals->b∉X.fs->b∉ch->s.heap.get? b=some o->H b=none->h'.get? b=some o)(slot:∀b o,b≠X.env.locals->b∈X.fs->b∉ch->s.heap.get? b=some o->H b=none->∃sl,h'.get? b=some { o with slots:=sl })(there:∀b o,b∉ch->s.heap.get? b=some o->∃o',h'.get? b=some o')(ns:∀m,s.heap.Ns X.env.locals m->h'.Ns X.env.locals m)(hok:HOk X.prog X.w H h')(hg:AllBare g') :
  Inv X pins σ H { s with heap:=h',gens:=g',drawn:=d',toks:=t' }:=by
 have neL:∀b o,X.s₀.heap.get? b=some o->b≠X.env.locals:=fun b o e=>Nat.ne_of_lt (Nat.lt_of_lt_of_le (Heap.lt_size e) I.ok.above);have neC:∀b o,X.s₀.heap.get? b=some o->b∉ch:=fun b o e hb=>by rw[(hch b hb).1] at e;cases e
 have cellK:∀x c,X.env.cells.lookup x=some c->∀v,s.heap.IsCell c v->h'.IsCell c v:=fun x c e v ⟨o,ho,hd⟩=>by
  have nch:c∉ch:=fun z=>(hch c z).2.2.1 x c e rfl
  by_cases hc:c∈X.fs
  ·obtain⟨sl,q⟩:=slot c o (I.cne x c e) hc nch ho (I.freeC x c e);exact⟨_,q,hd⟩
  ·exact⟨o,keep c o (I.cne x c e) hc nch ho (I.freeC x c e),hd⟩
 refine⟨I.ok,I.os,hg,⟨fun b o e n hb hx=>?_,fun b o e n hb hx=>?_,fun b o e n hx=>?_,fun b o e hx=>?_,fun b xs e=>I.base.tups b xs e,fun b o xs e=>I.base.frzs b o xs e,fun b ps e=>I.base.tbls b ps e⟩,?_,fun x c e=>?_,I.free,I.freeC,fun p hp=>?_,hok,I.len⟩
 ·exact keep b o (neL b o e) hb (neC b o e) (I.base.keep b o e n hb hx) (I.base.free b o e n hx)
 ·obtain⟨sl,e1⟩:=I.base.slot b o e n hb hx;obtain⟨sl',e2⟩:=slot b _ (neL b o e) hb (neC b o e) e1 (I.base.free b o e n hx);exact⟨sl',e2⟩
 ·exact I.base.free b o e n hx
 ·obtain⟨o',e1⟩:=I.base.there b o e hx;exact there b o' (neC b o e) e1
 ·obtain⟨m,hn,hl⟩:=I.loc;refine⟨m,ns m hn,fun i x v e1 e2 e3=>?_⟩;obtain⟨u,r,l⟩:=hl i x v e1 e2 e3;refine⟨u,r,?_⟩;rcases l with l | ⟨k,c,e,z⟩
  ·exact .inl l
  ·exact .inr ⟨k,c,e,cellK x c e _ z⟩
 ·obtain⟨v,z⟩:=I.cell x c e;exact⟨v,cellK x c e v z⟩
 ·obtain⟨e,n,ne,nf,d⟩:=I.pin p hp;have nch:p.1∉ch:=fun z=>(hch p.1 z).2.2.2 p hp rfl;exact⟨keep p.1 p.2 ne nf nch e n,n,ne,nf,d⟩
structure Frm (X:Cx):Prop where
 ex:X.ex=[]
 st:X.stack=X.env :: X.outer
 fr:X.env.frame=some X.env.locals
def rH (X:Cx)(pins:List (Addr × Obj))(σ:List (Option V))(H:Hp)(s:Shared)(a:Addr)(C:Value)(d:Option Addr):Prop:=
 Inv X pins σ H s/\∃h0:Heap,(∀p∈X.pn++pins,h0.get? p.1≠none)/\(∀b o,X.s₀.heap.get? b=some o->∃o',h0.get? b=some o')/\(∀b o,h0.get? b=some o->∃o',s.heap.get? b=some o')/\Fl h0 H s.heap a C d
theorem qT {h1 h2:Heap}(k:∀b o,h1.get? b=some o->∃o',h2.get? b=some o')(b:Addr)(e:h2.get? b=none):h1.get? b=none:=by
 cases q:h1.get? b with
 |none=>rfl
 |some o=>obtain⟨o',z⟩:=k b o q;rw[e] at z;cases z
theorem Gq {h:Heap}{b:Addr}(e:h.objs.size<=b):h.get? b=none:=Heap.get?_none_of_le e
theorem qV {h:Heap}{b c:Addr}{o:Obj}{vs:Array Value}(e:h.get? b=some o)(hd:o.data=.fields vs){o':Obj}(e':h.get? c=some o')(hd':∀vs,o'.data≠.fields vs):b≠c:=by
 intro z;subst z;rw[e] at e';cases e';exact hd' vs hd
theorem zK {a:Addr}{C:Value}{d:Option Addr}{h0:Heap}(I:Inv X pins σ H s)(hp:∀p∈X.pn++pins,h0.get? p.1≠none)(hs:∀b o,X.s₀.heap.get? b=some o->∃o',h0.get? b=some o'){b:Addr}(hb:h0.get? b=none/\H b=none/\∃o vs,s.heap.get? b=some o/\o.data=.fields vs) :
  X.s₀.heap.get? b=none/\b≠X.env.locals/\(∀x c,X.env.cells.lookup x=some c->c≠b)/\∀p∈X.pn++pins,p.1≠b:=by
 obtain⟨h1,h2,o,vs,h3,h4⟩:=hb;refine⟨qT hs b h1,?_,fun x c e=>?_,fun p hq z=>hp p hq (by rw[z];exact h1)⟩
 ·obtain⟨m,⟨o',es,ep,ho',hd',_⟩,_⟩:=I.loc;exact qV h3 h4 ho' fun vs z=>by rw[hd'] at z;cases z
 ·obtain⟨v,o',ho',hd'⟩:=I.cell x c e;exact Ne.symm (qV h3 h4 ho' fun vs z=>by rw[hd'] at z;cases z)
theorem Gg {A':Around}{E:Value->Shared->Prop}{a:Addr}{C:Value}{d:Option Addr}{Q:Unit->Shared->Prop}(hA:A'.frames=some X.stack)(fm:Frm X)(L:rH X pins σ H s a C d)(h:∀s',rH X pins σ H s' a C d->Q () s') :
  wpAny (model X.prog X.w) A' (noteFrame (.ref a) X.env) (fun _ s2=>wpAny (model X.prog X.w) A' (setFlight (.ref a) none) Q E s2) E s:=by
 obtain⟨I,h0,hp,hs,ht,F⟩:=L;have hstk:=I.stack;have hfree:=I.stkFree;rw[fm.st] at hA hstk hfree;have hfrs:frs (X.env :: X.outer)=X.env.locals :: X.fs:=by unfold frs;rw[filterMap_cons,fm.fr];rfl
 refine Qm (base:=X.base) hA hstk fm.fr F (fun b hb=>⟨qT ht b (Gq hb),I.hok.fresh hb⟩) fun h' ch c1 c2 c3 F'=>?_;have tr:∀c u,H c=some u->∀v,s.heap.get? c=some v->h'.get? c=some v:=fun c u e v q=>
  c2 c v (fun z=>by rw[hfree c z] at e;cases e) (fun z=>by rw[(c1 c z).2.1] at e;cases e) q
 have th:∀b o,b∉ch->s.heap.get? b=some o->∃o',h'.get? b=some o':=fun b o hb q=>by
  by_cases hf:b∈frs (X.env :: X.outer)
  ·obtain⟨sl,e⟩:=c3 b o hf q;exact⟨_,e⟩
  ·exact⟨o,c2 b o hf hb q⟩
 have J:Inv X pins σ H { s with heap:=h',gens:=s.gens,drawn:=s.drawn,toks:=s.toks }:=by
  refine I.stepN (ch:=ch) (fun b hb=>zK (a:=a) (C:=C) (d:=d) I hp hs (c1 b hb)) (fun b o h1 h2 h3 e _=>c2 b o (by rw[hfrs];intro z;rcases mem_cons.mp z with z | z;exact h1 z;exact h2 z) h3 e)
   (fun b o _ h2 _ e _=>c3 b o (by rw[hfrs];exact mem_cons_of_mem _ h2) e) th (fun m hm=>?_) (fun b u e=>?_) I.bare
  ·obtain⟨o,es,ep,ho,r⟩:=hm;obtain⟨sl,e⟩:=c3 _ o (by rw[hfrs];exact mem_cons_self) ho;exact⟨_,es,ep,e,r⟩
  ·refine(I.hok b u e).stay (fun c v hc q=>?_) (fun _ q=>q) fun _ _ q=>q;rcases hc with rfl | hc
   ·exact tr c u e v q
   ·exact tr c _ hc v q
 refine h _ ⟨J,h0,hp,hs,fun b o e=>?_,F'⟩;obtain⟨o',e'⟩:=ht b o e;exact th b o' (fun z=>by rw[(c1 b z).1] at e;cases e) e'
theorem Rt {A':Around}{E:Value->Shared->Prop}{a:Addr}{C:Value}{d:Option Addr}{Q:Unit->Shared->Prop}(L:rH X pins σ H s a C d)(h:∀s',rH X pins σ H s' a C d->Q () s'):wpAny (model X.prog X.w) A' (setFlight (.ref a) none) Q E s:=by
 have L':=L;obtain⟨I,h0,hp,hs,ht,F⟩:=L';obtain⟨n,f,oe,vs,v,e1,e2,e3,e4,e5,t⟩:=F;unfold setFlight;refine wpAny_bind (wpAny_field e1 e4 e5 ?_);rcases t with rfl | ⟨T,oT,ts,rfl,t2,t3,t4,t5,t6,t7⟩
 ·rw[if_neg (by decide)];exact wpAny_pure (h s L)
 ·rw[if_pos (show (Value.ref T != Value.none)=true from by simp)];have hsz3:3 < ts.size:=(Array.getElem?_eq_some_iff.mp t7).1;have other:∀b,b≠T->(s.heap.update T (Obj.mapFields (·.setIfInBounds 3 ((none:Option Addr).elim Value.none fun f=>rawInt f)))).get? b=s.heap.get? b:=fun b hb=>Heap.get?_update_other _ _ (Ne.symm hb);have hT':=Heap.get?_update_self (Obj.mapFields (·.setIfInBounds 3 ((none:Option Addr).elim Value.none fun f=>rawInt f))) t5 (Obj.isFreed_of_fields (Obj.data_mapFields t6 _));refine wpAny_setField t5 t6 hsz3 ?_;have c1:∀b∈[T],h0.get? b=none/\H b=none/\∃o vs,s.heap.get? b=some o/\o.data=.fields vs:=fun b hb=>by
   have hb:b=T:=by simpa using hb
   subst hb;exact⟨t3,t4,_,_,t5,t6⟩
  have nT:∀b,b∉[T]->b≠T:=fun b hb z=>hb (by simp[z]);have J:Inv X pins σ H { s with heap:=(s.heap.update T (Obj.mapFields (·.setIfInBounds 3 ((none:Option Addr).elim Value.none fun f=>rawInt f)))),gens:=s.gens,drawn:=s.drawn,toks:=s.toks }:=by
   refine I.stepN (ch:=[T]) (fun b hb=>zK (a:=a) (C:=C) (d:=d) I hp hs (c1 b hb)) (fun b o _ _ h3 e _=>(other b (nT b h3)).trans e) (fun b o _ _ h3 e _=>⟨o.slots,(other b (nT b h3)).trans e⟩)
    (fun b o h3 e=>⟨o,(other b (nT b h3)).trans e⟩) (fun m hm=>?_) (fun b u e=>?_) I.bare
   ·obtain⟨o,es,ep,ho,hd,r⟩:=hm;exact⟨o,es,ep,(other _ (Ne.symm (qV t5 t6 ho fun vs z=>by rw[hd] at z;cases z))).trans ho,hd,r⟩
   ·refine(I.hok b u e).stay (fun c v hc q=>(other c ?_).trans q) (fun _ q=>q) fun _ _ q=>q;rintro rfl;rcases hc with rfl | hc
    ·rw[t4] at e;cases e
    ·rw[t4] at hc;cases hc
  refine h _ ⟨J,h0,hp,hs,fun b o e=>?_,⟨n,f,oe,vs,.ref T,(other a (Ne.symm t2)).trans e1,e2,e3,e4,e5,.inr ⟨T,_,_,rfl,t2,t3,t4,hT',Obj.data_mapFields t6 _,by simp[hsz3]⟩⟩⟩;obtain⟨o',e'⟩:=ht b o e;exact⟨o',(other b (fun z=>by rw[z,t3] at e;cases e)).trans e'⟩
end
def CX1 (P:Program)(w:World):CXT:=fun outer H s E e s'=>∃a C d H',e=.ref a/\s'.os=s.os/\AllBare s'.gens/\Un (frs outer) [] H H' s.heap s'.heap/\HOk P w H' s'.heap/\Fl s.heap H' s'.heap a C d/\E C d H'
def Tg (X:Cx)(E:XK):Prop:=∀(pins:List (Addr × Obj)) (σ:St) (H:Hp) (s:Shared) (a:Addr) (C:Value) (d:Option Addr),rH X pins σ H s a C d->E C d H->X.xe (.ref a) s
section
variable {X:Cx} {pins:List (Addr × Obj)} {σ:List (Option V)} {H:Hp} {s s':Shared} {E:XK} {e:Value}
theorem pN (fm:Frm X)(I:Inv X pins σ H s)(hcx:CX1 X.prog X.w X.stack H s E e s'):∃a C d H',e=.ref a/\rH X pins σ H' s' a C d/\E C d H':=by
 obtain⟨a,C,d,H',rfl,os,bare,un,hok,F,q⟩:=hcx;refine⟨a,C,d,H',rfl,⟨I.call' (ch:=[]) os un hok bare (fun b z=>absurd z (by simp)),s.heap,fun p hp z=>?_,fun b o e=>I.base.there b o e (by rw[fm.ex];simp),fun b o e=>un.there b o e (by simp),F⟩,q⟩;rw[(I.pin p hp).1] at z;cases z
theorem lV (fm:Frm X)(xo:Tg X E):kB (CX1 X.prog X.w) X E:=fun pins σ H s e s' I hcx=>by
 obtain⟨a,C,d,H',rfl,L,q⟩:=pN fm I hcx;exact xo pins σ H' s' a C d L q
end
theorem fB {CX:CXT}{P:Program}{w:World}{K:Frag}{mg:Str->Option Value}{base:Heap}{N:List Str}{qual:Str}{scope:Scope}{f:Addr}{cd:Value}{A:Around}{outer:List Env}{s:Shared}{H:Hp}{E:XK} :
  Frm (vJ CX P w K mg base N qual scope f cd A outer s H E):=⟨rfl,rfl,rfl⟩
theorem iA {P:Program}{w:World}{K:Frag}{mg:Str->Option Value}{base:Heap}{N:List Str}{qual:Str}{scope:Scope}{f:Addr}{cd:Value}{A:Around}{outer:List Env}{s:Shared}{H:Hp}{E:XK} :
  Tg (vJ (CX1 P w) P w K mg base N qual scope f cd A outer s H E) E:=by
 intro pins σ H' s' a C d L q;show wpAny (model P w) (A.deeper (envOfC qual scope s.heap.objs.size f cd)) (leaving (envOfC qual scope s.heap.objs.size f cd) (.ref a)) (fun _ s''=>CX1 P w outer H s E (.ref a) s'') (fun e' s''=>CX1 P w outer H s E e' s'') s';unfold leaving;refine wpAny_bind (Gg (X:=vJ (CX1 P w) P w K mg base N qual scope f cd A outer s H E) L.1.ok.frames fB L fun s'' L''=>?_);obtain⟨J,h0,hp,hs0,hth,F⟩:=L'';exact⟨a,C,d,H',rfl,J.os,J.bare,J.base,J.hok,F.older fun b z=>qT hs0 b z,q⟩
abbrev rK:List Value:=[.type "ValueError",.type "Exception",.type "BaseException",.type "object"]
def Na (K:Frag)(C:Addr):Prop:=W.excIn K C rK "ValueError.__new__"=true
theorem Wa {K:Frag}{h:Heap}{C:Addr}{bmB:List Value}{newId:String}(X:K.In h)(q:W.excIn K C bmB newId=true) :
  ∃bm N nm qn bs hdct sn sub ab col dd k0 k1 k2 k3 k5 mN,h.get? C=some (excClassObj nm qn C N bs bm hdct sn sub ab col dd k0 k1 k2 k3 k5 newId)/\h.Ns N mN/\mN "__init__"=none/\OwnTail h bmB bm:=by
 unfold W.excIn at q;split at q
 ·rename_i dd cd sl ho
  split at q
  ·rename_i C' bm k0 k1 k2 k3 n k5 hm hs
   simp only[Bool.and_eq_true,beq_iff_eq,Bool.not_eq_true'] at q;obtain⟨⟨⟨⟨⟨rfl,rfl⟩,hdel⟩,ht⟩,hok⟩,hni⟩:=q;obtain⟨nm,bs,mro,ns,qn,hd,sn,sub,ab,col,del⟩:=cd;dsimp only at hm hdel hok hni;subst hm hdel;have hsl:sl=#[k0,k1,k2,k3,some (.builtin n),k5]:=by
    obtain⟨l⟩:=sl;simp only at hs;rw[hs]
   subst hsl;exact⟨bm,ns,nm,qn,bs,hd,sn,sub,ab,col,dd,k0,k1,k2,k3,k5,_,X _ _ ho,.of_isNs (W.isNs_of_in X hok),W.nsMap_none_of_in X hok hni,W.tail_of_in X ht⟩
  ·cases q
 ·cases q
section
variable {X:Cx} {pins:List (Addr × Obj)} {σ:List (Option V)} {H:Hp} {s:Shared}
def Ys (C:Addr)(E:XK)(ta:TA):TS:=fun _ σ H=>ta σ H fun vs H1=>vs.length<=sizeLine/\E (.ref C) none H1
theorem vD {E:XK}{x:Str}{C:Addr}{np cpos pos:Pos}{e₀:Expr}{es:List Expr}{ta:TA}(fm:Frm X)(xo:Tg X E)(hc:X.calm=true)(hg:Gl X x)(hm:X.mg x=some (.ref C))(q:Na X.K C)(ha:PA X (e₀ :: es) ta)(hdb:(x == ("__debug__":Str))=false:=by decide)(he:starEach (e₀ :: es) X.env=(false,eval e₀ X.env) :: starEach es X.env:=by rfl)(hpl:(backTo cpos (starEach es X.env)).any (·.1)=false:=by rfl) :
  PS X (.Raise (some (.Call (.Name x np) (e₀ :: es) [] cpos)) none pos) (Ys C E ta):=by
 intro pins s σ H D I h;obtain⟨tl,N,nm,qn,bs,hdct,sn,sub,ab,col,dd,k0,k1,k2,k3,k5,mN,hC,hN,hni,T⟩:=Wa I.mod.kin q;have FB:=PySem.F.excBase_ValueError;refine wpAny_Raise_call_subU (C:=C) (nm:=nm) (q:=qn) (N:=N) (bs:=bs) (bm:=tl) (hdct:=hdct) (sn:=sn) (sub:=sub) (ab:=ab) (col:=col) (dd:=dd) (k0:=k0) (k1:=k1) (k2:=k2) (k3:=k3) (k5:=k5)
  FB (by decide) FB (mN:=mN) (T.hasType FB.hasBase) (I.ok.hd hc) (by rw[he];show (false || (backTo cpos (starEach es X.env)).any (·.1))=false;rw[hpl];rfl) hni (iR I hg hm ⟨rfl,?_⟩ hdb)
 have ha':=ha cpos pins s σ H _ I h;rw[he] at ha' ⊢;refine Calls.evalArgs_plain (wpAny_mono ha' (fun vs s2 h2=>?_) fun _ _ y=>y);obtain⟨xs,H1,I1,r,hz,q1⟩:=h2;refine⟨rfl,by rw[<- r.length];exact hz,I1.bk _ _ hC,hN.keeps I1.bk,T.keeps I1.bk,fun h' e hx=>?_⟩;obtain⟨t,he1,htn,ht⟩:=hx.there;refine xo pins σ H1 _ e (.ref C) none ⟨I1.kept (t':=s2.toks) hx.keeps,s2.heap,fun p hp z=>?_,fun b o e=>I1.base.there b o e (by rw[fm.ex];simp),fun b o z=>⟨o,hx.keeps b o z⟩,⟨hx.new,I1.hok.none_of hx.new,_,_,.none,he1,rfl,rfl,rfl,rfl,.inl rfl⟩⟩ q1;rw[(I1.pin p hp).1] at z;cases z
end
abbrev TEX:=St->Hp->VK->XK->Prop
abbrev TSX:=jX->(St->XK)->St->Hp->Prop
def XP (X:Cx)(pins:List (Addr × Obj))(E:St->XK)(e:Value)(s':Shared):Prop:=∃a C d σ' H',e=.ref a/\rH X pins σ' H' s' a C d/\E σ' C d H'
def PX (X:Cx)(e:Expr)(t:TEX):Prop:=
 ∀(pins:List (Addr × Obj)) (s:Shared) (σ:St) (H:Hp) (Q:VK) (E:XK),Inv X pins σ H s->t σ H Q E->wpAny (model X.prog X.w) X.A (eval e X.env) (EP X pins σ Q) (XP X pins fun σ' C d H'=>σ'=σ/\E C d H') s
def PSX (X:Cx)(st:Stmt)(t:TSX):Prop:=
 ∀(pins:List (Addr × Obj)) (s:Shared) (σ:St) (H:Hp) (D:jX) (E:St->XK),Inv X pins σ H s->t D E σ H->wpAny (model X.prog X.w) X.A (exec st X.env) (SP X pins D) (XP X pins E) s
def Tl (X:Cx)(st:List Stmt)(t:TSX):Prop:=
 ∀(pins:List (Addr × Obj)) (s:Shared) (σ:St) (H:Hp) (D:jX) (E:St->XK),Inv X pins σ H s->t D E σ H->wpAny (model X.prog X.w) X.A (execs st X.env) (SP X pins D) (XP X pins E) s
theorem XP.at {X:Cx}{pins:List (Addr × Obj)}{σ:St}{E:St->XK}{e:Value}{s':Shared}(h:XP X pins (fun σ' C d H'=>σ'=σ/\E σ C d H') e s'):XP X pins E e s':=by
 obtain⟨a,C,d,σ',H',rfl,L,rfl,q⟩:=h;exact⟨a,C,d,σ',H',rfl,L,q⟩
section
variable {X:Cx} {k:Nat} {f C:Addr} {fd:FuncData} {ps:List Str} {sp:Sp} {dvs:List V} {ds:List Value} {x m:Str} {p pos apos:Pos} {e o:Expr} {es:List Expr} {ta:TE} {t:TA}
def Zd (sp:Sp)(dvs:List V)(t:TA):TEX:=fun σ H Q E=>t σ H fun vs H1=>sp (vs++dvs) H1 Q E
theorem qc6 {pins:List (Addr × Obj)}{σ:St}{H:Hp}{s:Shared}{Q:VK}{E:XK}{us:List Value}{vs:List V}(F:aJ X.prog X.w X.K X.mg X.base (CX1 X.prog X.w) k f fd ps sp)(fm:Frm X)(hr:fQ k X.A)(hb:aP X.K fd ps ds)(hd:bL dvs ds)(I:Inv X pins σ H s)(r:bL vs us)(h:sp (vs++dvs) H Q E):wpAny (model X.prog X.w) X.A (call (.ref f) us) (EP X pins σ Q) (XP X pins fun σ' C d H'=>σ'=σ/\E C d H') s:=by
 have r2:bL (vs++dvs) (us++ds):=r.append hd;have hl:(us++ds).length=ps.length:=by rw[<- r2.length];exact F.len _ _ _ _ h
 refine wpAny_call (codeAny_mono (F.run X.A X.stack s H ⟨us,[]⟩ (us++ds) (vs++dvs) Q E hr I.env0 (hb s us I.kIn hl) r2 h) fun r s' hq=>?_)
 cases r with
 |error e=>
  obtain⟨a,C,d,H',rfl,L,q⟩:=pN fm I hq;exact⟨a,C,d,σ,H',rfl,L,rfl,q⟩
 |ok fl=>
  cases fl with
  |ret u=>exact I.after hq
  |next=>exact False.elim hq
  |brk=>exact False.elim hq
  |cont=>exact False.elim hq
theorem Gm (F:aJ X.prog X.w X.K X.mg X.base (CX1 X.prog X.w) k f fd ps sp)(fm:Frm X)(hr:fQ k X.A)(hg:Gl X x)(hm:X.mg x=some (.ref f))(hk:W.keepIn X.K (.ref f)=true)(hb:aP X.K fd ps ds)(hd:bL dvs ds)(ha:PA X.nox (e :: es) t)(hdb:(x == ("__debug__":Str))=false:=by decide)(he:starEach (e :: es) X.env=(false,eval e X.env) :: starEach es X.env:=by rfl)(hpl:(backTo pos (starEach es X.env)).any (·.1)=false:=by rfl) :
  PX X (.Call (.Name x p) (e :: es) [] pos) (Zd sp dvs t):=by
 intro pins s σ H Q E I h;refine wpAny_Call_Name_kw (iR I hg hm ?_ hdb);refine W.callWith_K (h₀:=X.base) I.ok.mod.kin hk (wpAny_mono (ha pos pins s σ H _ (I.wish _) h) (fun us s1 h1=>?_) fun _ _ z=>False.elim z) he hpl;obtain⟨vs,H1,I1,r,q⟩:=h1;exact⟨I1.kIn,qc6 F fm hr hb hd I1.unwish r q⟩
def qf4 (i:Nat)(te:TEX):TSX:=fun D E σ H=>te σ H (fun v H1=>D.nx (σ.set i (some v)) H1) (E σ)
theorem Hb {i:Nat}{x:Str}{te:TEX}{pos':Pos}(hN:X.N.Nodup)(hi:X.N[i]?=some x)(hx:Loc X.env.scope x)(he:PX X e te)(hs:swapsWith e (some (.Name x pos')) pos.line X.env=pure false:=by rfl)(hf:X.fn x=true\/X.env.scope.names.lookup x=some .local:=by first | exact .inl rfl | exact .inr rfl | assumption) :
  PSX X (.Assign [.Name x pos'] e pos) (qf4 i te):=by
 intro pins s σ H D E I h;refine wpAny_Assign_Name (wpAny_mono (he pins s σ H _ _ I h) (fun v s1 h1=>?_) fun _ _ z=>XP.at z) hs;obtain⟨y,H1,I1,r1,q1⟩:=h1;exact lM I1 hN hi hx r1 (fun s2 I2=>⟨_,H1,I2,q1⟩) hf
theorem vE {st:Stmt}{t:TSX}(h1:PSX X st t):Tl X [st] t:=by
 intro pins s σ H D E I h;refine wpAny_execs_cons (wpAny_mono (h1 pins s σ H D E I h) (fun f s1 q=>?_) fun _ _ z=>z)
 cases f with
 |next=>exact wpAny_execs_nil q
 |ret v=>exact q
 |brk=>exact q
 |cont=>exact q
def xIf (c:TT)(t u:TSX):TSX:=fun D E σ H=>c σ H fun b H1=>if b=true then t D E σ H1 else u D E σ H1
theorem Xw {c:Expr}{a b:List Stmt}{tc:TT}{t u:TSX}(hc:PT X.nox c tc)(ha:Tl X a t)(hb:Tl X b u):PSX X (.If c a b pos) (xIf tc t u):=by
 intro pins s σ H D E I h;refine wpAny_If (wpAny_mono (hc pins s σ H _ (I.wish _) h) (fun d s1 h1=>?_) fun _ _ z=>False.elim z);obtain⟨H1,I1,q1⟩:=h1
 cases d with
 |true=>exact ha pins s1 σ H1 D E I1.unwish q1
 |false=>exact hb pins s1 σ H1 D E I1.unwish q1
end
abbrev Cx.sup (X:Cx)(a:Addr):Cx:={ X with A:=X.A.mark (some (.ref a)),calm:=false,xe:=fun _ _=>False }
section
variable {X:Cx} {pins:List (Addr × Obj)} {σ:List (Option V)} {H:Hp} {s:Shared} {a:Addr}
theorem Cx.Ok.sup (ok:X.Ok)(a:Addr):(X.sup a).Ok:=
 ⟨ok.mod,ok.kind,ok.glob,ok.blt,ok.above,ok.inj,ok.has,ok.cab,fun z=>Bool.noConfusion z,ok.frames,ok.stk,ok.exf,ok.bs,ok.bsz,ok.noex,ok.exfs,ok.funs,ok.frf⟩
theorem Inv.sup (I:Inv X pins σ H s)(a:Addr):Inv (X.sup a) pins σ H s:=⟨I.ok.sup a,I.os,I.bare,I.base,I.loc,I.cell,I.free,I.freeC,I.pin,I.hok,I.len⟩
theorem Inv.unsup (ok:X.Ok)(I:Inv (X.sup a) pins σ H s):Inv X pins σ H s:=⟨ok,I.os,I.bare,I.base,I.loc,I.cell,I.free,I.freeC,I.pin,I.hok,I.len⟩
def dM (a:Addr)(C:Value)(d:Option Addr):HO:=.ext fun h=>∃o vs,h.get? a=some o/\o.cls=C/\o.dict=d/\o.data=.fields vs
theorem rH.track {C:Value}{d:Option Addr}(L:rH X pins σ H s a C d)(fm:Frm X):Inv X pins σ (upd H a (dM a C d)) s:=by
 obtain⟨I,h0,hp,hs,ht,F⟩:=L;obtain⟨n,f,oe,vs,v,e1,e2,e3,e4,e5,t⟩:=F;obtain⟨c1,c2,c3,c4⟩:=zK (a:=a) (C:=C) (d:=d) I hp hs (b:=a) ⟨n,f,_,_,e1,e4⟩;have tr:∀b u,H b=some u->upd H a (dM a C d) b=some u:=fun b u e=>by rw[aM (bB e f)];exact e
 refine⟨I.ok,I.os,I.bare,⟨I.base.keep,I.base.slot,fun b o e n' hx=>?_,I.base.there,fun b xs e=>tr _ _ (I.base.tups b xs e),fun b o u e=>tr _ _ (I.base.frzs b o u e),fun b ps e=>?_⟩,I.loc,I.cell,?_,fun x c e=>?_,fun p hp'=>?_,fun b o e=>?_,I.len⟩
 ·have:b≠a:=fun z=>by rw[z,c1] at e;cases e
  rw[aM this];exact I.base.free b o e n' hx
 ·obtain⟨more,z⟩:=I.base.tbls b ps e;exact⟨more,tr _ _ z⟩
 ·rw[aM (Ne.symm c2)];exact I.free
 ·rw[aM (c3 x c e)];exact I.freeC x c e
 ·obtain⟨z1,z2,z3⟩:=I.pin p hp';exact⟨z1,by rw[aM (c4 p hp')];exact z2,z3⟩
 ·by_cases hb:b=a
  ·subst hb;rw[aB] at e;cases e;refine⟨⟨oe,vs,e1,e2,e3,e4⟩,⟨oe,e1⟩,fun h1 h2 p k=>?_⟩;obtain⟨o,vs',z1,z2⟩:=p;exact⟨o,vs',k o z1,z2⟩
  ·rw[aM hb] at e;exact(I.hok b o e).stay (fun _ _ _ q=>q) (fun c q=>tr _ _ q) fun c xs q=>tr _ _ q
theorem lT {A':Around}{E:Value->Shared->Prop}{j:Nat}{n:Str}{pos:Pos}{Q:Unit->Shared->Prop}(I:Inv X pins σ H s)(hN:X.N.Nodup)(hj:X.N[j]?=some n)(hl:X.env.scope.names.lookup n=some .local)(h:∀s',Inv X pins (σ.set j none) H s'->Q () s'):wpAny (model X.prog X.w) A' (do bindName X.env n .none;unbindBehindTheSuite X.env n pos) Q E s:=by
 obtain⟨m,hn,hlk⟩:=id I.loc;have hcls:(X.env.scope.kind == .class || (X.env.scope.kind == .module && X.env.locals != X.env.globals))=false:=by rw[I.ok.kind];rfl
 have hiσ:j < σ.length:=by rw[I.len];exact(List.getElem?_eq_some_iff.mp hj).1
 have cne:=I.cne;refine wpAny_nameGoes_keeps hl hn hcls fun h' v hn' hs=>?_;obtain⟨oL,_,_,hoL,_⟩:=id hn;refine h _ ⟨I.ok,I.os,I.bare,⟨fun b o e n hb hx=>?_,fun b o e n hb hx=>?_,I.base.free,fun b o e hx=>?_,I.base.tups,I.base.frzs,I.base.tbls⟩,⟨_,hn',fun i y v' e1 e2 e3=>?_⟩,fun y c e=>?_,I.free,I.freeC,fun p hp=>?_,fun b ob e=>?_,by simpa using I.len⟩
 ·exact(hs.2 b (Nat.ne_of_lt (Nat.lt_of_lt_of_le (Heap.lt_size e) I.ok.above))).trans (I.base.keep b o e n hb hx)
 ·obtain⟨sl,e1⟩:=I.base.slot b o e n hb hx;exact⟨sl,(hs.2 b (Nat.ne_of_lt (Nat.lt_of_lt_of_le (Heap.lt_size e) I.ok.above))).trans e1⟩
 ·obtain⟨o',e1⟩:=I.base.there b o e hx;exact⟨o',(hs.2 b (Nat.ne_of_lt (Nat.lt_of_lt_of_le (Heap.lt_size e) I.ok.above))).trans e1⟩
 ·by_cases hij:i=j
  ·subst hij;rw[getElem?_set_self hiσ] at e2
   cases e2
  ·rw[getElem?_set_ne (Ne.symm hij)] at e2;obtain⟨u',r',q⟩:=hlk i y v' e1 e2 e3;refine⟨u',r',?_⟩;rcases q with ⟨k,e⟩ | ⟨k,c,e,z⟩
   ·refine .inl ⟨k,?_⟩;have:y≠n:=fun e=>hij (uT hN e1 (e ▸ hj));simp[this,e]
   ·exact .inr ⟨k,c,e,z.sameBut hs (cne y c e)⟩
 ·obtain⟨w',z⟩:=I.cell y c e;exact⟨w',z.sameBut hs (cne y c e)⟩
 ·obtain⟨e,n,ne,nf,d⟩:=I.pin p hp;exact⟨(hs.2 p.1 ne).trans e,n,ne,nf,d⟩
 ·refine(I.hok b ob e).stay (fun c w' hc q=>(hs.2 c ?_).trans q) (fun _ q=>q) fun _ _ q=>q;rintro rfl;rcases hc with rfl | hc
  ·rw[I.free] at e;cases e
  ·rw[I.free] at hc;cases hc
end
abbrev TH:=Addr->Value->Option Addr->jX->St->Hp->Prop
def PH (X:Cx)(hs:List ExceptHandler)(t:TH):Prop:=
 ∀(pins:List (Addr × Obj)) (s:Shared) (σ:St) (H:Hp) (D:jX) (a:Addr) (C:Value) (d:Option Addr),rH X pins σ H s a C d->t a C d D σ H->wpAny (model X.prog X.w) X.A (handleBy (.ref a) X.env hs) (SP X pins D) X.xe s
section
variable {X:Cx} {pos np:Pos} {T:Str} {tc:Value} {b₀:Stmt} {suite:List Stmt} {rest:List ExceptHandler} {ts:TS} {tr:TH}
def Wl:TH:=fun _ _ _ _ _ _=>False
theorem Md {hs:List ExceptHandler}:PH X hs Wl:=fun _ _ _ _ _ _ _ _ _ h=>h.elim
def Ux (X:Cx)(T:Str)(c:Value):Prop:=X.mg T=some c\/(X.mg T=none/\bootBuiltins T=some c/\T≠"__name__")
theorem Wn {E:Value->Shared->Prop}{pins:List (Addr × Obj)}{s:Shared}{σ:St}{H:Hp}{Q:Value->Shared->Prop}(I:Inv X pins σ H s)(hg:Gl X T)(hc:Ux X T tc)(h:Q tc s)(hd:(T == ("__debug__":Str))=false:=by decide):wpAny (model X.prog X.w) X.A (eval (.Name T np) X.env) Q E s:=by
 rcases hc with e | ⟨e,hv,hn⟩
 ·exact iR I hg e h hd
 ·exact gJ I hg e hv h hn hd
theorem rH.ty {M:Model}{pins:List (Addr × Obj)}{s:Shared}{σ:St}{H:Hp}{a:Addr}{C:Value}{d:Option Addr}(L:rH X pins σ H s a C d):W.Looks M s.heap (typeOf (.ref a)) C:=by
 obtain⟨I,h0,hp,hs,ht,n,f,oe,vs,v,e1,e2,_⟩:=L;subst e2;exact(W.Looks.ld e1).andThen .now
def Sh (K:Frag)(tc:Value)(j:Nat)(ts:TS)(tr:TH):TH:=fun a C d D σ H=>∃b,W.exmOne K C tc=some b/\
 if b=true then ts { nx:=fun σ' H'=>D.nx (σ'.set j none) H',rt:=D.rt,bk:=fun σ' H'=>D.bk (σ'.set j none) H',ct:=fun σ' H'=>D.ct (σ'.set j none) H' } (σ.set j (some (.ref a))) (upd H a (dM a C d)) else tr a C d D σ H
theorem Mu {j:Nat}{n:Str}(fm:Frm X)(hN:X.N.Nodup)(hj:X.N[j]?=some n)(hl:X.env.scope.names.lookup n=some .local)(hg:Gl X T)(hc:Ux X T tc)(hs:∀a,PSs (X.sup a) (b₀ :: suite) ts)(hr:PH X rest tr)(hd:(T == ("__debug__":Str))=false:=by decide) :
  PH X (.ExceptHandler (some (.Name T np)) (some n) (b₀ :: suite) pos :: rest) (Sh X.K tc j ts tr):=by
 intro pins s σ H D a C d L h;obtain⟨b,hb,h⟩:=h;have I:=L.1;refine wpAny_handleBy_cons (codeAny_handlers_test (Wn (X:=X.sup a) (I.sup a) hg hc ((W.exm_one I.kIn L.ty hb).here ?_) hd)) (by intro q;cases q)
 cases b with
 |false=>
  rw[if_neg Bool.false_ne_true] at h;exact hr pins s σ H D a C d L h
 |true=>
  rw[if_pos rfl] at h;refine codeAny_handlers_suite_as (Rt (X:=X) L fun s' L'=>?_);refine lM (X:=X.sup a) ((L'.track fm).sup a) hN hj (.inl hl) (v:=.ref a) rfl (fun s2 I2=>?_) (.inr hl);refine wpAny_mono (hs a pins s2 _ _ _ I2 h) (fun f s3 q=>?_) fun _ _ z=>False.elim z
  cases f with
  |next=>
   obtain⟨σ',H',J,q⟩:=q;exact lT (J.unsup I.ok) hN hj hl fun s4 J4=>⟨_,H',J4,q⟩
  |brk=>
   obtain⟨σ',H',J,q⟩:=q;exact lT (J.unsup I.ok) hN hj hl fun s4 J4=>⟨_,H',J4,q⟩
  |cont=>
   obtain⟨σ',H',J,q⟩:=q;exact lT (J.unsup I.ok) hN hj hl fun s4 J4=>⟨_,H',J4,q⟩
  |ret u=>
   obtain⟨v,σ',H',J,r,q⟩:=q;exact lT (J.unsup I.ok) hN hj hl fun s4 J4=>⟨v,_,H',J4,r,q⟩
def qf8 (tb:TSX)(to:TS)(th:TH):TS:=fun D σ H=>tb { D with nx:=to D } (fun σ' C d H'=>∀a,H' a=none->th a C d D σ' H') σ H
theorem Xx {body orelse:List Stmt}{h₀:ExceptHandler}{hs:List ExceptHandler}{tb:TSX}{to:TS}{th:TH}(fm:Frm X)(hb:Tl X body tb)(ho:PSs X orelse to)(hh:PH X (h₀ :: hs) th):PS X (.Try body (h₀ :: hs) orelse [] pos) (qf8 tb to th):=by
 intro pins s σ H D I h;refine wpAny_Try_except (wpAny_mono (hb pins s σ H _ _ I h) (fun f s1 q=>?_) fun e s1 q=>?_)
 ·cases f with
  |next=>
   obtain⟨σ',H',I',q⟩:=q;exact ho pins s1 σ' H' D I' q
  |ret v=>exact q
  |brk=>exact q
  |cont=>exact q
 ·obtain⟨a,C,d,σ',H',rfl,L,q⟩:=q;refine Gg I.ok.frames fm L fun s2 L2=>?_;exact hh pins s2 σ' H' D a C d L2 (q a L2.2.choose_spec.2.2.2.free)
end
structure mD (K:Frag) (C:Addr):Prop where
 ga:W.findIn K (.ref C) "__getattribute__"=some (some (.builtin "BaseException.__getattribute__"))
 gn:W.findIn K (.ref C) "__getattr__"=some none
 bx:W.mroIn K C (.type "BaseException")=some true
 ob:W.mroIn K C (.type "object")=some true
 ca:W.findIn K (.ref C) "__class__"=some (some (.builtin "object.__class__"))
 hn:W.specialIn K (.builtin "object.__class__") "__get__"=some (some (.builtin "getset_descriptor.__get__"))
 tk:W.takesIn K (.builtin "object.__class__")=some true
 cl:(W.clsIn K C).isSome=true
section
variable {prog:Program} {w:World} {A:Around} {E:Value->Shared->Prop} {s:Shared} {K:Frag} {x D:Addr} {ox:Obj} {odo:Option Obj} {name:Str}
theorem Iy {nameV:Value}{Q:Unit->Shared->Prop}(k:mD K D)(X:K.In s.heap)(I:W.InstAt s.heap x ox D odo)(h:Q () s) :
  wpAny (model prog w) A (checkBuiltinCall "BaseException.__getattribute__" ⟨[.ref x,nameV],[]⟩) Q E s:=by
 have hk:builtinKind "BaseException.__getattribute__"=some .slot:=by decide +kernel
 have hsplit:splitId "BaseException.__getattribute__"=some ("BaseException","__getattribute__"):=by decide +kernel
 obtain⟨hh,g,d,t,os⟩:=s;have L0:=I.type (M:=model prog w);have L1:=W.looks_mroIn (M:=model prog w) X k.bx;have LI:W.Looks (model prog w) hh (isInstance (.ref x) (.type "BaseException")) true:=L0.andThen L1;have ha:=PySem.F.args_bexc_ga (.ref x) nameV;simp only[checkBuiltinCall,hk,hsplit];refine wpAny_bind (LI.at ?_)
 repeat (first | lk | wp_step)
 exact h
theorem Nl {v:Value}{tk:Tok}{fill expr:Bool}{P:Value->Shared->Prop}(k:mD K D)(X:K.In s.heap)(I:W.InstAt s.heap x ox D odo)(hv:W.handedIn v=true)(hf:W.findObj K D odo name=some (.value v)\/∃g a,W.findObj K D odo name=some (.bind g a)/\∀(A':Around) (R:Result->Shared->Prop),R (.ok (.ret v)) s->codeAny (model prog w) A' (.call g ⟨[a,.ref x,.ref D],[]⟩) R s)(h:P v s) :
  wpAny (model prog w) A (getAttrBy (.ref x) (.str name tk) fill expr) P E s:=by
 obtain⟨hh,g,d,t,os⟩:=s;have L0:=I.type (M:=model prog w);have L1:=W.looks_findIn (M:=model prog w) X k.ga;have L2:=W.looks_findIn (M:=model prog w) X k.gn;unfold getAttrBy;refine wpAny_holding (wpAny_bind (L0.at (wpAny_bind (L1.at ?_))));show wpAny _ _ (getAttrByItsOwn (.ref x) (.str name tk) (.ref D) (.builtin "BaseException.__getattribute__") fill expr) _ _ _;unfold getAttrByItsOwn hookBefore;have f3:=PySem.F.attr_ValueError.ga.bind (.ref x);refine wpAny_bind (L2.at ?_);refine wpAny_bind (wpAny_attempt (wpAny_holding ?_));unfold callGetattribute boundAndCalled;rw[if_neg (by cases expr<;>decide)];refine wpAny_bind (wpAny_of_eq f3 ?_);refine wpAny_call (codeAny_call_builtin PySem.F.attr_ValueError.ga.plain PySem.F.entry_bexc_ga (Iy k X I ?_));unfold Builtin.«object.__getattribute__»;refine wpAny_bind (wpAny_pure ?_);refine wpAny_bind (wpAny_pure ?_);refine wpAny_bind (L0.at ?_);rcases hf with hf | ⟨gg,a,hf,hc⟩
 ·refine wpAny_bind ((W.looks_find (M:=model prog w) X I hf).at ?_);refine wpAny_pure ?_;show wpAny _ _ (handedOut v) _ _ _;rw[W.handedOut_of hv];exact wpAny_pure h
 ·refine wpAny_bind ((W.looks_find (M:=model prog w) X I hf).at ?_);show wpAny _ _ (Builtin.ObjectAttr.bindTo gg a (.ref x) (.ref D)) _ _ _;show wpAny _ _ (holding [a] (call gg [a,.ref x,.ref D]) >>= ret) _ _ _;refine wpAny_bind (wpAny_holding (wpAny_call (hc _ _ ?_)));refine wpAny_pure ?_;show wpAny _ _ (handedOut v) _ _ _;rw[W.handedOut_of hv];exact wpAny_pure h
theorem Ke {Q:Option Value->Shared->Prop}(k:mD K D)(X:K.In s.heap)(I:W.InstAt s.heap x ox D odo)(h:Q (some (.ref D)) { s with toks:=s.toks+1 }) :
  wpAny (model prog w) A (getAttr? (.ref x) "__class__") Q E s:=by
 have hf:W.findObj K D odo "__class__"=some (.bind (.builtin "getset_descriptor.__get__") (.builtin "object.__class__")):=by
  obtain⟨cd,hc⟩:=Option.isSome_iff_exists.mp k.cl;unfold W.findObj;rw[hc,Option.bind_some,k.ca,Option.bind_some];simp[k.hn,k.tk]
 unfold getAttr? getAttrBy?;refine wpAny_bind (wpAny_mkText (wpAny_bind (wpAny_attempt (Nl (s:={ s with toks:=s.toks+1 }) k X I rfl (.inr ⟨_,_,hf,fun A' R q=>W.class_get (s:={ s with toks:=s.toks+1 }) X I k.ob q⟩) ?_))));exact wpAny_pure h
theorem oE (k:mD K D):W.KitX K (.ref x) (.ref D) (fun h=>W.InstAt h x ox D odo) where
 ty:=fun _ _ _ I=>I.type
 it:=fun _ _ X _=>by
  obtain⟨cdD,hcD⟩:=Option.isSome_iff_exists.mp k.cl;unfold W.clsIn at hcD;split at hcD
  ·rename_i c' d' cd' sl' ho
   intro A' Q' E' s' kk q;unfold isType loadHead;exact wpAny_bind (wpAny_loadPart (kk _ _ (X _ _ ho)) (wpAny_pure q))
  ·cases hcD
 ne:=fun h tp dd its n sl X htp=>by
  obtain⟨cdD,hcD⟩:=Option.isSome_iff_exists.mp k.cl;refine Bool.eq_false_iff.mpr fun q=>?_;have e:D=tp:=Value.ref.inj (beq_iff_eq.mp q);subst e;unfold W.clsIn at hcD;split at hcD
  ·rename_i c' d' cd' sl' ho
   have z:=(X _ _ ho).symm.trans htp
   cases z
  ·cases hcD
 ca:=fun X I h=>Ke k X I h
end
section
variable {X:Cx}
theorem Bm {pins:List (Addr × Obj)}{σ:St}{H:Hp}{s:Shared}{a C:Addr}(I:Inv X pins σ H s)(e:H a=some (dM a (.ref C) none)):∃ox,W.InstAt s.heap a ox C none:=by
 obtain⟨⟨o,vs,h1,h2,h3,h4⟩,_⟩:=(show cD X.prog X.w H s.heap a (dM a (.ref C) none) from I.hok a _ e)
 refine⟨o,h1,h2,?_,?_⟩
 ·unfold W.notCls;rw[h4]
 ·rw[h3];trivial
theorem Ji:fK X (.builtin "isinstance") (fun xs H Q=>∃a C c cv b,xs=[.ref a,c]/\H a=some (dM a (.ref C) none)/\mD X.K C/\bS c cv/\(∀u,bS c u->u=cv)/\W.kitOne X.K (.ref C) cv=some b/\Q (.bl b) H):=by
 intro pins s σ H xs us Q I r h;obtain⟨a,C,c,cv,b,rfl,ha,k,rc,ru,e,q⟩:=h;obtain⟨u,w',rfl,rx,rn⟩:=uH r
 cases (show u=Value.ref a from rx)
 cases ru w' rn
 obtain⟨ox,hi⟩:=Bm I ha;exact W.kia_one (oE (ox:=ox) (odo:=none) k) I.kIn hi e (fun z=>nomatch z) fun tk=>⟨.bl b,H,I.tok tk,rfl,q⟩
theorem gV {x:Str}{C:Addr}{pos:Pos}(hg:Gl X x)(hm:X.mg x=some (.ref C))(hd:(x == ("__debug__":Str))=false:=by decide):PE X (.Name x pos) (tC (.ref C)):=eV hg hm rfl hd
theorem qM:∀{cs:List Addr} {its:List Value},bL (cs.map V.ref) its->its=cs.map Value.ref
 | [],_,.nil=>rfl
 |_ :: _,_,.cons r t=>by rw[show _=Value.ref _ from r,qM t];rfl
theorem Do:fK X (.builtin "isinstance") (fun xs H Q=>∃(a C tp:Addr) (cs:List Addr) (b:Bool),xs=[.ref a,.ref tp]/\H a=some (dM a (.ref C) none)/\mD X.K C/\H tp=some (.tup (cs.map V.ref))/\W.kitAny X.K (.ref C) (cs.map Value.ref)=some b/\Q (.bl b) H):=by
 intro pins s σ H xs us Q I r h;obtain⟨a,C,tp,cs,b,rfl,ha,k,ht,e,q⟩:=h;obtain⟨u,w',rfl,rx,rn⟩:=uH r
 cases (show u=Value.ref a from rx)
 cases (show w'=Value.ref tp from rn)
 obtain⟨ox,hi⟩:=Bm I ha;obtain⟨its,rv,⟨o,h1,h2,n,h3⟩,_⟩:=I.tuple (SqT.of ht);have ei:=qM rv;subst ei;obtain⟨oc,od,oda,osl⟩:=o;dsimp only at h2 h3;subst h2 h3;exact W.kia_tup (oE (ox:=ox) (odo:=none) k) I.kIn hi h1 e (fun z=>nomatch z) fun tk=>⟨.bl b,H,I.tok tk,rfl,q⟩
end
end L2
namespace Mq
theorem qJ {p q:Q2}(hp:1<=p.2)(hq:1<=q.2):Low (eQ p q):=jM (hG hp hq)
theorem Iu {p q:Q2}(hp:1<=p.2)(hq:1<=q.2):Low (rD p q):=jM (hG hp hq)
theorem sI {p q:Q2}(hp:1<=p.2)(hq:q.1≠0):p.2*q.1≠0:=Int.mul_ne_zero (by lia) hq
theorem Ni {p q:Q2}(hp:1<=p.2)(hq:q.1≠0):Low (rG p q):=jM (sI hp hq)
theorem Ai {n m:Nat}{p q:Q2}(h:Bd n p)(g:Bd m q)(hp:1<=p.2)(hq:1<=q.2):Bd (n+m+1) (eQ p q):=by
 have k:=tO (t:=p.1*q.2 - q.1*p.2) (hG hp hq);have a2:B (n+m) (q.1*p.2):=by rw[Nat.add_comm];exact g.a.mul h.b
 exact⟨((h.a.mul g.b).sub a2).le k.1,((h.b.mul g.b).mono (Nat.le_succ _)).le k.2⟩
theorem Lo {n m:Nat}{p q:Q2}(h:Bd n p)(g:Bd m q)(hp:1<=p.2)(hq:1<=q.2):Bd (n+m) (rD p q):=by
 have k:=tO (t:=p.1*q.1) (hG hp hq);exact⟨(h.a.mul g.a).le k.1,(h.b.mul g.b).le k.2⟩
theorem Tm {n m:Nat}{p q:Q2}(h:Bd n p)(g:Bd m q)(hp:1<=p.2)(hq:q.1≠0):Bd (n+m) (rG p q):=by
 have k:=tO (t:=p.1*q.2) (sI hp hq);exact⟨(h.a.mul g.b).le k.1,(h.b.mul g.a).le k.2⟩
end Mq
namespace L2
open PySem PySem.Spec PyProof.Rows
def NW (K:Frag)(H:Hp)(x:V):Prop:=∃t,jB K H x t/\iD t
def Fi (K:Frag):Sp:=fun vs H Q _=>∃(a b:Addr) (p q:Mq.Q2) (n m:Nat),vs=[.ref a,.ref b]/\Fq K H a p/\Fq K H b q/\Bd n p/\Bd m q/\n+m+1<=9000/\Q (.bl (decide (p.1*q.2 < q.1*p.2))) H
inductive TyQ (K:Frag) (H:Hp):V->Value->Prop where
 |of {x:V} {t:Value} (h:jB K H x t):TyQ K H x t
 |tup {a:Addr} {xs:List V} (h:SqT K H a xs):TyQ K H (.ref a) (.type "tuple")
 |lst {a:Addr} {xs:List V} (h:SqL K H a xs):TyQ K H (.ref a) (.type "list")
section
variable {X:Cx} {pins:List (Addr × Obj)} {σ:St} {H:Hp} {s:Shared} {A:Around} {E:Value->Shared->Prop} {Q:Value->Shared->Prop} {c:Value} {b:Bool}
theorem Ey {x:V}{u t:Value}(I:Inv X pins σ H s)(rx:bS x u)(ty:TyQ X.K H x t)(e:W.kitOne X.K t c=some b)(h:∀tk,Q (.bool b) { s with toks:=tk }) :
  wpAny (model X.prog X.w) A (call (.builtin "isinstance") [u,c]) Q E s:=by
 cases ty with
 |of ty=>exact Ib I rx ty e h
 | @tup a xs ht=>
  cases (show u=Value.ref a from rx)
  obtain⟨its,_,p,_⟩:=I.tuple ht;obtain⟨o,h1,h2,_⟩:=p;exact W.kia_one W.kitx_tuple I.kIn ⟨o,h1,h2⟩ e (fun z=>nomatch z) h
 | @lst a xs ht=>
  cases (show u=Value.ref a from rx)
  obtain⟨its,_,p,_⟩:=I.list ht;obtain⟨o,h1,h2,_⟩:=p.isList;exact W.kia_one W.kitx_list I.kIn ⟨_,h1,h2⟩ e (fun z=>nomatch z) h
end
section
variable {X:Cx}
theorem Il:fK X (.builtin "isinstance") (fun xs H Q=>∃x n t b,xs=[x,.ty n]/\TyQ X.K H x t/\W.kitOne X.K t (.type n)=some b/\Q (.bl b) H):=by
 intro pins s σ H vs us Q I rv h;obtain⟨x,n,t,b,rfl,ty,e,q⟩:=h;obtain⟨u,u2,rfl,r1,r2⟩:=uH rv
 cases (show u2=Value.type n from r2)
 exact Ey I r1 ty e fun tk=>⟨.bl b,H,I.tok tk,rfl,q⟩
theorem fG {i:Nat}{x T:Str}{T':String}{p1 p2 p3 pos:Pos}(hN:X.N[i]?=some x)(hv:Vis X.env.scope x)(b:X.mg "isinstance"=none)(b2:X.mg T=none)(g1:Gl X "isinstance")(g2:Gl X T)(hT:bootBuiltins T=some (.type T'))(hd:(x == ("__debug__":Str))=false:=by decide)(hcd:(x == ("__classdict__":Str))=false:=by decide)(hTn:T≠"__name__":=by decide)(hTd:(T == ("__debug__":Str))=false:=by decide)(he:starEach [.Name x p2,.Name T p3] X.env=(false,eval (.Name x p2) X.env) :: starEach [.Name T p3] X.env:=by rfl)(he2:starEach [.Name T p3] X.env=(false,eval (.Name T p3) X.env) :: starEach [] X.env:=by rfl)(hpl:(backTo pos (starEach [.Name T p3] X.env)).any (·.1)=false:=by rfl) :
  PE X (.Call (.Name "isinstance" p1) [.Name x p2,.Name T p3] [] pos) (fun σ H Q=>∃v t b,σ[i]?=some (some v)/\TyQ X.K H v t/\W.kitOne X.K t (.type T')=some b/\Q (.bl b) H):=by
 have h:=bH (X:=X) (pos:=pos) (p:=p1) Il g1 b PyProof.Rows.boot_isinstance (aA (Mt (i:=i) (pos:=p2) hN hv hd hcd) (aA (Qp (v:=.ty T') (pos:=p3) g2 b2 hT rfl hTn hTd) aC he2) he) (by decide) (by decide) he hpl;intro pins s σ H Q I q;obtain⟨v,t,bb,h1,h2,h3,h4⟩:=q;exact h pins s σ H Q I ⟨v,h1,v,T',t,bb,rfl,h2,h3,h4⟩
end
theorem SqL.upd {K:Frag}{H:Hp}{a l:Addr}{xs:List V}{o:HO}(h:SqL K H a xs)(ne:a≠l):SqL K (L2.upd H l o) a xs:=by
 rcases h with (h | ⟨u,h⟩) | h
 ·exact .inl (.inl (by rw[aM ne];exact h))
 ·exact .inl (.inr ⟨u,by rw[aM ne];exact h⟩)
 ·exact .inr h
theorem SqT.upd {K:Frag}{H:Hp}{a l:Addr}{xs ys:List V}{o:HO}(h:SqT K H a xs)(hl:H l=some (.lst ys)):SqT K (L2.upd H l o) a xs:=by
 rcases h with (h | ⟨u,h⟩) | h
 ·exact .inl (.inl (by rw[aM (kN h hl (fun z=>by cases z))];exact h))
 ·exact .inl (.inr ⟨u,by rw[aM (kN h hl (fun z=>by cases z))];exact h⟩)
 ·exact .inr h
theorem pD {K:Frag}{H:Hp}:∀ns:List Int,rB K H (ns.map V.int) (ns.map PyData.int)
 | []=>.nil
 |n :: r=>.cons (.int n) (pD r)
theorem pK:∀ns:List Int,PyData.canLayAll0 (ns.map PyData.int)=true
 | []=>rfl
 |n :: r=>by
  show ((PyData.int n).canLay0 && PyData.canLayAll0 (r.map PyData.int))=true;rw[pK r];rfl
theorem uX (ns:List Int)(lo hi:Option Int):∃ms:List Int,jR (ns.map V.int) lo hi=ms.map V.int/\ms.length<=ns.length:=by
 refine⟨(ns.drop (HT.sIx (ns.map V.int).length 0 lo)).take (HT.sIx (ns.map V.int).length (ns.map V.int).length hi - HT.sIx (ns.map V.int).length 0 lo),?_,?_⟩
 ·unfold jR;rw[map_take,map_drop]
 ·rw[length_take,length_drop];lia
theorem iT {fr:List Nat}{σ:St}{x y:V}:(((σC 2 fr σ).set 0 (some x)).set 1 (some y)).length=(σC 2 fr σ).length/\∀(i:Nat) v,(σC 2 fr σ)[i]?=some (some v)->(((σC 2 fr σ).set 0 (some x)).set 1 (some y))[i]?=some (some v):=by
 refine⟨by simp,fun i v h=>?_⟩
 match i with
 |0=>unfold σC at h;simp at h
 |1=>unfold σC at h;simp at h
 |k+2=>rw[getElem?_set_ne (by lia),getElem?_set_ne (by lia)];exact h
theorem Fqs.set {K:Frag}{H:Hp}{a:Addr}{p:Mq.Q2}(h:Fq K H a p):∀{xs:List V} {ps:List Mq.Q2} (i:Nat),Fqs K H xs ps->Fqs K H (xs.set i (.ref a)) (ps.set i p)
 |_,_,_,.nil=>.nil
 |_,_,0,.cons _ q=>.cons h q
 |_,_,i+1,.cons g q=>.cons g (Fqs.set h i q)
theorem Fqs.at {K:Frag}{H:Hp}:∀{xs:List V} {ps:List Mq.Q2} {i:Nat} {p:Mq.Q2},Fqs K H xs ps->ps[i]?=some p->∃a,xs[i]?=some (.ref a)/\Fq K H a p
 |_,_,_,_,.nil,h=>by simp at h
 |_,_,0,_,.cons h _,e=>by simp at e;subst e;exact⟨_,rfl,h⟩
 |_,_,i+1,_,.cons _ q,e=>by simpa using Fqs.at q (by simpa using e)
theorem qb0 {n:Nat}{i:Int}(lo:-(2 ^ n:Int) < i)(hi:i < 2 ^ n):Mq.B n i:=by
 unfold Mq.B;have e:((2 ^ n:Nat):Int)=2 ^ n:=by simp
 lia
theorem pH {n k:Nat}(h:k < n):ixN n (k:Int)=some k:=by
 unfold ixN;rw[if_pos (by lia),if_pos (by lia)];simp
section
variable {X:Cx} {tg:Expr}
def qe5 (K:Frag):List V->Hp->VK->Prop:=fun xs H Q=>∃(p:Addr) (bs:List Bool),xs=[.ref p]/\SqL K H p (bs.map V.bl)/\Q (.bl (bs.all id)) H
theorem Lu (hc:X.calm=true):fK X (.builtin "all") (qe5 X.K):=by
 intro pins s σ H xs us Q I r h;obtain⟨p,bs,rfl,hq,q⟩:=h;obtain⟨u,rfl,rx⟩:=mL r
 cases rx
 obtain⟨its,rv,pl,hz⟩:=I.list hq;have hlen:its.toArray.size=bs.length:=by rw[size_toArray,<- rv.length,length_map]
 have hne:p≠s.heap.objs.size:=by
  obtain⟨o,e,_⟩:=pl.isList;exact Nat.ne_of_lt (Heap.lt_size e)
 refine call_all_walk (wpAny_pyIter_list pl.isList ?_);refine⟨s.heap.objs.size,_,_,_,_,_,fun i=>bs.getD i false,rfl,Walks.list (by exact I.ok.hd hc) s.heap.objs.size p hne its.toArray,⟨⟨_,Heap.get?_push_size _ rfl,rfl,rfl⟩,?_⟩,?_,?_⟩
 ·obtain⟨o,e,c⟩:=pl.isList;exact⟨o,Heap.get?_push_of_some _ e,c⟩
 ·intro i v s' Q' E' hv q';have hv':its[i]?=some v:=by simpa using hv
  have hi:i < its.length:=(List.getElem?_eq_some_iff.mp hv').1;have hb:(bs.map V.bl)[i]?=some (.bl (bs.getD i false)):=by
   rw[getElem?_map,getElem?_eq_getElem (by rw[<- hlen];simpa using hi)];simp[getD,getElem?_eq_getElem (show i < bs.length by rw[<- hlen];simpa using hi)]
  obtain⟨u,hu,ru⟩:=rv.get hb;have e:u=v:=by rw[hv'] at hu;cases hu;rfl
  subst e
  cases ru
  exact wpAny_truthy_bool q'
 ·intro h' tk kk;have e:(List.range its.toArray.size).all (fun i=>bs.getD i false)=bs.all id:=by
   rw[hlen,Bool.eq_iff_iff,all_eq_true,all_eq_true];constructor
   ·intro z b hb;obtain⟨i,hi,rfl⟩:=getElem_of_mem hb;have:=z i (mem_range.mpr hi);simpa[getD,getElem?_eq_getElem hi] using this
   ·intro z i hi;have hi':=mem_range.mp hi;have:=z bs[i] (getElem_mem hi');simpa[getD,getElem?_eq_getElem hi'] using this
  rw[e];refine⟨.bl _,H,I.kept (t':=tk) fun b o hb=>?_,rfl,q⟩;have hb2:b≠s.heap.objs.size:=Nat.ne_of_lt (Heap.lt_size hb);exact kk b o (by simpa using hb2) (Heap.get?_push_of_some _ hb)
end
def Yk {ι:Type}(C:ι->Addr)(m:Str)(sp:ι->Sp)(dvs:List V)(E:XK)(ta:TE)(t:TA):TE:=fun σ H Q=>ta σ H fun x H1=>∃i a dx fs,x=.ref a/\H1 a=some (.ins (C i) dx fs)/\fs.lookup m=none/\
 t σ H1 fun vs H2=>sp i (x :: (vs++dvs)) H2 Q E
section
variable {X:Cx} {ι:Type} {C f:ι->Addr} {fd:ι->FuncData} {sp:ι->Sp} {m:Str} {CX:CXT} {k:Nat} {ps:List Str} {ds:List Value} {dvs:List V} {E:XK} {o e:Expr} {es:List Expr} {ta:TE} {t:TA} {apos pos:Pos}
theorem jJ {pl:Sem Bool}(he:PE X o ta)(c:∀i,Cls X.K (C i))(hm:∀i,iB X.K (C i) m (f i))(F:∀i,aJ X.prog X.w X.K X.mg X.base CX k (f i) (fd i) ps (sp i))(hr:fQ k X.A)(hb:∀i,aP X.K (fd i) ps ds)(hd:bL dvs ds)(hx:kB CX X E)(ht:eval (.Call (.Attribute o m apos) [] [] pos) X.env=(do
   let ov <- eval o X.env
   standAt apos.atName
   let (f,first) <- holding [ov] (getMethod ov m pl)
   callWith pos f first (backTo pos (starEach [] X.env)) (backToKw pos (keywordEach [] X.env))):=by rfl) :
  PE X (.Call (.Attribute o m apos) [] [] pos) (Yk C m sp dvs E ta Sy):=by
 intro pins s σ H Q I h;refine W.methodCall_KW (pl:=pl) (thn (he pins s σ H _ I h) fun u s1 ⟨x,H1,I1,rx,i,a,dx,fs,ex,ea,l,q⟩=>?_) ht;subst ex;obtain rfl:u=Value.ref a:=rx;refine nC I1 ea (c i) (hm i) l ?_;exact W.callWith_K0 (first:=[.ref a]) I1.kIn (hm i).kp (yF (us:=[.ref a]) (vs:=[.ref a]) (F i) hr (hb i) hd hx I1 (.cons rfl .nil) q)
end
inductive Kd where
 |pc | pu | ho
 deriving DecidableEq
def Kd.wd:Kd->Str
 | .pc=>"piece"
 | .pu=>"push"
 | .ho=>"hold"
def Kd.cn:Kd->Str
 | .pc=>"Piece"
 | .pu=>"Push"
 | .ho=>"Hold"
theorem Kd.wd_inj {k j:Kd}(h:k.wd=j.wd):k=j:=by
 cases k<;>cases j<;>first | rfl | exact absurd h (by decide +kernel)
theorem fsg:¬(("start":Str) = "goal"):=by decide +kernel
theorem fsz:¬(("start":Str) = "size"):=by decide +kernel
theorem fgz:¬(("goal":Str) = "size"):=by decide +kernel
def mQ (s g z:V):List (Str × V):=dG "size" z (dG "goal" g (dG "start" s []))
theorem gP (s g z:V):(mQ s g z).lookup ("start":Str)=some s:=by
 unfold mQ;rw[bA,if_neg fsz,bA,if_neg fsg,bA,if_pos rfl]
theorem iG (s g z:V):(mQ s g z).lookup ("goal":Str)=some g:=by
 unfold mQ;rw[bA,if_neg fgz,bA,if_pos rfl]
theorem jO (s g z:V):(mQ s g z).lookup ("size":Str)=some z:=by
 unfold mQ;rw[bA,if_pos rfl]
theorem jC (s g z:V){m:Str}(h1:¬m = "start")(h2:¬m = "goal")(h3:¬m = "size"):(mQ s g z).lookup m=none:=by
 unfold mQ;rw[bA,if_neg h3,bA,if_neg h2,bA,if_neg h1];rfl
def Rw (CK:Kd->Addr)(H:Hp)(x:Addr)(k:Kd)(s g z:V):Prop:=∃dx,H x=some (.ins (CK k) dx (mQ s g z))
theorem Rw.same {CK:Kd->Addr}{H H':Hp}{x:Addr}{k:Kd}{s g z:V}(e:aK H H')(h:Rw CK H x k s g z):Rw CK H' x k s g z:=let ⟨dx,q⟩:=h;⟨dx,e _ _ q⟩
theorem Rw.upd {CK:Kd->Addr}{H:Hp}{x l:Addr}{k:Kd}{s g z:V}{ys:List V}{o:HO}(h:Rw CK H x k s g z)(hl:H l=some (.lst ys)):Rw CK (L2.upd H l o) x k s g z:=let ⟨dx,q⟩:=h;⟨dx,by rw[aM (kN q hl (fun z=>by cases z))];exact q⟩
structure RT (K:Frag) (mg:Str->Option Value) (CR:Addr) (CK:Kd->Addr):Prop where
 cl:∀k,Cls K (CK k)
 nS:∀k,gB K (CK k) "start"
 nG:∀k,gB K (CK k) "goal"
 nZ:∀k,gB K (CK k) "size"
 t1:∀k,W.findIn K (.ref (CK k)) "__class__"=some (some (.builtin "object.__class__"))
 t2:W.specialIn K (.builtin "object.__class__") "__get__"=some (some (.builtin "getset_descriptor.__get__"))
 t3:W.takesIn K (.builtin "object.__class__")=some true
 t4:∀k,W.mroIn K (CK k) (.type "object")=some true
 isR:∀k,W.kitOne K (.ref (CK k)) (.ref CR)=some true
 isK:∀k j,W.kitOne K (.ref (CK k)) (.ref (CK j))=some (decide (k=j))
 mR:mg "Row"=some (.ref CR)
 mK:∀k,mg (Kd.cn k)=some (.ref (CK k))
section
variable {K:Frag} {mg:Str->Option Value} {CR:Addr} {CK:Kd->Addr} {H:Hp} {x:Addr} {k:Kd} {s g z:V}
theorem Rw.new {C x dx:Addr}{fs:List (Str × V)}(h1:H x=none)(h2:H dx=none)(ne:dx≠x):aK H (L2.upd (L2.upd H dx (.own x)) x (.ins C dx fs)):=fun b o e=>by
 rw[aM (bB e h1),aM (bB e h2)];exact e
end
def Hy (CK:Kd->Addr):Sp:=fun vs H Q _=>∃(x dx:Addr) (k:Kd) (s g z:V),vs=[.ref x,s,g,z]/\H x=some (.ins (CK k) dx [])/\Q .non (upd H x (.ins (CK k) dx (mQ s g z)))
def kU (k:Kd):Sp:=fun vs H Q _=>∃x,vs=[x]/\Q (.str k.wd) H
def oG (k:Kd):Sp:=fun vs H Q _=>∃x,vs=[x]/\Q (.bl (decide (k≠.pu))) H
def yI (CK:Kd->Addr):Sp:=fun vs H Q _=>∃(x:Addr) (k:Kd) (s g z:V),vs=[.ref x]/\Rw CK H x k s g z/\∀t,H t=none->Q (.ref t) (upd H t (.tup [.str k.wd,s,g,z]))
def qh1 (CK:Kd->Addr)(H:Hp)(Q:VK)(k:Kd)(s g z:V):Prop:=∀x H',aK H H'->H x=none->Rw CK H' x k s g z->Q (.ref x) H'
theorem Fd {K:Frag}{H:Hp}{x y:V}{d:PyData}{neg:Bool}{Q:VK}(h1:mE K H x d)(h2:mE K H y d)(hl:d.canLay0=true)(hd:d.depth<=16)(z:Q (.bl (!neg)) H):Jc K neg x y H Q:=by
 refine⟨d,d,h1,h2,hl,hl,by lia,?_⟩;have e:PyData.eqv d d=true:=PySem.SeqAt.eqv_refl _ hl;rw[e]
 cases neg<;>exact z
def rd4 (w:Str)(i j:Int)(p:Mq.Q2):PyData:=.tuple [.str w,.int i,.int j,qd p]
theorem Tc {w:Str}(h:(PyData.str w).canLay0=true)(i j:Int)(p:Mq.Q2):(rd4 w i j p).canLay0=true:=by
 show ((PyData.str w).canLay0 && ((PyData.int i).canLay0 && ((PyData.int j).canLay0 && ((qd p).canLay0 && true))))=true;rw[h];rfl
theorem Kd.lay (k:Kd):(PyData.str k.wd).canLay0=true:=by cases k<;>decide +kernel
theorem ifT {c:Bool}{A B:Prop}(h:c=true)(x:A):if c=true then A else B:=by rw[if_pos h];exact x
theorem ifF {c:Bool}{A B:Prop}(h:c=false)(x:B):if c=true then A else B:=by rw[if_neg (by rw[h];decide)];exact x
theorem Ub {K:Frag}{H:Hp}{t a:Addr}{w:Str}{i j:Int}{p:Mq.Q2}(h:SqT K H t [.str w,.int i,.int j,.ref a])(f:Fq K H a p):mE K H (.ref t) (rd4 w i j p):=.tup h (.cons (.str _) (.cons (.int _) (.cons (.int _) (.cons f.dat .nil))))
theorem eS (k j:Kd):decide (V.str k.wd=V.str j.wd)=decide (k=j):=by
 by_cases h:k=j
 ·subst h;simp
 ·rw[decide_eq_false h];exact decide_eq_false fun z=>h (Kd.wd_inj (V.str.inj z))
theorem jB.same {K:Frag}{H H':Hp}(s:aK H H'){x:V}{t:Value}(h:jB K H x t):jB K H' x t:=by
 cases h with
 |non=>exact .non
 |bl b=>exact .bl b
 |int i=>exact .int i
 |str y=>exact .str y
 |flt y=>exact .flt y
 |lst e=>exact .lst (s _ _ e)
 |frz e=>exact .frz (s _ _ e)
 |tup e=>exact .tup (s _ _ e)
 |dK e=>exact .dK (s _ _ e)
 |dT e=>exact .dT (s _ _ e)
 |ins e cl ha hn htk hm=>exact .ins (s _ _ e) cl ha hn htk hm
theorem TyQ.same {K:Frag}{H H':Hp}(s:aK H H'){x:V}{t:Value}(h:TyQ K H x t):TyQ K H' x t:=by
 cases h with
 |of h=>exact .of (h.same s)
 |tup h=>exact .tup (s.seqT h)
 |lst h=>exact .lst (s.seq h)
theorem jD {p:Kd->Prop}(a:p .pc)(b:p .pu)(c:p .ho):∀k,p k:=fun k=>by cases k<;>assumption
theorem uM (K:Frag)(t:PySem.Value):PySem.W.kitOne K t t=some true:=by unfold PySem.W.kitOne;rw[if_pos (beq_self_eq_true _)]
def kd3 {α:Type}(a b c:α):Kd->α
 | .pc=>a
 | .pu=>b
 | .ho=>c
end L2
namespace Mq
def pU (ps:List Q2):Prop:=∀p∈ps,Low p
end Mq
namespace L2
open PySem PySem.Spec PyProof.Rows
section
variable {κ:Type} [DecidableEq κ]
def jY (kvs:List (κ × V))(k:κ):Option V:=(kvs.find? fun kv=>decide (kv.1=k)).map (·.2)
def rP (kvs:List (κ × V))(k:κ)(v:V):List (κ × V):=
 if (kvs.any fun kv=>decide (kv.1=k))=true then kvs.map (fun kv=>if kv.1=k then (kv.1,v) else kv) else kvs++[(k,v)]
theorem uP {p:κ × V}{r:List (κ × V)}{k:κ}(e:p.1=k):jY (p :: r) k=some p.2:=by simp[jY,find?_cons,e]
theorem sS {p:κ × V}{r:List (κ × V)}{k:κ}(e:¬p.1=k):jY (p :: r) k=jY r k:=by simp[jY,find?_cons,e]
theorem qZ (kvs:List (κ × V))(k:κ)(v:V):(rP kvs k v).length<=kvs.length+1:=by
 unfold rP;split
 ·rw[length_map];lia
 ·rw[List.length_append,length_cons,length_nil];lia
theorem iZ.isSome_eq {o:Option V}{u:Option Value}(r:iZ o u):o.isSome=u.isSome:=by
 cases o with
 |none=>cases u with
  |none=>rfl
  |some _=>exact(show False from r).elim
 |some _=>cases u with
  |none=>exact(show False from r).elim
  |some _=>rfl
theorem KV.val {kvs:List (κ × V)}{vs:List (κ × Value)}(r:KV kvs vs)(k:κ):iZ (jY kvs k) (valueAt vs k):=by
 unfold KV at r
 induction r with
 |nil=>exact True.intro
 | @cons p q ps qs h t ih=>
  obtain⟨h1,h2⟩:=h
  by_cases e:p.1=k
  ·have e':q.1=k:=h1.symm.trans e;have b:valueAt (q :: qs) k=some q.2:=by simp[valueAt,find?_cons,e']
   rw[uP e,b];exact h2
  ·have e':¬q.1=k:=fun z=>e (h1.trans z);have b:valueAt (q :: qs) k=valueAt qs k:=by simp[valueAt,find?_cons,e']
   rw[sS e,b];exact ih
theorem KV.any {kvs:List (κ × V)}{vs:List (κ × Value)}(r:KV kvs vs)(k:κ):(kvs.any fun kv=>decide (kv.1=k))=vs.any fun kv=>decide (kv.1=k):=by
 unfold KV at r
 induction r with
 |nil=>rfl
 |cons h t ih=>rw[any_cons,any_cons,ih,h.1]
theorem KV.repl {kvs:List (κ × V)}{vs:List (κ × Value)}(r:KV kvs vs)(k:κ){y:V}{u:Value}(ry:bS y u) :
  KV (kvs.map fun kv=>if kv.1=k then (kv.1,y) else kv) (vs.map fun kv=>if kv.1=k then (kv.1,u) else kv):=by
 unfold KV at r ⊢
 induction r with
 |nil=>exact .nil
 | @cons p q ps qs h t ih=>
  rw[map_cons,map_cons];refine .cons ?_ ih;obtain⟨h1,h2⟩:=h
  by_cases e:p.1=k
  ·rw[if_pos e,if_pos (h1.symm.trans e)];exact⟨h1,ry⟩
  ·rw[if_neg e,if_neg (fun z=>e (h1.trans z))];exact⟨h1,h2⟩
theorem KV.put {kvs:List (κ × V)}{vs:List (κ × Value)}(r:KV kvs vs)(k:κ){y:V}{u:Value}(ry:bS y u):KV (rP kvs k y) (stored vs k u):=by
 unfold rP stored;rw[r.any k]
 by_cases e:(vs.any fun kv=>decide (kv.1=k))=true
 ·rw[if_pos e,if_pos e];exact r.repl k ry
 ·rw[if_neg e,if_neg e];exact Paired.snoc r ⟨rfl,ry⟩
theorem KV.length {kvs:List (κ × V)}{vs:List (κ × Value)}(r:KV kvs vs):kvs.length=vs.length:=Paired.length r
end
theorem Ge {P:Program}{w:World}{k:Key}{u:Value}(r:bS (kV k) u):(dD P w).is k u=true:=by
 cases k with
 |inl i=>obtain⟨t,e⟩:=(show ∃t,u=Value.int i t from r);subst e;exact Cc P w i t
 |inr x=>obtain⟨t,e⟩:=(show ∃t,u=Value.str x t from r);subst e;exact Bi P w x t
theorem wB {P:Program}{w:World}:∀{ks:List Key} {us:List Value},bL (ks.map kV) us->ItemsAre (dD P w) ks us
 | [],_,r=>by rw[map_nil] at r;cases r;exact .nil
 |k :: ks,_,r=>by
  rw[map_cons] at r
  cases r with
  |cons h t=>exact .cons (Ge h) (wB t)
abbrev KT (H:Hp):List (List Key × V)->List (List Key × Addr × Value)->Prop:=Paired fun p q=>p.1=q.1/\H q.2.1=some (.tup (p.1.map kV))/\bS p.2 q.2.2
theorem KT.val {H:Hp}{kvs:List (List Key × V)}{xs:List (List Key × Addr × Value)}(r:KT H kvs xs)(k:List Key):iZ (jY kvs k) ((atKey xs k).map (·.2)):=by
 induction r with
 |nil=>exact True.intro
 | @cons p q ps qs h t ih=>
  obtain⟨h1,_,h2⟩:=h
  by_cases e:p.1=k
  ·have e':q.1=k:=h1.symm.trans e;have b:atKey (q :: qs) k=some q.2:=by simp[atKey,find?_cons,e']
   rw[uP e,b];exact h2
  ·have e':¬q.1=k:=fun z=>e (h1.trans z);have b:atKey (q :: qs) k=atKey qs k:=by simp[atKey,find?_cons,e']
   rw[sS e,b];exact ih
section
variable {P:Program} {w:World} {H:Hp} {h:Heap} {a:Addr}
theorem Uw {u:HO}(ok:HOk P w H h)(e:Rd H a u):cD P w H h a u:=e.ok ok
theorem Fh {kvs:List (Key × V)}(ok:HOk P w H h)(e:Rd H a (.dK kvs)):kvs.length<=sizeLine/\(a == sysModules)=false/\∃vs,KV kvs vs/\h.DictOf (dD P w) a vs:=
 show cD P w H h a (.dK kvs) from Uw ok e
theorem Lj {kvs:List (Key × V)}(ok:HOk P w H h)(e:H a=some (.dK kvs)):kvs.length<=sizeLine/\(a == sysModules)=false/\∃vs,KV kvs vs/\h.DictOf (dD P w) a vs:=Fh ok (.inl e)
theorem Oh {ks:List Key}(ok:HOk P w H h)(e:H a=some (.tup (ks.map kV))):(tupleKind (dD P w)).is h ks a:=by
 obtain⟨_,its,r,o,h1,h2,n,h3⟩:=(show cD P w H h a (.tup (ks.map kV)) from ok a _ e)
 exact⟨o,its.toArray,n,h1,h2,h3,by simpa using wB r⟩
theorem Ov {kvs:List (List Key × V)}(ok:HOk P w H h)(e:Rd H a (.dT kvs)):kvs.length<=sizeLine/\(a == sysModules)=false/\
  ∃xs,KT H kvs xs/\h.DictOfH (tupleKind (dD P w)) a xs:=by
 obtain⟨z,y,xs,r,o,es,ep,h1,h2,h3,h4,h5⟩:=(show cD P w H h a (.dT kvs) from Uw ok e)
 refine⟨z,y,xs,r,o,es,ep,h1,h2,h3,h4,fun x hx=>?_,h5⟩;have all:∀{l:List (List Key × V)} {m:List (List Key × Addr × Value)},KT H l m->∀x∈m,(tupleKind (dD P w)).is h x.1 x.2.1:=by
  intro l m q
  induction q with
  |nil=>intro x hx;exact nomatch hx
  | @cons p q ps qs hq t ih=>
   intro x hx;rcases mem_cons.mp hx with e | hx
   ·subst e;exact Oh ok (by rw[<- hq.1];exact hq.2.1)
   ·exact ih x hx
 exact all r x hx
end
def qC (H:Hp)(a:Addr)(y:V)(r:Option V):Prop:=
 (∃kvs k,Rd H a (.dK kvs)/\y=kV k/\r=jY kvs k)\/∃kvs k b,Rd H a (.dT kvs)/\y=.ref b/\H b=some (.tup (k.map kV))/\r=jY kvs k
theorem qC.k {H:Hp}{a:Addr}{kvs:List (Key × V)}{k:Key}(e:H a=some (.dK kvs)):qC H a (kV k) (jY kvs k):=.inl ⟨kvs,k,.inl e,rfl,rfl⟩
section
variable {X:Cx} {pins:List (Addr × Obj)} {σ:St} {H:Hp} {s:Shared} {a:Addr} {y v:V} {u r:Value} {o:Option V} {A:Around} {E:Value->Shared->Prop}
theorem Inv.big (I:Inv X pins σ H s):sysModules < s.heap.objs.size:=by
 have h:mainGlobals < s.heap.objs.size:=(I.mod.glob.keeps I.bk).lt;exact Nat.lt_trans (by decide) h
theorem Jj {Q:Value->Shared->Prop}(hu:A.units+1 < cLine)(I:Inv X pins σ H s)(g:qC H a y (some v))(ry:bS y u)(h:∀w' s',Inv X pins σ H s'->bS v w'->Q w' s') :
  wpAny (model X.prog X.w) A (getItem (.ref a) u) Q E s:=by
 rcases g with ⟨kvs,k,e,ey,l⟩ | ⟨kvs,k,b,e,ey,eb,l⟩
 ·subst ey;obtain⟨z,hd,vs,rel,dd⟩:=Fh I.hok e;obtain⟨w',hw,rw'⟩:=iZ.some_of (v:=v) (o:=valueAt vs k) (by rw[l];exact rel.val k);exact wpAny_getItem_of (Ge ry) dd.mapOf hw (h w' _ (I.tok _) rw')
 ·subst ey
  cases (show u=Value.ref b from ry)
  obtain⟨z,hd,xs,rel,dd⟩:=Ov I.hok e;obtain⟨w',hw,rw'⟩:=iZ.some_of (v:=v) (o:=(atKey xs k).map (·.2)) (by rw[l];exact rel.val k);obtain⟨p,hp,hp2⟩:=Option.map_eq_some_iff.mp hw;refine wpAny_getItem_heap (tupleKind_room_in1 hu) (Oh I.hok eb) dd hp ?_;rw[hp2];exact h w' _ (I.tok _) rw'
theorem Hh {h':Heap}{t':Nat}{ob:HO}(I:Inv X pins σ H s)(mu:Mut (H a))(hs:Heap.SameBut a s.heap h')(he:∃q,h'.get? a=some q)(new:cD X.prog X.w (upd H a ob) h' a ob) :
  Inv X pins σ (upd H a ob) { s with heap:=h',toks:=t' }:=
 I.write (x:=a) (e:=a) mu (.inl rfl) (fun b q hb z=>(hs.2 b hb).trans z) he new
theorem Nd {P:Program}{w:World}{H':Hp}{h':Heap}{kvs:List (Key × V)}{vs:List (Key × Value)}(z:kvs.length<=sizeLine)(hd:(a == sysModules)=false)(rel:KV kvs vs)(dd:h'.DictOf (dD P w) a vs) :
  cD P w H' h' a (.dK kvs):=⟨z,hd,vs,rel,dd⟩
end
def qa6 (i:Expr):Prop:=∀ov iv,subscripted i false ov iv=operate [ov,iv] (getItem ov iv)
theorem Uf {prog:Program}{w:World}{A:Around}{E:Value->Shared->Prop}{s:Shared}{env:Env}{value slice:Expr}{pos:Pos}{T id:String}{Q:Value->Shared->Prop}(hl:typeLookup (.type T) "__getitem__"=pure (some (.builtin id)))(hs:qa6 slice)(h:wpAny (model prog w) A (eval value env) (fun o s₁=>wpAny (model prog w) A (eval slice env) (fun i s₂=>s₂.TypeIs o T/\wpAny (model prog w) A (getItem o i) Q E s₂) E s₁) E s) :
  wpAny (model prog w) A (eval (.Subscript value slice pos) env) Q E s:=by
 refine Subscript_ (wpAny_mono h (fun o s₁ h₁=>wpAny_mono h₁ (fun i s₂ h₂=>?_) fun _ _ x=>x) fun _ _ x=>x);obtain⟨hT,h₂⟩:=h₂;unfold subscriptTail;refine wpAny_bind ?_;rw[getitemInPython_of_ne hT.not_modules];refine wpAny_bind (wpAny_specialOf hT hl ?_);have fin:wpAny (model prog w) A (subscripted slice false o i) (fun r s₃=>wpAny (model prog w) A (letTemporaryGo value o r >>= fun _=>pure r) Q E s₃) E s₂:=by
  rw[hs o i];exact wpAny_operating (wpAny_mono h₂ (fun r s₃ h₃=>wpAny_bind (wpAny_letTemporaryGo (wpAny_pure h₃))) fun _ _ x=>x)
 first
  |exact wpAny_pure (wpAny_bind fin)
  |exact wpAny_bind (wpAny_pure (wpAny_bind fin))
  |exact wpAny_bind fin
theorem Bu {X:Cx}{pins:List (Addr × Obj)}{σ:St}{H:Hp}{s:Shared}{a:Addr}{y:V}{o:Option V}(I:Inv X pins σ H s)(g:qC H a y o):s.TypeIs (.ref a) "dict":=by
 rcases g with ⟨kvs,k,e,_,_⟩ | ⟨kvs,k,b,e,_,_,_⟩
 ·obtain⟨_,_,vs,_,dd⟩:=Fh I.hok e;exact dd.typeIs
 ·obtain⟨_,_,xs,_,dd⟩:=Ov I.hok e;exact dd.typeIs
def Zy (td ty:TE):TE:=fun σ H Q=>td σ H fun x H1=>ty σ H1 fun y H2=>∃a v,x=.ref a/\qC H2 a y (some v)/\Q v H2
section
variable {X:Cx} {o i e value:Expr} {pos pos' tpos:Pos} {td ty tv:TE}
theorem oJ (hu:X.A.units+1 < cLine)(ho:PE X o td)(hi:PE X i ty)(hs:qa6 i):PE X (.Subscript o i pos) (Zy td ty):=by
 intro pins s σ H Q I h;refine Uf PySem.F.slot_dict_getitem.lookup hs (thn (ho pins s σ H _ I h) fun u s1 ⟨x,H1,I1,rx,q1⟩=>thn (hi pins s1 σ H1 _ I1 q1) fun iv s2 ⟨y,H2,I2,ry,a,v,ex,g,q2⟩=>?_);subst ex;obtain rfl:u=Value.ref a:=rx;exact⟨Bu I2 g,Jj hu I2 g ry fun w' s3 I3 rw'=>⟨v,H2,I3,rw',q2⟩⟩
end
theorem Bf {P:Program}{w:World}{H:Hp}(h:Heap)(hb:sysModules < h.objs.size):cD P w H (h.push { cls:=.type "dict",data:=.dict #[] }) h.objs.size (.dK []):=
 ⟨Nat.zero_le _,beq_eq_false_iff_ne.mpr (Ne.symm (Nat.ne_of_lt hb)),[],.nil,Heap.DictOf.new h⟩
def Yz:TE:=fun _ H Q=>∀p,H p=none->Q (.ref p) (upd H p (.dK []))
section
variable {X:Cx} {pos:Pos}
theorem Nf:PE X (.Dict [] [] pos) Yz:=fun pins s σ H Q I h=>
 wpAny_Dict_empty ⟨.ref s.heap.objs.size,_,I.laid (a:=s.heap.objs.size) (o:=.dK []) (t':=s.toks) (fun _ _ q=>Heap.get?_push_of_some _ q) (Nat.le_refl _) (Bf s.heap I.big),rfl,h _ (I.hok.fresh (Nat.le_refl _))⟩
end
def Cl:List (TE × TE)->St->Hp->(List (V × V)->Hp->Prop)->Prop
 | [],_,H,Q=>Q [] H
 | (tk,tv) :: r,σ,H,Q=>tk σ H fun x H1=>tv σ H1 fun y H2=>Cl r σ H2 fun ps H3=>Q ((x,y) :: ps) H3
abbrev VV:List (V × V)->List (Value × Value)->Prop:=Paired fun p q=>bS p.1 q.1/\bS p.2 q.2
def PPs (X:Cx)(pos:Pos)(keys:List (Option Expr))(values:List Expr)(trs:List (TE × TE)):Prop:=
 ∀(pins:List (Addr × Obj)) (s:Shared) (σ:St) (H:Hp) (Q:List (V × V)->Hp->Prop),Inv X pins σ H s->Cl trs σ H Q->
  wpAny (model X.prog X.w) X.A (evalPairs (pairTrees keys values X.env pos)) (fun vs s'=>∃ps H',Inv X pins σ H' s'/\VV ps vs/\Q ps H') X.xe s
theorem Ha {X:Cx}{pos:Pos}:PPs X pos [] [] []:=fun pins s σ H Q I h=>pairTrees_nil_walk ⟨[],H,I,.nil,h⟩
theorem kQ {X:Cx}{pos:Pos}{k v:Expr}{ks:List (Option Expr)}{vs:List Expr}{tk tv:TE}{trs:List (TE × TE)}(hk:PE X k tk)(hv:PE X v tv)(hr:PPs X pos ks vs trs) :
  PPs X pos (some k :: ks) (v :: vs) ((tk,tv) :: trs):=fun pins s σ H Q I h=>
 pairTrees_cons_walk (thn (hk pins s σ H _ I h) fun u s1 ⟨x,H1,I1,rx,q1⟩=>thn (hv pins s1 σ H1 _ I1 q1) fun w2 s2 ⟨y,H2,I2,ry,q2⟩=>
  thn (hr pins s2 σ H2 _ I2 q2) fun ws s3 ⟨ps,H3,I3,rel,q3⟩=>⟨(x,y) :: ps,H3,I3,.cons ⟨rx,ry⟩ rel,q3⟩)
def iX (kvs more:List (Key × V)):List (Key × V):=more.foldl (fun acc kv=>rP acc kv.1 kv.2) kvs
theorem KV.merge:∀{more:List (Key × V)} {rs:List (Key × Value)} {kvs:List (Key × V)} {vs:List (Key × Value)},KV more rs->KV kvs vs->KV (iX kvs more) (merged vs rs):=by
 intro more rs kvs vs r;unfold KV at r
 induction r generalizing kvs vs with
 |nil=>intro q;exact q
 | @cons p q ps qs h t ih=>
  intro r0;have e:KV (rP kvs p.1 p.2) (stored vs q.1 q.2):=by
   have:=r0.put p.1 h.2;rw[<- h.1];exact this
  exact ih e
theorem mG:∀(more kvs:List (Key × V)),(iX kvs more).length<=kvs.length+more.length
 | [],kvs=>by show kvs.length<=kvs.length+0;lia
 |p :: r,kvs=>by
  have h1:=mG r (rP kvs p.1 p.2);have h2:=qZ kvs p.1 p.2;show (iX (rP kvs p.1 p.2) r).length<=_;rw[length_cons];lia
theorem uW {P:Program}{w:World}:∀{kvs:List (Key × V)} {ws:List (Value × Value)},VV (kvs.map fun kv=>(kV kv.1,kv.2)) ws->∃rs,Carries (dD P w) ws rs/\KV kvs rs
 | [],_,r=>by rw[map_nil] at r;cases r;exact⟨[],True.intro,.nil⟩
 |p :: kvs,_,r=>by
  rw[map_cons] at r
  cases r with
  | @cons a b as bs h t=>
   obtain⟨rs,c,q⟩:=uW (P:=P) (w:=w) t;obtain⟨b1,b2⟩:=b;exact⟨(p.1,b2) :: rs,⟨Ge h.1,rfl,c⟩,.cons ⟨rfl,h.2⟩ q⟩
def Zt (trs:List (TE × TE)):TE:=fun σ H Q=>∀p,H p=none->Cl trs σ (upd H p (.dK [])) fun ps H2=>H2 p=some (.dK [])/\∃kvs:List (Key × V),ps=kvs.map (fun kv=>(kV kv.1,kv.2))/\kvs.length<=15/\Q (.ref p) (upd H2 p (.dK (iX [] kvs)))
theorem Hn {X:Cx}{pos:Pos}{keys:List (Option Expr)}{values:List Expr}{trs:List (TE × TE)}(h:PPs X pos keys values trs)(hall:keys.all (·.isSome)=true)(hl:keys.length=values.length)(h0:keys≠[])(h15:keys.length<=15):PE X (.Dict keys values pos) (Zt trs):=by
 intro pins s σ H Q I q;have hn:=I.hok.fresh (Nat.le_refl s.heap.objs.size);have I1:=I.laid (a:=s.heap.objs.size) (o:=.dK []) (h':=s.heap.push { cls:=.type "dict",data:=.dict #[] }) (t':=s.toks) (fun _ _ q=>Heap.get?_push_of_some _ q) (Nat.le_refl _) (Bf s.heap I.big);refine wpAny_Dict_walk (knd:=dD X.prog X.w) hall hl h0 h15 (thn (h pins _ σ _ _ I1 (q _ hn)) fun ws s2 ⟨ps,H2,I2,rel,e,kvs,ep,lk,q2⟩=>?_);subst ep;obtain⟨rs,c,rk⟩:=uW (P:=X.prog) (w:=X.w) rel;obtain⟨z,hd,vs0,r0,dd⟩:=Lj I2.hok e
 cases r0
 refine⟨rs,c,dd,fun h' dd' hs=>⟨.ref s.heap.objs.size,_,?_,rfl,q2⟩⟩;have hz:(iX [] kvs).length<=sizeLine:=by
  have h1:=mG kvs [];rw[length_nil] at h1;rw[sizeLine_eq];lia
 have he:∃q,h'.get? s.heap.objs.size=some q:=let ⟨q,_,_,hq,_⟩:=dd';⟨q,hq⟩
 exact Hh I2 (by rw[e];exact True.intro) hs he (Nd hz hd (rk.merge .nil) dd')
structure M2 (X:Cx) (o:Expr) (m:Str) (apos:Pos) (e f:Expr) (cpos:Pos):Prop where
 base:attributeBase o m X.env (eval o X.env)=eval o X.env
 few:((backTo cpos (starEach [e,f] X.env)).all (fun x=>!x.1) && (backToKw cpos (keywordEach [] X.env)).all (fun x=>x.1.isSome)
  && decide (([e,f]:List Expr).length+([]:List Keyword).length+(if ([]:List Keyword).isEmpty then 0 else 1) < 30))=true
 line:(apos.endLine == cpos.line)=true
 trees:backTo cpos (starEach [e,f] X.env)=[(false,eval e X.env),(false,eval f X.env)]
def IsD (H:Hp)(a:Addr):Prop:=(∃kvs,Rd H a (.dK kvs))\/∃kvs,Rd H a (.dT kvs)
theorem Me {X:Cx}{pins:List (Addr × Obj)}{σ:St}{H:Hp}{s:Shared}{a:Addr}(I:Inv X pins σ H s)(d:IsD H a) :
  s.TypeIs (.ref a) "dict"/\(∀b,Value.ref a=.ref b->∃ob,s.heap.get? b=some ob/\ob.dict=none)/\(a == sysModules)=false:=by
 rcases d with ⟨kvs,e⟩ | ⟨kvs,e⟩
 ·obtain⟨_,hd,vs,_,dd⟩:=Fh I.hok e;refine⟨dd.typeIs,fun b q=>?_,hd⟩
  cases q
  obtain⟨ob,_,_,h1,h2,_⟩:=dd;exact⟨ob,h1,h2.2.1⟩
 ·obtain⟨_,hd,xs,_,dd⟩:=Ov I.hok e;refine⟨dd.typeIs,fun b q=>?_,hd⟩
  cases q
  obtain⟨ob,_,_,h1,h2,_⟩:=dd;exact⟨ob,h1,h2.2.1⟩
theorem nI:∀ns:List Int,PyData.depthAll (ns.map PyData.int)<=1
 | []=>by simp[PyData.depthAll]
 |n :: r=>by
  have b:=nI r;simp only[map_cons,PyData.depthAll,PyData.depth];lia
theorem Wp {K:Frag}{H:Hp}{a b:Addr}{ns:List Int}{neg:Bool}{Q:VK}(h1:SqL K H a (ns.map V.int))(h2:SqL K H b (ns.map V.int))(z:Q (.bl (!neg)) H):Jc K neg (.ref a) (.ref b) H Q:=
 Fd (d:=.list (ns.map PyData.int)) (.lst h1 (pD ns)) (.lst h2 (pD ns)) (pK ns) (by have:=nI ns;simp only[PyData.depth];lia) z
theorem Fq.mod {K:Frag}{a:Addr}{d:Option Addr}{n:Nat}{sl:Array (Option Value)}{i j:Int}{t u:Tok}(l:K.lookup a=some ⟨.type "tuple",d,.seq #[.int i t,.int j u] n,sl⟩)(H:Hp):Fq K H a (i,j):=
 .inr ⟨_,_,_,l,rfl,rfl,(zl9 2),.cons ⟨_,rfl⟩ (.cons ⟨_,rfl⟩ .nil)⟩
abbrev RD:=Kd × Int × Int × Mq.Q2
inductive Rts (K:Frag) (H:Hp):List V->List RD->Prop where
 |nil:Rts K H [] []
 |cons {t z:Addr} {k:Kd} {i j:Int} {p:Mq.Q2} {xs:List V} {ds:List RD} (h:SqT K H t [.str k.wd,.int i,.int j,.ref z]) (f:Fq K H z p) (q:Rts K H xs ds):Rts K H (.ref t :: xs) ((k,i,j,p) :: ds)
section
variable {K:Frag} {H H':Hp}
theorem Rts.same (e:aK H H'):∀{xs:List V} {ds:List RD},Rts K H xs ds->Rts K H' xs ds
 |_,_,.nil=>.nil
 |_,_,.cons h f q=>.cons (e.seqT h) (e.fq f) (Rts.same e q)
theorem Rts.length:∀{xs:List V} {ds:List RD},Rts K H xs ds->xs.length=ds.length
 |_,_,.nil=>rfl
 |_,_,.cons _ _ q=>by simp[Rts.length q]
theorem Rts.app:∀{xs ys:List V} {ds es:List RD},Rts K H xs ds->Rts K H ys es->Rts K H (xs++ys) (ds++es)
 |_,_,_,_,.nil,r=>r
 |_,_,_,_,.cons h f q,r=>.cons h f (Rts.app q r)
theorem Rts.at:∀{xs:List V} {ds:List RD} {q:Nat} {d:RD},Rts K H xs ds->ds[q]?=some d->∃t z,xs[q]?=some (.ref t)/\SqT K H t [.str d.1.wd,.int d.2.1,.int d.2.2.1,.ref z]/\Fq K H z d.2.2.2
 |_,_,_,_,.nil,h=>by simp at h
 |_,_,0,_,.cons h f _,e=>by simp at e;subst e;exact⟨_,_,rfl,h,f⟩
 |_,_,i+1,_,.cons _ _ q,e=>by simpa using Rts.at q (by simpa using e)
theorem Rts.upd {l:Addr}{ys:List V}{o:HO}(hl:H l=some (.lst ys)):∀{xs:List V} {ds:List RD},Rts K H xs ds->Rts K (L2.upd H l o) xs ds
 |_,_,.nil=>.nil
 |_,_,.cons h f q=>.cons (h.upd hl) (f.upd hl) (Rts.upd hl q)
def rdd (d:RD):PyData:=rd4 d.1.wd d.2.1 d.2.2.1 d.2.2.2
theorem Rts.dat:∀{xs:List V} {ds:List RD},Rts K H xs ds->rB K H xs (ds.map rdd)
 |_,_,.nil=>.nil
 |_,_,.cons h f q=>.cons (Ub h f) (Rts.dat q)
theorem Cj:∀ds:List RD,PyData.canLayAll0 (ds.map rdd)=true
 | []=>rfl
 |d :: r=>by
  show ((rdd d).canLay0 && PyData.canLayAll0 (r.map rdd))=true;rw[Cj r,show (rdd d).canLay0=true from Tc (Kd.lay _) _ _ _];rfl
theorem sW:∀ds:List RD,PyData.depthAll (ds.map rdd)<=3
 | []=>by simp[PyData.depthAll]
 |d :: r=>by
  have b:=sW r;have a:(rdd d).depth<=3:=by simp[rdd,rd4,qd,PyData.depth,PyData.depthAll]
  simp only[map_cons,PyData.depthAll];lia
theorem Xp {a b:Addr}{xs ys:List V}{ds:List RD}{neg:Bool}{Q:VK}(h1:SqL K H a xs)(h2:SqL K H b ys)(f1:Rts K H xs ds)(f2:Rts K H ys ds)(z:Q (.bl (!neg)) H):Jc K neg (.ref a) (.ref b) H Q:=
 Fd (d:=.list (ds.map rdd)) (.lst h1 f1.dat) (.lst h2 f2.dat) (Cj ds) (by have:=sW ds;simp only[PyData.depth];lia) z
end
def cP (l:Addr)(H H':Hp):Prop:=∀b o,H b=some o->b≠l->H' b=some o
theorem aK.x {l:Addr}{H H':Hp}(s:aK H H'):cP l H H':=fun b o h _=>s b o h
theorem cP.write {l:Addr}{H H1:Hp}{o:HO}(a:cP l H H1):cP l H (upd H1 l o):=fun c u h n=>by rw[aM n];exact a c u h n
theorem fpk:¬(("point_count":Str) = "kept"):=by decide +kernel
def oW (m:Int)(l:Addr):List (Str × V):=dG "kept" (.ref l) (dG "point_count" (.int m) [])
theorem Bx (m:Int)(l:Addr):(oW m l).lookup ("point_count":Str)=some (.int m):=by
 unfold oW;rw[bA,if_neg fpk,bA,if_pos rfl]
theorem iH (m:Int)(l:Addr):(oW m l).lookup ("kept":Str)=some (.ref l):=by
 unfold oW;rw[bA,if_pos rfl]
theorem dX (m:Int)(l:Addr){x:Str}(h1:¬x = "point_count")(h2:¬x = "kept"):(oW m l).lookup x=none:=by
 unfold oW;rw[bA,if_neg h2,bA,if_neg h1];rfl
def Mn (m:Int)(d:RD):Prop:=0<=d.2.1/\d.2.1 < m/\0<=d.2.2.1/\d.2.2.1 < m/\Low d.2.2.2/\(d.1=.pc->0 < d.2.2.2.1)/\Bd 1000 d.2.2.2
structure eJ (CN:Addr) (K:Frag) (H:Hp) (n l:Addr) (m:Int) (ds:List RD):Prop where
 ob:∃dx,H n=some (.ins CN dx (oW m l))
 ls:∃ts,H l=some (.lst ts)/\Rts K H ts ds
theorem eJ.same {CN:Addr}{K:Frag}{H H':Hp}{n l:Addr}{m:Int}{ds:List RD}(e:aK H H')(h:eJ CN K H n l m ds):eJ CN K H' n l m ds:=
 let ⟨⟨dx,a⟩,ts,b,c⟩:=h;⟨⟨dx,e _ _ a⟩,ts,e _ _ b,c.same e⟩
structure NT (K:Frag) (mg:Str->Option Value) (CN:Addr):Prop where
 cl:Cls K CN
 nP:gB K CN "point_count"
 nK:gB K CN "kept"
 t1:W.findIn K (.ref CN) "__class__"=some (some (.builtin "object.__class__"))
 t2:W.specialIn K (.builtin "object.__class__") "__get__"=some (some (.builtin "getset_descriptor.__get__"))
 t3:W.takesIn K (.builtin "object.__class__")=some true
 t4:W.mroIn K CN (.type "object")=some true
 mN:mg "Net"=some (.ref CN)
def oI (K:Frag)(CK:Kd->Addr):Sp:=fun vs H Q _=>∃(t:Addr) (v s g z:V),vs=[.ref t]/\SqT K H t [v,s,g,z]/\∃k:Kd,v=.str k.wd/\qh1 CK H Q k s g z
def Lr (K:Frag):Sp:=fun vs H Q _=>∃(a:Addr) (p:Mq.Q2),vs=[.ref a]/\Fq K H a p/\Low p/\Q (.bl true) H
def qd3 (K:Frag):Sp:=fun vs H Q _=>∃(a:Addr) (p:Mq.Q2) (n:Nat),vs=[.ref a]/\Fq K H a p/\Low p/\0 < p.1/\Bd n p/\n<=8000/\Q (.bl true) H
def qd7 (K:Frag):Sp:=fun vs H Q _=>∃(k:Kd) (z:Addr) (p:Mq.Q2),vs=[.str k.wd,.ref z]/\Fq K H z p/\Low p/\(k=.pc->0 < p.1)/\Bd 1000 p/\Q .non H
def Ft (CN:Addr):Sp:=fun vs H Q _=>∃(n dx:Addr) (m:Int),vs=[.ref n,.int m]/\H n=some (.ins CN dx [])/\1<=m/\m<=20/\∀l H',H l=none->(∀b o,H b=some o->b≠n->H' b=some o)->H' n=some (.ins CN dx (oW m l))->H' l=some (.lst [])->Q .non H'
def sV (CN:Addr)(K:Frag):Sp:=fun vs H Q _=>∃(n l:Addr) (m:Int) (ds:List RD),vs=[.ref n]/\eJ CN K H n l m ds/\Q (.int m) H
def Gv (CN:Addr)(K:Frag):Sp:=fun vs H Q _=>∃(n l:Addr) (m:Int) (ds:List RD),vs=[.ref n]/\eJ CN K H n l m ds/\∀a ts H',aK H H'->H a=none->H' a=some (.lst ts)->Rts K H' ts ds->Q (.ref a) H'
def Oy (CN:Addr)(K:Frag)(CK:Kd->Addr):Sp:=fun vs H Q _=>∃(n l x z:Addr) (m:Int) (ds:List RD) (k:Kd) (i j:Int) (p:Mq.Q2),vs=[.ref n,.ref x]/\eJ CN K H n l m ds/\Rw CK H x k (.int i) (.int j) (.ref z)/\Fq K H z p/\Mn m (k,i,j,p)/\ds.length < 40/\
 ∀H',cP l H H'->eJ CN K H' n l m (ds++[(k,i,j,p)])->Q (.int ds.length) H'
theorem fU {a1 u:TS}{D:jX}{σ:St}{H:Hp}(P:St->Hp->Prop)(h1:∀X:St->Hp->Prop,(∀σ' H',P σ' H'->X σ' H')->(a1) { D with nx:=X } σ H)(h2:∀σ' H',P σ' H'->u D σ' H'):(jI a1 (u)) D σ H:=h1 _ h2
theorem Zh {a1 a2 u:TS}{D:jX}{σ:St}{H:Hp}(P:St->Hp->Prop)(h1:∀X:St->Hp->Prop,(∀σ' H',P σ' H'->X σ' H')->(jI a1 (a2)) { D with nx:=X } σ H)(h2:∀σ' H',P σ' H'->u D σ' H'):(jI a1 (jI a2 (u))) D σ H:=h1 _ h2
theorem qa5 {a1 a2 a3 u:TS}{D:jX}{σ:St}{H:Hp}(P:St->Hp->Prop)(h1:∀X:St->Hp->Prop,(∀σ' H',P σ' H'->X σ' H')->(jI a1 (jI a2 (a3))) { D with nx:=X } σ H)(h2:∀σ' H',P σ' H'->u D σ' H'):(jI a1 (jI a2 (jI a3 (u)))) D σ H:=h1 _ h2
theorem qe9 {a1 a2 a3 a4 u:TS}{D:jX}{σ:St}{H:Hp}(P:St->Hp->Prop)(h1:∀X:St->Hp->Prop,(∀σ' H',P σ' H'->X σ' H')->(jI a1 (jI a2 (jI a3 (a4)))) { D with nx:=X } σ H)(h2:∀σ' H',P σ' H'->u D σ' H'):(jI a1 (jI a2 (jI a3 (jI a4 (u))))) D σ H:=h1 _ h2
theorem Ir (ns:List Int)(lo hi:Option Int):∃ms:List Int,jR (ns.map V.int) lo hi=ms.map V.int:=
 ⟨(ns.drop (HT.sIx (ns.map V.int).length 0 lo)).take (HT.sIx (ns.map V.int).length (ns.map V.int).length hi - HT.sIx (ns.map V.int).length 0 lo),by unfold jR;rw[map_take,map_drop]⟩
end L2
namespace Mq
def val (p:Q2):Rat:=(p.1:Rat) / (p.2:Rat)
theorem dB {b:Int}(h:b≠0):(b:Rat)≠0:=fun e=>h (Rat.intCast_inj.mp (by simpa using e))
theorem Ea {p:Q2}{t b:Int}(hp:p.2≠0)(hb:b≠0)(h:p.1*b=t*p.2):val p=(t:Rat) / (b:Rat):=by
 unfold val;have h1:=dB hp;have h2:=dB hb;have h3:(p.1:Rat)*(b:Rat)=(t:Rat)*(p.2:Rat):=by rw[<- Rat.intCast_mul,<- Rat.intCast_mul,h]
 grind
theorem jQ {t b:Int}(hb:b≠0):val (red t b)=(t:Rat) / (b:Rat):=by
 have:=(jM (t:=t) hb).pos;exact Ea (by lia) hb (Jq hb)
theorem Ff {p q:Q2}(hp:Low p)(hq:Low q)(h:val p=val q):p=q:=by
 refine Pb hp hq ?_;have p1:=dB (show p.2≠0 by have:=hp.pos;lia);have q1:=dB (show q.2≠0 by have:=hq.pos;lia);unfold val at h;have:(p.1:Rat)*(q.2:Rat)=(q.1:Rat)*(p.2:Rat):=by grind
 rw[<- Rat.intCast_mul,<- Rat.intCast_mul] at this;exact Rat.intCast_inj.mp this
theorem uU {p q:Q2}(hp:1<=p.2)(hq:1<=q.2):val (kI p q)=val p+val q:=by
 have p1:=dB (show p.2≠0 by lia);have q1:=dB (show q.2≠0 by lia);unfold kI;rw[jQ (hG hp hq),Rat.intCast_add,Rat.intCast_mul,Rat.intCast_mul,Rat.intCast_mul];unfold val;grind
theorem pP {p q:Q2}(hp:1<=p.2)(hq:1<=q.2):val (eQ p q)=val p - val q:=by
 have p1:=dB (show p.2≠0 by lia);have q1:=dB (show q.2≠0 by lia);unfold eQ;rw[jQ (hG hp hq),Rat.intCast_sub,Rat.intCast_mul,Rat.intCast_mul,Rat.intCast_mul];unfold val;grind
theorem Jf {p q:Q2}(hp:1<=p.2)(hq:1<=q.2):val (rD p q)=val p*val q:=by
 have p1:=dB (show p.2≠0 by lia);have q1:=dB (show q.2≠0 by lia);unfold rD;rw[jQ (hG hp hq),Rat.intCast_mul,Rat.intCast_mul];unfold val;grind
theorem Ox {p q:Q2}(hp:1<=p.2)(hq:1<=q.2)(h0:q.1≠0):val (rG p q)=val p / val q:=by
 have p1:=dB (show p.2≠0 by lia);have q1:=dB (show q.2≠0 by lia);have q2:=dB h0;unfold rG;rw[jQ (sI hp h0),Rat.intCast_mul,Rat.intCast_mul];unfold val;grind
theorem Fy:val (0,1)=0:=by unfold val;simp;grind
theorem qb6:val (1,1)=1:=by unfold val;simp;grind
def Ex:List Rat->Rat
 | []=>0
 |x :: l=>x+Ex l
theorem xK:∀{l:List Q2} {p:Q2},1<=p.2->Pos l->val (l.foldl kI p)=val p+Ex (l.map val)
 | [],p,_,_=>by simp[Ex];grind
 |q :: l,p,hp,h=>by
  have hq:=h q (by simp);rw[foldl_cons,xK (jE hp hq).pos (fun f hf=>h f (mem_cons_of_mem _ hf)),uU hp hq];simp only[map_cons,Ex];grind
theorem Sf {l:List Q2}(h:Pos l):val (tot l)=Ex (l.map val):=by
 unfold tot;rw[xK (by decide) h,Fy];grind
def rs (n:Nat)(F:Nat->Rat):Rat:=match n with
 |0=>0
 |n+1=>rs n F+F n
theorem aT {n:Nat}{F G:Nat->Rat}(h:∀i,i < n->F i=G i):rs n F=rs n G:=by
 induction n with
 |zero=>rfl
 |succ n ih=>simp only[rs];rw[ih (fun i hi=>h i (by lia)),h n (by lia)]
theorem eY (n:Nat)(F G:Nat->Rat):rs n (fun i=>F i+G i)=rs n F+rs n G:=by
 induction n with
 |zero=>simp[rs];grind
 |succ n ih=>simp only[rs];rw[ih];grind
theorem fV (n:Nat)(c:Rat)(F:Nat->Rat):rs n (fun i=>c*F i)=c*rs n F:=by
 induction n with
 |zero=>simp[rs]
 |succ n ih=>simp only[rs];rw[ih];grind
theorem qQ (n:Nat)(F:Nat->Rat):rs n (fun i=>- F i)=- rs n F:=by
 induction n with
 |zero=>simp[rs]
 |succ n ih=>simp only[rs];rw[ih];grind
theorem eG (n:Nat):rs n (fun _=>0)=0:=by
 induction n with
 |zero=>rfl
 |succ n ih=>simp only[rs];rw[ih];grind
theorem Mp (n k:Nat)(F:Nat->Rat):rs n (fun i=>if k=i then F i else 0)=if k < n then F k else 0:=by
 induction n with
 |zero=>simp[rs]
 |succ n ih=>
  simp only[rs];rw[ih]
  by_cases h1:k < n
  ·rw[if_pos h1,if_neg (by lia),if_pos (by lia)];grind
  ·by_cases h2:k=n
   ·subst h2;rw[if_neg h1,if_pos rfl,if_pos (by lia)];grind
   ·rw[if_neg h1,if_neg h2,if_neg (by lia)];grind
abbrev z0:Q2:=(0,1)
abbrev Row:=Nat × Nat × Q2
theorem pU.pos {ls:List Q2}(h:pU ls):Pos ls:=fun p hp=>(h p hp).pos
def nW (L b:Int):Int:=Int.fdiv L (gc L b)*b
theorem oA {L b:Int}(hL:1<=L)(hb:1<=b):1<=nW L b/\(∃j,nW L b=L*j)/\(∃k,nW L b=k*b/\1<=k)/\nW L b<=L*b:=by
 have gp:0 < gc L b:=uK (by lia);have d1:gc L b ∣ L:=by unfold gc;exact Int.gcd_dvd_left ..
 have d2:gc L b ∣ b:=by unfold gc;exact Int.gcd_dvd_right ..
 obtain⟨k,hk⟩:=d1;obtain⟨j,hj⟩:=d2;have ek:Int.fdiv L (gc L b)=k:=dQ (by lia) hk;have k1:1<=k:=by
  have:0 < gc L b*k:=by lia
  have:=Int.pos_of_mul_pos_right this (by lia);lia
 unfold nW;rw[ek];refine⟨?_,⟨j,?_⟩,⟨k,rfl,k1⟩,?_⟩
 ·have:0 < k*b:=Int.mul_pos (by lia) (by lia);lia
 ·generalize gc L b=g at *
  rw[hk,hj];grind
 ·have:k<=L:=by
   rw[hk];have:=Int.mul_le_mul_of_nonneg_right (show 1<=gc L b by lia) (show 0<=k by lia);lia
  exact Int.mul_le_mul_of_nonneg_right this (by lia)
def cO (ps:List Q2):Int:=ps.foldl (fun L p=>nW L p.2) 1
theorem Jo (ps:List Q2)(p:Q2):cO (ps++[p])=nW (cO ps) p.2:=by unfold cO;rw[foldl_append];rfl
theorem lQ {ps:List Q2}{i:Nat}{p:Q2}(h:ps[i]?=some p):cO (ps.take (i+1))=nW (cO (ps.take i)) p.2:=by
 rw[take_add_one,h];exact Jo _ _
theorem mZ {ps:List Q2}(hp:Pos ps){n:Nat}(hb:∀p∈ps,Bd n p):∀i,i<=ps.length->1<=cO (ps.take i)/\B (1+n*i) (cO (ps.take i))/\∀p∈ps.take i,∃k,cO (ps.take i)=k*p.2
 |0,_=>⟨by show (1:Int)<=1;lia,show (1:Nat) < 2 ^ (1+n*0) by simp,fun p h=>by simp at h⟩
 |i+1,hi=>by
  obtain⟨h1,h2,h3⟩:=mZ hp hb i (by lia);have e:ps[i]?=some ps[i]:=getElem?_eq_getElem (by lia);have mem:ps[i]∈ps:=getElem_mem _;rw[lQ e];obtain⟨l1,⟨j,l2⟩,⟨k,l3,l4⟩,l5⟩:=oA h1 (hp _ mem);refine⟨l1,?_,fun p hpp=>?_⟩
  ·have:=h2.mul (hb _ mem).b;refine B.mono (n:=1+n*i+n) (this.le ?_) (by rw[Nat.mul_succ];lia);have h0:1<=ps[i].2:=hp _ mem;have:0<=cO (ps.take i)*ps[i].2:=Int.mul_nonneg (by lia) (by lia);lia
  ·rw[take_add_one,e] at hpp;rcases mem_append.mp hpp with z | z
   ·obtain⟨q,hq⟩:=h3 p z;exact⟨q*j,by rw[l2,hq];grind⟩
   ·have:p=ps[i]:=by simpa using z
    rw[this];exact⟨k,l3⟩
theorem oC {ps:List Q2}(hp:Pos ps):1<=cO ps:=by
 have:∀(l:List Q2) (L:Int),1<=L->Pos l->1<=l.foldl (fun L p=>nW L p.2) L:=fun l=>by
  induction l with
  |nil=>intro L h _;exact h
  |cons p l ih=>intro L h q;exact ih _ (oA h (q p (by simp))).1 fun x hx=>q x (mem_cons_of_mem _ hx)
 exact this ps 1 (by lia) hp
def Dx (L:Int)(p:Q2):Int:=p.1*Int.fdiv L p.2
def iw (ps:List Q2):List Int:=ps.map (Dx (cO ps))
theorem Xf {L k:Int}{p:Q2}(h:1<=p.2)(e:L=k*p.2):((Dx L p:Int):Rat)=val p*(L:Rat):=by
 have e1:Int.fdiv L p.2=k:=dQ (by lia) (by rw[e,Int.mul_comm]);have n:=dB (show p.2≠0 by lia);unfold Dx val;rw[e1,e,Rat.intCast_mul,Rat.intCast_mul];grind
theorem Ba {ps:List Q2}(hp:Pos ps):∀p∈ps,∃k,cO ps=k*p.2:=fun p hpp=>by
 have:∀(l:List Q2) (L:Int),1<=L->Pos l->(∃j,l.foldl (fun L p=>nW L p.2) L=L*j)/\∀p∈l,∃k,l.foldl (fun L p=>nW L p.2) L=k*p.2:=fun l=>by
  induction l with
  |nil=>intro L h _;exact⟨⟨1,by simp⟩,fun p h=>by simp at h⟩
  |cons q l ih=>
   intro L h hq;obtain⟨l1,⟨j,l2⟩,⟨k,l3,l4⟩,l5⟩:=oA h (hq q (by simp));obtain⟨⟨j2,i1⟩,i2⟩:=ih (nW L q.2) l1 fun x hx=>hq x (mem_cons_of_mem _ hx);refine⟨⟨j*j2,by rw[foldl_cons,i1,l2];grind⟩,fun p hp=>?_⟩;rcases mem_cons.mp hp with rfl | hp
   ·exact⟨k*j2,by rw[foldl_cons,i1,l3];grind⟩
   ·exact i2 p hp
 exact(this ps 1 (by lia) hp).2 p hpp
def dS (X:List (List Q2)):Prop:=∀row∈X,Pos row
theorem Qh {row:List Q2}(h:Pos row)(j:Nat):1<=(row.getD j z0).2:=by
 rw[getD_eq_getElem?_getD]
 cases e:row[j]? with
 |none=>exact Int.le_refl 1
 |some v=>exact h v (mem_of_getElem? e)
end Mq
open Mq (Ba Dx Ff Fy Mp aT cO dB dS eG eY fV iw jQ mZ oC pP pU uU)
namespace L2
open PySem PySem.Spec PyProof.Rows
section
variable {M:Model} {A:Around} {E:Value->Shared->Prop} {s:Shared}
theorem zX {scope:Scope}{globals:Addr}{cl:List (Str × Addr)}{qual:Str}{env:Env}{Q:Env->Shared->Prop}(hQ:Q { scope:=scope,locals:=s.heap.objs.size,globals:=globals,cells:=cellsFrom (s.heap.objs.size+1) scope.names cl,qual:=qual,func:=none,code:=env.code,frame:=env.frame,builtins:=env.builtins } { s with heap:=pushCells (s.heap.push { cls:=.type "dict",data:=.dict #[] }) scope.names }) :
  wpAny M A (newFunctionEnv scope globals cl [] qual none .none (some env)) Q E s:=by
 simp only[newFunctionEnv,Option.isSome_some,if_true];refine wpAny_bind (wpAny_alloc ?_);refine wpAny_bind (wpAny_layCells _ (fun name kind cells=>by cases hkc:kind == NameKind.cell<;>simp[hkc]) _ _ _ _ ?_);rw[show ({ s with heap:=s.heap.push { cls:=.type "dict",data:=.dict #[] } }:Shared).heap.objs.size=s.heap.objs.size+1 from Heap.size_push ..];exact wpAny_bind (wpAny_pure (wpAny_pure hQ))
end
abbrev Bo (scope:Scope)(cl:List (Str × Addr))(x0:Str)(C:Addr)(env:Env):Env:={ compEnvC scope cl C env with cells:=(x0,C+1) :: cl }
structure yN (X:Cx) (scope:Scope) (cl:List (Str × Addr)) (x0:Str) (Nc:List Str) (nl:Nat) (fr:List Nat):Prop where
 clos:closureFor scope X.env=pure cl
 kind:scope.kind=.function
 names:∀y∈scope.names,y.2=.local->scope.names.lookup y.1=some .local
 one:∀n,cellsFrom n scope.names cl=(x0,n) :: cl
 psh:∀h,pushCells h scope.names=h.push { cls:=.type "cell",data:=.cell none }
 nin:cl.lookup x0=none
 sub:∀x c,cl.lookup x=some c->X.env.cells.lookup x=some c
 has:∀C x,(relabel scope X.env).names.lookup x=some .cell\/(relabel scope X.env).names.lookup x=some .free->∃c,((x0,C) :: cl).lookup x=some c
 len:Nc.length=nl+fr.length
 tail:∀i n,Nc[nl+i]?=some n->∃j,fr[i]?=some j/\X.N[j]?=some n/\X.env.kindOf n=some .cell/\cl.lookup n=X.env.cells.lookup n/\((relabel scope X.env).names.lookup n=some .cell\/(relabel scope X.env).names.lookup n=some .free)
abbrev dR (X:Cx)(scope:Scope)(cl:List (Str × Addr))(x0:Str)(Nc:List Str)(C:Addr)(s3:Shared)(H3:Hp)(fp:List Addr)(pins:List (Addr × Obj)):Cx:=
 { X with N:=Nc,s₀:=s3,H₀:=H3,env:=Bo scope cl x0 C X.env,outer:=X.stack,ex:=fp,fn:=fun x=>x == x0,pn:=X.pn++pins,xe:=fun _ _=>False }
section
variable {X:Cx} {scope:Scope} {cl:List (Str × Addr)} {x0:Str} {Nc:List Str} {nl:Nat} {fr:List Nat} {pins:List (Addr × Obj)} {σ:St} {H3:Hp} {s3:Shared} {fp:List Addr} {h4:Heap} {tk:Nat}
theorem Cg (ck:yN X scope cl x0 Nc nl fr)(I:Inv X pins σ H3 s3)(hf:∀b∈fp,iO X pins H3 b)(hfs:∀b∈fp,b < s3.heap.objs.size)(hns:h4.Ns s3.heap.objs.size fun _=>none)(hce:h4.IsCell (s3.heap.objs.size+1) none)(hk:∀b o,s3.heap.get? b=some o->h4.get? b=some o) :
  Inv (dR X scope cl x0 Nc s3.heap.objs.size s3 H3 fp pins) [] (σC nl fr σ) H3 { s3 with heap:=h4,toks:=tk }:=by
 have stk:∀b∈frs X.stack,b∈X.env.locals :: X.fs:=I.stkSub;have nfs:∀b,b≠X.env.locals->b∉X.fs->b∉frs X.stack:=fun b h1 h2 z=>(mem_cons.mp (stk b z)).elim h1 h2;have ltc:∀x c,cl.lookup x=some c->c < s3.heap.objs.size:=fun x c e=>by
  obtain⟨v,z⟩:=I.cell x c (ck.sub x c e);exact z.lt
 have lk:∀x c,((x0,s3.heap.objs.size+1) :: cl).lookup x=some c->(x=x0/\c=s3.heap.objs.size+1)\/cl.lookup x=some c:=fun x c e=>by
  rw[lookup_cons] at e
  cases q:x == x0 with
  |true=>rw[q] at e;cases e;exact .inl ⟨eq_of_beq q,rfl⟩
  |false=>rw[q] at e;exact .inr e
 refine⟨⟨I.ok.mod,ck.kind,I.ok.glob,I.ok.blt,Nat.le_refl _,fun x y c h1 h2=>?inj,fun x hx=>ck.has _ x hx,fun x c hz hl=>?cab,I.ok.hd,I.ok.frames,.inl rfl,fun b hb=>?_,I.bs,Nat.le_trans I.ok.bsz I.sz,fun b o e hb=>?_,fun b hb=>?_,I.stack,I.stkFree⟩,
  rfl,I.bare,Un.kept hk,⟨_,hns,fun i x v h1 h2 h3=>?_⟩,fun x c e=>?_,I.hok.fresh (Nat.le_refl _),fun x c e=>?frC,fun p hp=>?_,I.hok.kept hk,?_⟩
 case inj=>
  rcases lk x c h1 with ⟨e1,e2⟩ | h1<;>rcases lk y c h2 with ⟨e3,e4⟩ | h2
  ·rw[e1,e3]
  ·have h:=ltc y c h2;rw[e2] at h;exact absurd h (Nat.not_lt.mpr (Nat.le_succ _))
  ·have h:=ltc x c h1;rw[e4] at h;exact absurd h (Nat.not_lt.mpr (Nat.le_succ _))
  ·exact I.ok.inj x y c (ck.sub x c h1) (ck.sub y c h2)
 case cab=>
  rcases lk x c hl with ⟨e1,e2⟩ | h1
  ·rw[e2];exact Nat.le_succ _
  ·have hz':(x == x0)=true:=hz;rw[eq_of_beq hz',ck.nin] at h1;cases h1
 case frC=>
  rcases lk x c e with ⟨e1,e2⟩ | h1
  ·rw[e2];exact I.hok.fresh (Nat.le_succ _)
  ·exact I.freeC x c (ck.sub x c h1)
 ·obtain⟨f0,f1,f2,f3,f4,f5⟩:=hf b hb;refine⟨Nat.ne_of_lt (hfs b hb),fun x c e=>?_⟩;rcases lk x c e with ⟨e1,e2⟩ | h1
  ·rw[e2];exact Nat.ne_of_gt (Nat.lt_succ_of_lt (hfs b hb))
  ·exact f4 x c (ck.sub x c h1)
 ·obtain⟨f0,f1,f2,f3,f4,f5⟩:=hf b hb;rcases f3 with z | z
  ·exact I.ok.noex b o e z
  ·exact absurd (Nat.lt_of_lt_of_le (Heap.lt_size e) (Nat.le_trans I.ok.bsz z)) (Nat.lt_irrefl _)
 ·obtain⟨f0,f1,f2,f3,f4,f5⟩:=hf b hb;exact nfs b f1 f2
 ·-- a name's value
  unfold σC at h2
  by_cases hi:i < nl
  ·rw[getElem?_append_left (by simpa using hi),getElem?_replicate] at h2;split at h2<;>cases h2
  ·have hi':nl<=i:=by lia
   rw[getElem?_append_right (by simpa using hi'),length_replicate,getElem?_map] at h2;obtain⟨k,rfl⟩:∃k,i=nl+k:=⟨i - nl,by lia⟩
   obtain⟨j,e1,e2,e3,e4,e5⟩:=ck.tail k x h1;rw[Nat.add_sub_cancel_left,e1] at h2;have h2':(σ[j]?).join=some v:=by simpa using h2
   have h2'':σ[j]?=some (some v):=by
    cases q:σ[j]? with
    |none=>rw[q] at h2';cases h2'
    |some z=>rw[q] at h2';exact congrArg some h2'
   obtain⟨m,hn,hl⟩:=I.loc;obtain⟨u,r,l⟩:=hl j x v e2 h2'' (.inr (.inl e3));refine⟨u,r,?_⟩;rcases l with ⟨k1,_⟩ | ⟨k1,c,ec,z⟩
   ·rw[e3] at k1;cases k1
   ·obtain⟨o,ho,hd⟩:=z;refine .inr ⟨e5,c,?_,o,hk _ _ ho,hd⟩;show ((x0,s3.heap.objs.size+1) :: cl).lookup x=some c;rw[lookup_cons];have ec':cl.lookup x=some c:=by rw[e4];exact ec
    cases q:x == x0 with
    |true=>rw[eq_of_beq q,ck.nin] at ec';cases ec'
    |false=>exact ec'
 ·rcases lk x c e with ⟨e1,e2⟩ | h1
  ·rw[e2];exact⟨none,hce⟩
  ·obtain⟨v,o,ho,hd⟩:=I.cell x c (ck.sub x c h1);exact⟨v,o,hk _ _ ho,hd⟩
 ·have hp':p∈X.pn++pins:=by simpa using hp
  obtain⟨e,n,ne,nf,d⟩:=I.pin p hp';exact⟨hk _ _ e,n,Nat.ne_of_lt (Heap.lt_size e),nfs _ ne nf,d⟩
 ·unfold σC;show _=Nc.length;rw[List.length_append,length_replicate,length_map,ck.len]
theorem Jt {pins':List (Addr × Obj)}{σ':St}{H':Hp}{s':Shared}(I:Inv X pins σ H3 s3)(hf:∀b∈fp,iO X pins H3 b)(J:Inv (dR X scope cl x0 Nc s3.heap.objs.size s3 H3 fp pins) pins' σ' H' s'):Inv X pins σ H' s'/\iO X pins H' s3.heap.objs.size:=by
 refine⟨I.call' (ch:=fp) J.os J.base J.hok J.bare fun b hb=>?_,I.fpOk (Nat.le_refl _) J.free⟩;obtain⟨f0,f1,f2,f3,f4,f5⟩:=hf b hb;exact⟨f3,f1,f4,f5⟩
end
section
variable {X:Cx} {scope:Scope} {cl:List (Str × Addr)} {x0:Str} {Nc:List Str} {nl:Nat} {fr:List Nat} {elt tg iter:Expr} {ifs:List Expr} {pos:Pos} {wi:TI} {g:TG} {tt:TT} {te:TE}
theorem Id (hc:X.calm=true)(ck:yN X scope cl x0 Nc nl fr)(hi:PI X tg iter wi)(hg:∀C s3 H3 fp pins,PG (dR X scope cl x0 Nc C s3 H3 fp pins) tg g)(ht:∀C s3 H3 fp pins,PIf (dR X scope cl x0 Nc C s3 H3 fp pins) ifs tt)(he:∀C s3 H3 fp pins,PE (dR X scope cl x0 Nc C s3 H3 fp pins) elt te){pins:List (Addr × Obj)}{s:Shared}{σ:St}{H:Hp}{Q:VK}(I:Inv X pins σ H s)(h:Ap wi nl fr g tt te σ H Q){RR:Value->Addr->Result->Shared->Prop}(fin:∀D C s',(∃H',(∃m,s'.heap.Ns C m)/\Inv X pins σ H' s'/\iO X pins H' C/\Q (.ref D) H')->RR (.ref D) C (.ok .next) s') :
  wpAny (model X.prog X.w) X.A (eval iter X.env) (fun x s₁=>wpAny (model X.prog X.w) X.A (pyIter x) (fun it s₂=>wpAny (model X.prog X.w) X.A (newList []) (fun acc s₃=>
   wpAny (model X.prog X.w) X.A (newFunctionEnv scope X.env.globals cl [] X.env.qual none .none (some X.env)) (fun cenv s₄=>
    codeAny (model X.prog X.w) X.A (.compStart (.ListComp elt [⟨tg,iter,ifs,0⟩] scope pos) 0 it acc { cenv with scope:=relabel scope X.env }) (RR acc cenv.locals) s₄) X.xe s₃) X.xe s₂) X.xe s₁) X.xe s:=by
 refine thn (hi pins s σ H _ I h) fun v s1 h1=>thn h1 fun itv s2 h2=>?_;obtain⟨it,fp,tn,J,H2,e,I2,T,st2,f2,hD⟩:=h2;subst e;have hn2:H2 s2.heap.objs.size=none:=I2.hok.fresh (Nat.le_refl _);obtain⟨W,⟨m0,w0⟩,turn⟩:=hD s2.heap.objs.size hn2;refine wpAny_newObj_type (zX ?_);dsimp only;rw[ck.one,ck.psh];have I3:Inv X pins σ (upd H2 s2.heap.objs.size (.lst [])) { s2 with heap:=s2.heap.push { cls:=.type "list",dict:=none,data:=.seq ([]:List Value).toArray } }:=
  I2.laid (t':=s2.toks) (fun b u e=>Heap.get?_push_of_some _ e) (Nat.le_refl _) ⟨Nat.zero_le _,[],0,.nil,Heap.get?_push_size _ rfl⟩
 have hfs:∀b∈fp,b < s2.heap.objs.size:=fun b hb=>by
  obtain⟨o,e,_⟩:=T.obj 0 _ st2 b hb;exact Heap.lt_size e
 have f3:∀b∈fp,iO X pins (upd H2 s2.heap.objs.size (.lst [])) b:=fun b hb=>⟨by rw[aM (Nat.ne_of_lt (hfs b hb))];exact(f2 b hb).1,(f2 b hb).2⟩
 generalize hH3:upd H2 s2.heap.objs.size (.lst [])=H3 at *
 generalize hs3:({ s2 with heap:=s2.heap.push { cls:=.type "list",dict:=none,data:=.seq ([]:List Value).toArray } }:Shared)=s3 at *
 have z3:s3.heap=s2.heap.push { cls:=.type "list",dict:=none,data:=.seq ([]:List Value).toArray }:=by rw[<- hs3]
 have hsz3:s3.heap.objs.size=s2.heap.objs.size+1:=by rw[z3,Heap.size_push]
 rw[<- z3];generalize hh4:(s3.heap.push { cls:=.type "dict",data:=.dict #[] }).push { cls:=.type "cell",data:=.cell none }=h4;have hk4:∀b o,s3.heap.get? b=some o->h4.get? b=some o:=fun b o e=>by rw[<- hh4];exact Heap.get?_push_of_some _ (Heap.get?_push_of_some _ e)
 have hce4:h4.IsCell (s3.heap.objs.size+1) none:=by
  rw[<- hh4];refine⟨{ cls:=.type "cell",data:=.cell none },?_,rfl⟩;have:=Heap.get?_push_size (s3.heap.push { cls:=.type "dict",data:=.dict #[] }) (o:={ cls:=.type "cell",data:=.cell none }) rfl;rw[Heap.size_push] at this;exact this
 have hfs3:∀b∈fp,b < s3.heap.objs.size:=fun b hb=>Nat.lt_of_lt_of_le (hfs b hb) (by rw[hsz3];exact Nat.le_succ _);have hns':h4.Ns s3.heap.objs.size fun _=>none:=by
  rw[<- hh4];exact(Heap.Ns.new s3.heap (.type "dict")).keeps fun b o e=>Heap.get?_push_of_some _ e
 have K0:=fun tk=>Cg (tk:=tk) ck I3 f3 hfs3 hns' hce4 hk4;have stat:∀{H':Hp},(∀b∈fp,H' b=none)->∀b∈fp,iO (dR X scope cl x0 Nc s3.heap.objs.size s3 H3 fp pins) [] H' b:=fun {H'} hn b hb=>by
  obtain⟨f0,g1,g2,g3,g4,g5⟩:=f3 b hb;refine⟨hn b hb,Nat.ne_of_lt (hfs3 b hb),fun z=>?_,.inl hb,fun x c e=>?cl,fun p hp=>g5 p (by simpa using hp)⟩
  case cl=>
   have e':((x0,s3.heap.objs.size+1) :: cl).lookup x=some c:=e;rw[lookup_cons] at e'
   cases q:x == x0 with
   |true=>rw[q] at e';cases e';exact Nat.ne_of_gt (Nat.lt_succ_of_lt (hfs3 b hb))
   |false=>rw[q] at e';exact g4 x c (ck.sub x c e')
  exact(mem_cons.mp (I3.stkSub b z)).elim g1 g2
 have st4:tn 0 h4:=T.keep 0 _ _ st2 fun b hb o e=>hk4 b o (by rw[z3];exact Heap.get?_push_of_some _ e);have loop:∀tk,codeAny (model X.prog X.w) X.A (.compLoop (.ListComp elt [⟨tg,iter,ifs,0⟩] scope pos) 0 (.ref it) (.ref s2.heap.objs.size) (Bo scope cl x0 s3.heap.objs.size X.env)) (RR (.ref s2.heap.objs.size) s3.heap.objs.size) { s3 with heap:=h4,toks:=tk }:=by
  intro tk;refine vQ (fun n s'=>∃i ys H',Inv (dR X scope cl x0 Nc s3.heap.objs.size s3 H3 fp pins) [] (σC nl fr σ) H' s'/\tn i s'.heap/\(∀b∈fp,H' b=none)/\W i n ys H') ?_ m0 ⟨0,[],H3,K0 tk,st4,fun b hb=>(f3 b hb).1,w0⟩;rintro n s5 ⟨i,ys,H5,I5,st5,fr5,w5⟩;obtain⟨hl5,q5⟩:=turn i n ys H5 w5;rcases q5 with ⟨stop,qn⟩ | ⟨go,step⟩
  ·refine wpAny_mono (T.done (dR X scope cl x0 Nc s3.heap.objs.size s3 H3 fp pins) rfl rfl rfl hc i [] s5 (σC nl fr σ) H5 (fun _ _=>False) I5 (stat fr5) st5 stop) (fun r s6 h6=>?_) fun _ _ z=>z;obtain⟨hr,I6⟩:=h6;subst hr;obtain⟨z1,z2⟩:=Jt I3 f3 I6;refine fin _ _ _ ⟨H5,?_,z1,z2,qn⟩;obtain⟨m,hm,_⟩:=I6.loc;exact⟨m,hm⟩
  ·refine wpAny_mono (T.item (dR X scope cl x0 Nc s3.heap.objs.size s3 H3 fp pins) rfl rfl rfl hc i [] s5 (σC nl fr σ) H5 (fun _ _=>False) I5 (stat fr5) st5 go) (fun r s6 h6=>?_) fun _ _ z=>z;obtain⟨u,hr,h6⟩:=h6;subst hr;refine wpAny_mono h6 (fun _ s7 h7=>?_) fun _ _ z=>z;obtain⟨x,H7,I7,r7,y7,st7,fr7⟩:=h7;have I7':=I7.pinned (stat fr7) (T.obj _ _ st7);refine wpAny_mono (hg s3.heap.objs.size s3 H3 fp pins _ s7 _ H7 x u _ I7' r7 (step x H7 y7)) (fun _ s8 h8=>?_) fun _ _ z=>z;obtain⟨σ8,H8,I8,l8,k8,q8⟩:=h8;refine wpAny_mono (ht s3.heap.objs.size s3 H3 fp pins _ s8 σ8 H8 _ I8 q8) (fun b s9 h9=>?_) fun _ _ z=>z;obtain⟨H9,I9,q9⟩:=h9;have again:∀{ys':List V} {H':Hp} {s':Shared} {m':Nat},Inv (dR X scope cl x0 Nc s3.heap.objs.size s3 H3 fp pins) ([]++pX fp s7.heap) σ8 H' s'->m' < n->W (i+1) m' ys' H'->
     ∃m,m < n/\∃i ys H',Inv (dR X scope cl x0 Nc s3.heap.objs.size s3 H3 fp pins) [] (σC nl fr σ) H' s'/\tn i s'.heap/\(∀b∈fp,H' b=none)/\W i m ys H':=fun {ys' H' s' m'} I' hm w'=>by
    refine⟨m',hm,i+1,ys',H',I'.unpinned.weak l8.symm k8,T.keep _ _ _ st7 fun b hb o e=>(I'.pin (b,o) (mem_append_right _ (mem_append_right _ (gH hb e)))).1,fun b hb=>?_,w'⟩;obtain⟨o,e,d⟩:=T.obj _ _ st7 b hb;exact(I'.pin (b,o) (mem_append_right _ (mem_append_right _ (gH hb e)))).2.1
   cases b with
   |false=>
    rw[if_neg Bool.false_ne_true] at q9 ⊢;obtain⟨m',hm,w9⟩:=q9;exact again I9 hm w9
   |true=>
    rw[if_pos rfl] at q9 ⊢;refine wpAny_mono (he s3.heap.objs.size s3 H3 fp pins _ s9 σ8 H9 _ I9 q9) (fun yv s10 h10=>?_) fun _ _ z=>z;obtain⟨y,H10,I10,r10,hl10,hz10,m',hm,w10⟩:=h10;refine wpAny_mono (iC (X:=dR X scope cl x0 Nc s3.heap.objs.size s3 H3 fp pins) _ s10 σ8 H10 (.ref s2.heap.objs.size) [y] _ [yv] (fun v H'=>H'=upd H10 s2.heap.objs.size (.lst (ys++[y]))) I10 rfl (.cons r10 .nil) ⟨_,ys,y,rfl,rfl,hl10,hz10,rfl⟩) (fun _ s11 h11=>?_) fun _ _ z=>z;obtain⟨_,H11,I11,_,e11⟩:=h11;subst e11;exact again I11 hm w10
 have L:=loop s2.toks;rw[show s3.gens=s2.gens by rw[<- hs3],show s3.drawn=s2.drawn by rw[<- hs3],show s3.os=s2.os by rw[<- hs3]] at L;exact codeAny_compStart_list L (T.self _ 0 _ _ _ st4 L)
theorem Qa (hc:X.calm=true)(ck:yN X scope cl x0 Nc nl fr)(hi:PI X tg iter wi)(hg:∀C s3 H3 fp pins,PG (dR X scope cl x0 Nc C s3 H3 fp pins) tg g)(ht:∀C s3 H3 fp pins,PIf (dR X scope cl x0 Nc C s3 H3 fp pins) ifs tt)(he:∀C s3 H3 fp pins,PE (dR X scope cl x0 Nc C s3 H3 fp pins) elt te)(hs:∀x,foldedSetIterable iter X.env x=pure x:=by intro _;rfl):PE X (.ListComp elt [⟨tg,iter,ifs,0⟩] scope pos) (Ap wi nl fr g tt te):=by
 intro pins s σ H Q I h;rw[eval_ListComp];refine wpAny_comprehension_free (use:=none) rfl hs ck.clos ck.kind ck.names (Id (RR:=fun acc C=>compPost (model X.prog X.w) X.A X.xe none (EP X pins σ Q) acc C) hc ck hi hg ht he I h fun D C s' hh=>?_);obtain⟨H',⟨m,hm⟩,hI,hF,q⟩:=hh;exact⟨m,hm,fun h' hs'=>⟨.ref D,H',hI.off hF hs',rfl,q⟩⟩
end
def Ite (K : Frag)(a : Addr) : It :=
  ⟨fun i H => ∃ xs x, SqL K H a xs /\ xs[i]? = some x,
   fun i H v H' => ∃ T x, v = .ref T /\ H T = none /\ H' = upd H T (.tup [.int (i : Int), x]) /\ ∀ xs, SqL K H a xs -> xs[i]? = some x,
   fun i H => ∃ xs, SqL K H a xs /\ xs.length <= i⟩
def Yr (e it l:Addr)(i:Nat)(h:Heap):Prop:=e≠it/\(∃old,IsEnum h e it (i:Int) old)/\h.IsListIter it l i
theorem Jd {P:Program}{w:World}{K:Frag}{elts:List Expr}{kk:Nat}{tpos:Pos}(e it l:Addr) :
  Lz P w K (.Tuple elts kk tpos) (Ite K l) [e,it] e (Yr e it l) where
 mem:=by simp
 obj:=fun i h st b hb=>by
  obtain⟨ne,⟨old,he⟩,⟨o1,e1,c1,d1⟩⟩:=st;simp only[mem_cons,not_mem_nil,or_false] at hb;rcases hb with rfl | rfl
  ·exact⟨_,he,fun v q=>by cases q⟩
  ·exact⟨o1,e1,fun v q=>by rw[d1] at q;cases q⟩
 keep:=fun i h h' st k=>by
  obtain⟨ne,⟨old,he⟩,⟨o1,e1,c1,d1⟩⟩:=st;exact⟨ne,⟨old,k _ (by simp) _ he⟩,⟨o1,k _ (by simp) _ e1,c1,d1⟩⟩
 item:=by
  intro X hP hw hK hc i pins s σ H E I hf st hg;subst hP hw hK;obtain⟨ne,⟨old,he⟩,t1⟩:=st;obtain⟨xs,x,hx,ex⟩:=hg;obtain⟨its1,rv1,p1,z1⟩:=I.list hx;obtain⟨u1,hu1,ru1⟩:=rv1.get ex;refine wpAny_pyNext_enum_item he t1 p1.isList (x:=u1) (by simpa using hu1) ne fun h' g1 g2 g3 g4 kk'=>?_;have hn:H s.heap.objs.size=none:=I.hok.fresh (Nat.le_refl _);have lt:∀b∈[e,it],b < s.heap.objs.size:=fun b hb=>by
   simp only[mem_cons,not_mem_nil,or_false] at hb;obtain⟨o1,e1,_⟩:=t1;rcases hb with rfl | rfl
   ·exact Heap.lt_size he
   ·exact Heap.lt_size e1
  have I1:Inv X pins σ (upd H s.heap.objs.size (.tup [.int (i:Int),x])) { s with heap:=s.heap.push { cls:=.type "tuple",data:=.seq #[.int i s.toks,u1] },toks:=s.toks+1 }:=
   I.laid (t':=s.toks+1) (fun b o e=>Heap.get?_push_of_some _ e) (Nat.le_refl _) (show cD X.prog X.w _ _ _ (.tup [.int (i:Int),x]) from ⟨zl9 2,[.int i s.toks,u1],.cons ⟨_,rfl⟩ (.cons ru1 .nil),IsTup.new _ _⟩)
  have hf1:∀b∈[e,it],iO X pins (upd H s.heap.objs.size (.tup [.int (i:Int),x])) b:=fun b hb=>⟨by rw[aM (Nat.ne_of_lt (lt b hb))];exact(hf b hb).1,(hf b hb).2⟩
  have k1:∀b o,b∉[e,it]->(s.heap.push { cls:=.type "tuple",data:=.seq #[.int i s.toks,u1] }).get? b=some o->h'.get? b=some o:=fun b o nb e=>by
   simp only[mem_cons,not_mem_nil,or_false,not_or] at nb
   by_cases hb:b=s.heap.objs.size
   ·subst hb;rw[Heap.get?_push_size _ rfl] at e
    cases e
    exact g3
   ·have e0:s.heap.get? b=some o:=by rw[Heap.get?_push_ne _ _ _ hb] at e;exact e
    exact kk' b o nb.1 nb.2 e0
  have I2:Inv X pins σ (upd H s.heap.objs.size (.tup [.int (i:Int),x])) { s with heap:=h',toks:=s.toks+1 }:=Inv.turnedL (s:={ s with heap:=s.heap.push { cls:=.type "tuple",data:=.seq #[.int i s.toks,u1] },toks:=s.toks+1 }) (t':=s.toks+1) I1 k1 hf1;refine⟨_,rfl,wpAny_letOwnedTupleGo_enum (s:={ s with heap:=h',toks:=s.toks+1 }) g1 fun h2 q1 q2=>?_⟩;have kz:∀b o,b≠e->h'.get? b=some o->h2.get? b=some o:=fun b o nb e=>(q2.2 b nb).trans e;have I3:Inv X pins σ (upd H s.heap.objs.size (.tup [.int (i:Int),x])) { s with heap:=h2,toks:=s.toks+1 }:=Inv.turnedL (s:={ s with heap:=h',toks:=s.toks+1 }) (t':=s.toks+1) (fp:=[e]) I2 (fun b o nb e=>kz b o (by simpa using nb) e) fun b hb=>hf1 b (by simp at hb;simp[hb]);obtain⟨o3,e3,c3,d3⟩:=g2;refine⟨.ref s.heap.objs.size,_,I3,rfl,⟨_,x,rfl,hn,rfl,fun xs' h1=>?_⟩,⟨ne,⟨_,q1⟩,⟨o3,kz _ _ ne.symm e3,c3,d3⟩⟩,fun b hb=>(hf1 b hb).1⟩;rw[I.list_inj h1 hx];exact ex
 done:=by
  intro X hP hw hK hc i pins s σ H E I hf st hg;subst hP hw hK;obtain⟨ne,⟨old,he⟩,t1⟩:=st;obtain⟨xs,hx,hor⟩:=hg;obtain⟨its1,rv1,p1,z1⟩:=I.list hx;have l1':=rv1.length;refine wpAny_pyNext_enum_end (I.ok.hd hc) he t1 p1.isList (by simp;lia) fun h' kk'=>⟨rfl,?_⟩
  refine I.turnedL (t':=s.toks) (fun b o nb e=>?_) hf;simp only[mem_cons,not_mem_nil,or_false,not_or] at nb;exact kk' b o nb.2 e
 self:=fun A i s Q E st h=>by
  obtain⟨ne,⟨old,he⟩,t1⟩:=st;exact wpAny_pyIter_enum he h
section
variable {X:Cx}
def qa0 (K:Frag)(ta:TA):TI:=fun σ H R=>ta σ H fun vs H1=>∃a,vs=[.ref a]/\(∃xs,SqL K H1 a xs)/\R (Ite K a) H1
theorem zC {e1:Expr}{ta:TA}{p pos:Pos}{elts:List Expr}{kk:Nat}{tpos:Pos}(hg:Gl X "enumerate")(hm:X.mg "enumerate"=none)(hv:bootBuiltins "enumerate"=some (.type "enumerate"))(ha:PA X [e1] ta)(hs:starEach [e1] X.env=(false,eval e1 X.env) :: starEach [] X.env:=by rfl)(hpl:(backTo pos (starEach [] X.env)).any (·.1)=false:=by rfl):PI X (.Tuple elts kk tpos) (.Call (.Name "enumerate" p) [e1] [] pos) (qa0 X.K ta):=by
 intro pins s σ H R I h;refine Call_ (gJ I hg hm hv (PyProof.Rows.callWith_type1 (thn (ha pos pins s σ H _ I h) fun us s1 ⟨vs,H1,I1,r1,q1⟩=>?_) hs hpl));obtain⟨a,rfl,⟨xs,hx⟩,q⟩:=q1;obtain⟨u,rfl,ra⟩:=mL r1
 cases (show u=Value.ref a from ra)
 obtain⟨its1,rv1,p1,z1⟩:=I1.list hx;have la:a < s1.heap.objs.size:=by obtain⟨o,e,_⟩:=p1.isList;exact Heap.lt_size e
 refine call_enumerate_list p1.isList fun h' g1 g2 g3 kk'=>?_;refine wpAny_pyIter_enum g1 ?_;refine⟨s1.heap.objs.size+1,[s1.heap.objs.size+1,s1.heap.objs.size],_,Ite X.K a,H1,rfl,I1.kept (t':=s1.toks) kk',Jd _ _ a,⟨?_,⟨_,g1⟩,g2⟩,fun c hc=>?_,q⟩
 ·exact Nat.succ_ne_self _
 ·have hle:s1.heap.objs.size<=c:=by
   simp only[mem_cons,not_mem_nil,or_false] at hc;rcases hc with rfl | rfl<;>first | exact Nat.le_add_right _ _ | exact Nat.le_refl _
  exact I1.fpOk hle (I1.hok.fresh hle)
theorem Av {K:Frag}{a:Addr}{xs:List V}{g:TG}{tb:TS}{D:jX}{σ:St}{H:Hp}(Pv:Nat->St->Hp->Prop)(h0:Pv 0 σ H)(hl:∀i σ H,i<=xs.length->Pv i σ H->SqL K H a xs)(hs:∀i x σ H T,xs[i]?=some x->Pv i σ H->H T=none->g (.ref T) σ (upd H T (.tup [.int (i:Int),x])) fun σ2 H2=>tb { D with nx:=Pv (i+1),ct:=Pv (i+1),bk:=D.nx } σ2 H2)(hd:∀σ H,Pv xs.length σ H->D.nx σ H) :
  ∃W:Nat->Nat->St->Hp->Prop,(∃m,W 0 m σ H)/\∀i m σ H,W i m σ H->
   ((Ite K a).stop i H/\D.nx σ H)\/((Ite K a).go i H/\∃N:St->Hp->Prop,(∀σ' H',N σ' H'->∃m',m' < m/\W (i+1) m' σ' H')/\∀x H',(Ite K a).yld i H x H'->g x σ H' fun σ2 H2=>tb { D with nx:=N,ct:=N,bk:=D.nx } σ2 H2):=by
 refine⟨fun i m σ H=>m=xs.length - i/\i<=xs.length/\Pv i σ H,⟨_,rfl,Nat.zero_le _,h0⟩,?_⟩;rintro i m σ H ⟨rfl,hi,p⟩;have qx:=hl i σ H hi p
 by_cases hlt:i < xs.length
 ·refine .inr ⟨⟨xs,xs[i],qx,by simp[hlt]⟩,Pv (i+1),fun σ' H' p'=>⟨xs.length - (i+1),by lia,rfl,hlt,p'⟩,fun v H' z=>?_⟩;obtain⟨T,x,rfl,hT,rfl,hh⟩:=z;exact hs i x σ H T (hh xs qx) p hT
 ·have e:i=xs.length:=by lia
  subst e;exact .inl ⟨⟨xs,qx,Nat.le_refl _⟩,hd σ H p⟩
theorem Ic {K:Frag}{a:Addr}{xs:List V}{nl:Nat}{fr:List Nat}{g:TG}{tt:TT}{te:TE}{σ:St}{D:Addr}{H1:Hp}{Q:VK}(Pv:Nat->List V->Hp->Prop)(h0:Pv 0 [] (upd H1 D (.lst [])))(hl:∀i zs H,Pv i zs H->H D=some (.lst zs))(hx:∀i zs H,i<=xs.length->Pv i zs H->SqL K H a xs)(hs:∀i zs x H T,xs[i]?=some x->Pv i zs H->H T=none->∀(C:Nat->List V->Hp->Prop),(∀zs H,Pv (i+1) zs H->C (i+1) zs H)->Hq nl fr g tt te σ D C i zs (.ref T) (upd H T (.tup [.int (i:Int),x])))(hd:∀zs H,Pv xs.length zs H->Q (.ref D) H) :
  Ax (Ite K a) nl fr g tt te σ D H1 Q:=by
 refine⟨fun i m zs H=>m=xs.length - i/\i<=xs.length/\Pv i zs H,⟨_,rfl,Nat.zero_le _,h0⟩,?_⟩;rintro i m zs H ⟨rfl,hi,p⟩;refine⟨hl i zs H p,?_⟩;have qx:=hx i zs H hi p
 by_cases hlt:i < xs.length
 ·refine .inr ⟨⟨xs,xs[i],qx,by simp[hlt]⟩,fun v H' z=>?_⟩;obtain⟨T,x,rfl,hT,rfl,hh⟩:=z;exact hs i zs x H T (hh xs qx) p hT (fun j zs Hz=>∃m',m' < xs.length - i/\m'=xs.length - j/\j<=xs.length/\Pv j zs Hz) fun zs Hz z=>⟨xs.length - (i+1),by lia,rfl,hlt,z⟩
 ·have e:i=xs.length:=by lia
  subst e;exact .inl ⟨⟨xs,qx,Nat.le_refl _⟩,hd zs H p⟩
end
end L2
namespace Shp
open PySem L2
theorem fD {X:Cx}{K:Frag}(h:X.K=K):IxR X (qa1 K):=by subst h;exact cF
theorem lU {X:Cx}{K:Frag}(h:X.K=K):IxR X (To K):=by subst h;exact bC
theorem dA {ec:List (Str × Addr)}:∀(x:Str) (c:Addr),([]:List (Str × Addr)).lookup x=some c->ec.lookup x=some c:=fun _ _ h=>by cases h
theorem bG {ec cl:List (Str × Addr)}{a:Str}{d:Addr}(h:ec.lookup a=some d)(r:∀x c,cl.lookup x=some c->ec.lookup x=some c):∀x c,((a,d) :: cl).lookup x=some c->ec.lookup x=some c:=fun x c e=>by
 rw[lookup_cons] at e
 cases q:x == a with
 |true=>rw[q] at e;rw[eq_of_beq q,h];exact e
 |false=>rw[q] at e;exact r x c e
theorem Rl {t b:Int}(h:0 < b):dvr t b=gc t b:=by unfold dvr;rw[if_neg (by lia)]
def wh (row:List Mq.Q2):List Int × Int:=(iw row,cO row)
end Shp
namespace Mq
def skip (j k:Nat):Nat:=if k < j then k else k+1
def sgn (n:Nat):Rat:=if n % 2=0 then 1 else -1
theorem tN (n:Nat):sgn (n+1)=- sgn n:=by
 unfold sgn;rcases Nat.mod_two_eq_zero_or_one n with h | h
 ·rw[if_neg (by lia),if_pos h]
 ·rw[if_pos (by lia),if_neg (by lia)];grind
abbrev Mat:=Nat->Nat->Rat
def det:Nat->Mat->Rat
 |0,_=>1
 |n+1,M=>rs (n+1) fun j=>sgn (n+j)*M n j*det n fun i k=>M i (skip j k)
theorem eK (n:Nat)(M:Mat):det (n+1) M=rs (n+1) fun j=>sgn (n+j)*M n j*det n fun i k=>M i (skip j k):=rfl
theorem Uh {j k n:Nat}(hk:k < n):skip j k < n+1:=by unfold skip;split<;>lia
theorem cB:∀{n:Nat} {M N:Mat},(∀i j,i < n->j < n->M i j=N i j)->det n M=det n N
 |0,_,_,_=>rfl
 |n+1,M,N,h=>by
  rw[eK,eK];exact aT fun j hj=>by rw[h n j (by lia) hj,cB (N:=fun i k=>N i (skip j k)) fun i k hi hk=>h i _ (by lia) (Uh hk)]
theorem wN {j k l:Nat}(h:j<=k):skip (k+1) (skip j l)=skip j (skip k l):=by
 unfold skip
 by_cases h1:l < j
 ·rw[if_pos h1,if_pos (show l < k by lia),if_pos (show l < k+1 by lia),if_pos h1]
 ·rw[if_neg h1]
  by_cases h2:l < k
  ·rw[if_pos h2,if_pos (show l+1 < k+1 by lia),if_neg h1]
  ·rw[if_neg h2,if_neg (show ¬l+1 < k+1 by lia),if_neg (show ¬l+1 < j by lia)]
theorem Ri (n m:Nat)(F:Nat->Nat->Rat):(rs n fun i=>rs m fun j=>F i j)=rs m fun j=>rs n fun i=>F i j:=by
 induction n with
 |zero=>simp only[rs];rw[eG]
 |succ n ih=>simp only[rs];rw[ih,<- eY]
theorem Bs (n:Nat)(F:Nat->Rat):rs (n+1) F=F 0+rs n fun i=>F (i+1):=by
 induction n with
 |zero=>simp only[rs];grind
 |succ n ih=>rw[show rs (n+1+1) F=rs (n+1) F+F (n+1) from rfl,ih];simp only[rs];grind
theorem wG (N:Nat)(X:Nat->Nat->Rat):(rs (N+1) fun j=>rs N fun k=>X j k)=(rs N fun k=>rs N fun j=>if k<=j then X (j+1) k else 0)+rs N fun j=>rs N fun k=>if j<=k then X j k else 0:=by
 have h1:(rs (N+1) fun j=>rs N fun k=>X j k)=(rs (N+1) fun j=>rs N fun k=>if k < j then X j k else 0)+rs (N+1) fun j=>rs N fun k=>if k < j then 0 else X j k:=by
  rw[<- eY];refine aT fun j _=>?_;rw[<- eY];exact aT fun k _=>by split<;>grind
 have h2:(rs (N+1) fun j=>rs N fun k=>if k < j then X j k else 0)=rs N fun k=>rs N fun j=>if k<=j then X (j+1) k else 0:=by
  rw[Ri];refine aT fun k _=>?_;rw[Bs,if_neg (by lia)];have:(rs N fun i=>if k < i+1 then X (i+1) k else 0)=rs N fun j=>if k<=j then X (j+1) k else 0:=aT fun i _=>by
   by_cases c:k<=i
   ·rw[if_pos (by lia),if_pos c]
   ·rw[if_neg (by lia),if_neg c]
  rw[this];grind
 have h3:(rs (N+1) fun j=>rs N fun k=>if k < j then 0 else X j k)=rs N fun j=>rs N fun k=>if j<=k then X j k else 0:=by
  show (rs N fun j=>rs N fun k=>if k < j then 0 else X j k)+(rs N fun k=>if k < N then 0 else X N k)=_;have:(rs N fun k=>if k < N then 0 else X N k)=rs N fun _=>0:=aT fun k hk=>by rw[if_pos hk]
  rw[this,eG];have e2:(rs N fun j=>rs N fun k=>if k < j then 0 else X j k)=rs N fun j=>rs N fun k=>if j<=k then X j k else 0:=aT fun j _=>aT fun k _=>by
   by_cases c:j<=k
   ·rw[if_neg (by lia),if_pos c]
   ·rw[if_pos (by lia),if_neg c]
  rw[e2];grind
 rw[h1,h2,h3]
theorem Ec (N:Nat)(X Y:Nat->Nat->Rat)(h:∀j k,j<=k->Y (k+1) j=- X j k)(h':∀j k,j<=k->X (k+1) j=- Y j k):(rs (N+1) fun j=>rs N fun k=>Y j k)=- rs (N+1) fun j=>rs N fun k=>X j k:=by
 rw[wG,wG];have e1:(rs N fun k=>rs N fun j=>if k<=j then Y (j+1) k else 0)=- rs N fun j=>rs N fun k=>if j<=k then X j k else 0:=by
  rw[<- qQ];refine aT fun k _=>?_;rw[<- qQ];exact aT fun j _=>by
   by_cases c:k<=j
   ·rw[if_pos c,if_pos c,h k j c]
   ·rw[if_neg c,if_neg c];grind
 have e2:(rs N fun k=>rs N fun j=>if k<=j then X (j+1) k else 0)=- rs N fun j=>rs N fun k=>if j<=k then Y j k else 0:=by
  rw[<- qQ];refine aT fun k _=>?_;rw[<- qQ];exact aT fun j _=>by
   by_cases c:k<=j
   ·rw[if_pos c,if_pos c,h' k j c]
   ·rw[if_neg c,if_neg c];grind
 rw[e1,e2];grind
def bY (a:Nat)(M:Mat):Mat:=fun i=>if i=a then M (a+1) else if i=a+1 then M a else M i
theorem Ht (n:Nat)(M:Mat):det (n+2) M=rs (n+2) fun j=>rs (n+1) fun k=>(sgn (n+1+j)*M (n+1) j)*(sgn (n+k)*M n (skip j k)*det n fun i l=>M i (skip j (skip k l))):=by
 rw[eK];exact aT fun j _=>by rw[eK,<- fV]
theorem oV (a b:Nat):sgn (a+1+b)=- sgn (a+b):=by rw[show a+1+b=a+b+1 by lia,tN]
theorem wS (n:Nat)(M:Mat):det (n+2) (bY n M)=- det (n+2) M:=by
 rw[Ht,Ht];refine Ec (n+1) _ _ (fun j k hjk=>?_) (fun j k hjk=>?_)
 ·show (sgn (n+1+(k+1))*bY n M (n+1) (k+1))*(sgn (n+j)*bY n M n (skip (k+1) j)*det n fun i l=>bY n M i (skip (k+1) (skip j l)))=- ((sgn (n+1+j)*M (n+1) j)*(sgn (n+k)*M n (skip j k)*det n fun i l=>M i (skip j (skip k l))));have a1:bY n M (n+1)=M n:=by unfold bY;rw[if_neg (by lia),if_pos rfl]
  have a2:bY n M n=M (n+1):=by unfold bY;rw[if_pos rfl]
  have a3:(det n fun i l=>bY n M i (skip (k+1) (skip j l)))=det n fun i l=>M i (skip j (skip k l)):=cB fun i l hi _=>by
   show bY n M i (skip (k+1) (skip j l))=M i (skip j (skip k l));rw[wN hjk];unfold bY;rw[if_neg (by lia),if_neg (by lia)]
  have a4:skip (k+1) j=j:=by unfold skip;rw[if_pos (by lia)]
  have a5:skip j k=k+1:=by unfold skip;rw[if_neg (by lia)]
  rw[a1,a2,a3,a4,a5,oV,oV,show n+(k+1)=n+k+1 by lia,tN];generalize (det n fun i l=>M i (skip j (skip k l)))=dd;generalize sgn (n+k)=s1;generalize sgn (n+j)=s2;grind
 ·show (sgn (n+1+(k+1))*M (n+1) (k+1))*(sgn (n+j)*M n (skip (k+1) j)*det n fun i l=>M i (skip (k+1) (skip j l)))=- ((sgn (n+1+j)*bY n M (n+1) j)*(sgn (n+k)*bY n M n (skip j k)*det n fun i l=>bY n M i (skip j (skip k l))));have a1:bY n M (n+1)=M n:=by unfold bY;rw[if_neg (by lia),if_pos rfl]
  have a2:bY n M n=M (n+1):=by unfold bY;rw[if_pos rfl]
  have a3:(det n fun i l=>M i (skip (k+1) (skip j l)))=det n fun i l=>bY n M i (skip j (skip k l)):=cB fun i l hi _=>by
   show M i (skip (k+1) (skip j l))=bY n M i (skip j (skip k l));rw[wN hjk];unfold bY;rw[if_neg (by lia),if_neg (by lia)]
  have a4:skip (k+1) j=j:=by unfold skip;rw[if_pos (by lia)]
  have a5:skip j k=k+1:=by unfold skip;rw[if_neg (by lia)]
  rw[a1,a2,a3,a4,a5,oV,oV,show n+(k+1)=n+k+1 by lia,tN];generalize (det n fun i l=>bY n M i (skip j (skip k l)))=dd;generalize sgn (n+k)=s1;generalize sgn (n+j)=s2;grind
theorem kS:∀(n a:Nat) (M:Mat),a+1 < n->det n (bY a M)=- det n M
 |0,_,_,h=>absurd h (by lia)
 |n+1,a,M,h=>by
  by_cases e:a+1=n
  ·subst e;exact wS a M
  ·rw[eK,eK,<- qQ];refine aT fun j hj=>?_;have e1:bY a M n j=M n j:=by unfold bY;rw[if_neg (by lia),if_neg (by lia)]
   have e2:(det n fun i k=>bY a M i (skip j k))=- det n fun i k=>M i (skip j k):=by
    rw[<- kS n a (fun i k=>M i (skip j k)) (by lia)];exact cB fun i k _ _=>by
     show bY a M i (skip j k)=bY a (fun i k=>M i (skip j k)) i k;unfold bY;split
     ·rfl
     ·split<;>rfl
   rw[e1,e2];grind
theorem wD:∀(t n:Nat) (M:Mat) (i:Nat),i+t+1=n->(∀j,M i j=M n j)->det (n+1) M=0
 |0,n,M,i,h,e=>by
  have hn:n=i+1:=by lia
  subst hn;have s:=wS i M;have c:det (i+2) (bY i M)=det (i+2) M:=cB fun k j _ _=>by
   unfold bY
   by_cases k1:k=i
   ·rw[if_pos k1,k1];exact(e j).symm
   ·rw[if_neg k1]
    by_cases k2:k=i+1
    ·rw[if_pos k2,k2];exact e j
    ·rw[if_neg k2]
  rw[c] at s;grind
 |t+1,n,M,i,h,e=>by
  have s:=kS (n+1) i M (by lia);have z:=wD t n (bY i M) (i+1) (by lia) fun j=>by
   have a1:bY i M (i+1)=M i:=by unfold bY;rw[if_neg (by lia),if_pos rfl]
   have a2:bY i M n=M n:=by unfold bY;rw[if_neg (by lia),if_neg (by lia)]
   rw[a1,a2];exact e j
  rw[z] at s;grind
def xT (n:Nat)(S:Mat)(x:Nat->Rat):Mat:=fun i=>if i=n then x else S i
def F (n:Nat)(S:Mat)(c:Nat->Nat)(x:Nat->Rat):Rat:=det (n+1) (xT n (fun i j=>S i (c j)) fun j=>x (c j))
theorem Ia (n:Nat)(S:Mat)(c:Nat->Nat)(x:Nat->Rat):F n S c x=rs (n+1) fun j=>sgn (n+j)*x (c j)*det n fun i k=>S i (c (skip j k)):=by
 unfold F;rw[eK];refine aT fun j _=>?_;have e1:xT n (fun i j=>S i (c j)) (fun j=>x (c j)) n j=x (c j):=by unfold xT;rw[if_pos rfl]
 rw[e1,cB fun i k hi _=>show xT n (fun i j=>S i (c j)) (fun j=>x (c j)) i (skip j k)=S i (c (skip j k)) by unfold xT;rw[if_neg (by lia)]]
theorem qc1 (n:Nat)(S:Mat)(c:Nat->Nat)(x y:Nat->Rat)(l:Rat):F n S c (fun j=>x j+l*y j)=F n S c x+l*F n S c y:=by
 rw[Ia,Ia,Ia,<- fV,<- eY];exact aT fun j _=>by grind
theorem Fm (n:Nat)(S:Mat)(c:Nat->Nat){i:Nat}(h:i < n):F n S c (S i)=0:=by
 unfold F;refine wD (n - i - 1) n _ i (by lia) fun j=>?_;unfold xT;rw[if_neg (by lia),if_pos rfl]
theorem xQ (n:Nat)(S:Mat)(c:Nat->Nat)(x:Nat->Rat)(h:∀j,j < n->x (c j)=0):F n S c x=x (c n)*det n fun i j=>S i (c j):=by
 rw[Ia];show (rs n fun j=>sgn (n+j)*x (c j)*det n fun i k=>S i (c (skip j k)))+sgn (n+n)*x (c n)*(det n fun i k=>S i (c (skip n k)))=_;have z:(rs n fun j=>sgn (n+j)*x (c j)*det n fun i k=>S i (c (skip j k)))=rs n fun _=>0:=aT fun j hj=>by rw[h j hj];grind
 have s:sgn (n+n)=1:=by unfold sgn;rw[if_pos (by lia)]
 have d:(det n fun i k=>S i (c (skip n k)))=det n fun i j=>S i (c j):=cB fun i k _ hk=>by show S i (c (skip n k))=_;unfold skip;rw[if_pos hk]
 rw[z,eG,s,d];grind
theorem Au {n:Nat}{F:Nat->Rat}(h:∀i,i < n->∃z:Int,F i=(z:Rat)):∃z:Int,rs n F=(z:Rat):=by
 induction n with
 |zero=>exact⟨0,by simp[rs]⟩
 |succ n ih=>
  obtain⟨a,ha⟩:=ih fun i hi=>h i (by lia);obtain⟨b,hb⟩:=h n (by lia);exact⟨a+b,by simp only[rs];rw[ha,hb,Rat.intCast_add]⟩
theorem Kb (n:Nat):∃z:Int,sgn n=(z:Rat):=by
 unfold sgn;split
 ·exact⟨1,by simp⟩
 ·exact⟨-1,by rw[Rat.intCast_neg];simp⟩
theorem pZ {a b:Rat}(h:∃z:Int,a=(z:Rat))(k:∃z:Int,b=(z:Rat)):∃z:Int,a*b=(z:Rat):=by
 obtain⟨x,rfl⟩:=h;obtain⟨y,rfl⟩:=k;exact⟨x*y,by rw[Rat.intCast_mul]⟩
theorem vV:∀{n:Nat} {M:Mat},(∀i j,∃z:Int,M i j=(z:Rat))->∃z:Int,det n M=(z:Rat)
 |0,_,_=>⟨1,by simp[det]⟩
 |n+1,M,h=>by
  rw[eK];exact Au fun j _=>pZ (pZ (Kb _) (h n j)) (vV fun i k=>h i _)
theorem Tr {n:Nat}{S:Mat}{c:Nat->Nat}{x:Nat->Rat}(h:∀i j,∃z:Int,S i j=(z:Rat))(hx:∀j,∃z:Int,x j=(z:Rat)):∃z:Int,F n S c x=(z:Rat):=by
 unfold F;refine vV fun i j=>?_;unfold xT;split
 ·exact hx _
 ·exact h i _
def Lin (Φ:(Nat->Rat)->Rat):Prop:=∀x y l,Φ (fun j=>x j+l*y j)=Φ x+l*Φ y
theorem Lin.zero {Φ:(Nat->Rat)->Rat}(h:Lin Φ):Φ (fun _=>0)=0:=by
 have:=h (fun _=>0) (fun _=>0) 1;have e:(fun j:Nat=>(fun _=>(0:Rat)) j+1*(fun _=>(0:Rat)) j)=fun _=>0:=by funext j;show (0:Rat)+1*0=0;grind
 rw[e] at this;grind
theorem Lin.mul {Φ:(Nat->Rat)->Rat}(h:Lin Φ)(l:Rat)(y:Nat->Rat):Φ (fun j=>l*y j)=l*Φ y:=by
 have:=h (fun _=>0) y l;have e:(fun j:Nat=>(fun _=>(0:Rat)) j+l*y j)=fun j=>l*y j:=by funext j;show (0:Rat)+l*y j=_;grind
 rw[e,h.zero] at this;grind
theorem Lin.sum {Φ:(Nat->Rat)->Rat}(h:Lin Φ)(a:Nat->Rat)(Y:Nat->Nat->Rat):∀n,Φ (fun j=>rs n fun k=>a k*Y k j)=rs n fun k=>a k*Φ (Y k)
 |0=>h.zero
 |n+1=>by
  have:=h (fun j=>rs n fun k=>a k*Y k j) (Y n) (a n);simp only[rs];rw[this,Lin.sum h a Y n]
theorem Gu (n:Nat)(S:Mat)(c:Nat->Nat):Lin (F n S c):=fun x y l=>qc1 n S c x y l
def Wh (x:Rat):Prop:=∃z:Int,x=(z:Rat)
theorem Wh.mul {a b:Rat}(h:Wh a)(k:Wh b):Wh (a*b):=pZ h k
theorem Wh.neg {a:Rat}(h:Wh a):Wh (-a):=by obtain⟨z,rfl⟩:=h;exact⟨-z,by rw[Rat.intCast_neg]⟩
theorem Wh.sub {a b:Rat}(h:Wh a)(k:Wh b):Wh (a - b):=by obtain⟨x,rfl⟩:=h;obtain⟨y,rfl⟩:=k;exact⟨x - y,by rw[Rat.intCast_sub]⟩
theorem Wh.one:Wh 1:=⟨1,by simp⟩
theorem Wh.nil:Wh 0:=⟨0,by simp⟩
structure Bar (m:Nat) (A E:Mat) (r col:Nat) (d:Rat) (c:Nat->Nat):Prop where
 dne:d≠0
 rm:r<=m
 rc:r<=col
 clt:∀j,j < r->c j < col
 cinj:∀i j,i < r->j < r->c i=c j->i=j
 wA:∀i j,Wh (A i j)
 wE:∀i j,i < m->Wh (E i j)
 i2:∀k j,k < r->j < r->E k (c j)=if j=k then d else 0
 i3:∀i x,r<=i->i < m->x < col->E i x=0
 i4:∀i x,i < m->d*A i x=(rs r fun k=>A i (c k)*E k x)+if i < r then 0 else E i x
 i5:det r (fun i j=>A i (c j))=d
 i6:∀Φ,Lin Φ->(∀s,s < r->Φ (A s)=0)->∀k,k < r->Φ (E k)=0
 full:r=col->∀j,j < r->c j=j
theorem Bar.start {m:Nat}{A:Mat}(wA:∀i j,Wh (A i j)):Bar m A A 0 0 1 id where
 dne:=by grind
 rm:=by lia
 rc:=by lia
 clt:=fun j h=>absurd h (by lia)
 cinj:=fun i j h=>absurd h (by lia)
 wA:=wA
 wE:=fun i j _=>wA i j
 i2:=fun k j h=>absurd h (by lia)
 i3:=fun i x _ _ h=>absurd h (by lia)
 i4:=fun i x _=>by simp only[rs];rw[if_neg (by lia)];grind
 i5:=rfl
 i6:=fun Φ _ _ k h=>absurd h (by lia)
 full:=fun _ j h=>absurd h (by lia)
section
variable {m:Nat} {A E:Mat} {r col:Nat} {d:Rat} {c:Nat->Nat}
theorem Bar.skip (h:Bar m A E r col d c)(hz:∀i,r<=i->i < m->E i col=0):Bar m A E r (col+1) d c:=
 { h with
  rc:=by have:=h.rc;lia
  clt:=fun j hj=>by have:=h.clt j hj;lia
  i3:=fun i x hi hm hx=>by
   by_cases e:x=col
   ·rw[e];exact hz i hi hm
   ·exact h.i3 i x hi hm (by lia)
  full:=fun e=>by have:=h.rc;lia }
def sw (p r i:Nat):Nat:=if i=r then p else if i=p then r else i
theorem wF {p r i:Nat}(hp:r<=p)(hi:i < r):sw p r i=i:=by unfold sw;rw[if_neg (by lia),if_neg (by lia)]
theorem Vj {p r i:Nat}(hp:r<=p)(hi:r<=i):r<=sw p r i:=by unfold sw;split;exact hp;split<;>lia
theorem yO {p r i m:Nat}(hp:p < m)(hr:r < m)(hi:i < m):sw p r i < m:=by unfold sw;split;exact hp;split<;>lia
theorem Nu (p r i:Nat):sw p r (sw p r i)=i:=by
 unfold sw
 by_cases h1:i=r
 ·rw[if_pos h1]
  by_cases h2:p=r
  ·rw[if_pos h2];lia
  ·rw[if_neg h2,if_pos rfl];exact h1.symm
 ·rw[if_neg h1]
  by_cases h2:i=p
  ·rw[if_pos h2,if_pos rfl];exact h2.symm
  ·rw[if_neg h2,if_neg h1,if_neg h2]
theorem Bar.swap (h:Bar m A E r col d c){p:Nat}(hp:r<=p)(hpm:p < m):Bar m (fun i=>A (sw p r i)) (fun i=>E (sw p r i)) r col d c:=
 { h with
  wA:=fun i j=>h.wA _ j
  wE:=fun i j hi=>h.wE _ j (yO hpm (by lia) hi)
  i2:=fun k j hk hj=>by
   show E (sw p r k) (c j)=_;rw[wF hp hk];exact h.i2 k j hk hj
  i3:=fun i x hi hm hx=>h.i3 _ x (Vj hp hi) (yO hpm (by lia) hm) hx
  i4:=fun i x hm=>by
   have e:(rs r fun k=>A (sw p r i) (c k)*E (sw p r k) x)=rs r fun k=>A (sw p r i) (c k)*E k x:=aT fun k hk=>by rw[wF hp hk]
   show d*A (sw p r i) x=(rs r fun k=>A (sw p r i) (c k)*E (sw p r k) x)+_;rw[e,h.i4 _ x (yO hpm (by lia) hm)];congr 1
   by_cases hi:i < r
   ·rw[wF hp hi,if_pos hi]
   ·have:=Vj hp (show r<=i by lia);rw[if_neg (by lia),if_neg hi]
  i5:=by
   rw[<- h.i5];exact cB fun i j hi _=>by show A (sw p r i) (c j)=_;rw[wF hp hi]
  i6:=fun Φ hΦ hs k hk=>by
   show Φ (E (sw p r k))=0;rw[wF hp hk];exact h.i6 Φ hΦ (fun s hs'=>by have:=hs s hs';rwa [wF hp hs'] at this) k hk }
def clr (E:Mat)(r col:Nat)(d:Rat):Mat:=fun k x=>if k=r then E r x else (E r col*E k x - E k col*E r x) / d
def c1 (c:Nat->Nat)(r col:Nat):Nat->Nat:=fun j=>if j=r then col else c j
theorem iL (c:Nat->Nat){r col j:Nat}(h:j < r):c1 c r col j=c j:=by unfold c1;rw[if_neg (by lia)]
theorem mU (c:Nat->Nat)(r col:Nat):c1 c r col r=col:=by unfold c1;rw[if_pos rfl]
theorem xW (E:Mat)(r col:Nat)(d:Rat):clr E r col d r=E r:=by funext x;unfold clr;rw[if_pos rfl]
theorem kX (E:Mat){r col k:Nat}{d:Rat}(h:k≠r)(x:Nat):clr E r col d k x=(E r col*E k x - E k col*E r x) / d:=by unfold clr;rw[if_neg h]
theorem Bar.j2 (h:Bar m A E r col d c)(hr:r < m):∀k j,k < r+1->j < r+1->clr E r col d k (c1 c r col j)=if j=k then E r col else 0:=fun k j hk hj=>by
 have hd:=h.dne
 by_cases kr:k=r
 ·subst kr;rw[xW]
  by_cases jr:j=k
  ·rw[if_pos jr,jr,mU]
  ·rw[if_neg jr,iL c (by lia)];exact h.i3 k _ (Nat.le_refl _) hr (h.clt j (by lia))
 ·rw[kX E kr]
  by_cases jr:j=r
  ·subst jr;rw[mU,if_neg (by lia)];grind
  ·rw[iL c (by lia),h.i2 k j (by lia) (by lia),h.i3 r (c j) (Nat.le_refl _) hr (h.clt j (by lia))]
   by_cases e:j=k
   ·rw[if_pos e,if_pos e];grind
   ·rw[if_neg e,if_neg e];grind
theorem Bar.j4 (h:Bar m A E r col d c)(hr:r < m):∀i x,i < m->E r col*A i x=(rs (r+1) fun k=>A i (c1 c r col k)*clr E r col d k x)+if i < r+1 then 0 else clr E r col d i x:=fun i x hi=>by
 have hd:=h.dne;have q:=h.i4 i x hi;have q2:=h.i4 i col hi;show _=(rs r fun k=>A i (c1 c r col k)*clr E r col d k x)+A i (c1 c r col r)*clr E r col d r x+_;rw[mU,xW];have e:(rs r fun k=>A i (c1 c r col k)*clr E r col d k x)=(E r col / d)*(rs r fun k=>A i (c k)*E k x)+(-(E r x / d))*rs r fun k=>A i (c k)*E k col:=by
  rw[<- fV,<- fV,<- eY];exact aT fun k hk=>by rw[iL c hk,kX E (by lia)];grind
 rw[e];generalize (rs r fun k=>A i (c k)*E k x)=s1 at q ⊢;generalize (rs r fun k=>A i (c k)*E k col)=s2 at q2 ⊢
 by_cases h1:i < r
 ·rw[if_pos h1] at q q2;rw[if_pos (by lia)];have:s1=d*A i x:=by grind
  have:s2=d*A i col:=by grind
  subst s1 s2;grind
 ·rw[if_neg h1] at q q2;have a1:s1=d*A i x - E i x:=by grind
  have a2:s2=d*A i col - E i col:=by grind
  subst a1 a2
  by_cases h2:i=r
  ·subst h2;rw[if_pos (by lia)];grind
  ·rw[if_neg (by lia),kX E h2];grind
theorem Bar.j6 (h:Bar m A E r col d c)(hr:r < m):∀Φ,Lin Φ->(∀s,s < r+1->Φ (A s)=0)->∀k,k < r+1->Φ (clr E r col d k)=0:=fun Φ hΦ hs k hk=>by
 have hd:=h.dne;have z:=h.i6 Φ hΦ fun s hs'=>hs s (by lia);have zr:Φ (E r)=0:=by
  have e:E r=fun x=>(fun x=>d*A r x) x+(-1)*(fun x=>rs r fun k=>A r (c k)*E k x) x:=by
   funext x
   have:=h.i4 r x hr;rw[if_neg (by lia)] at this;show E r x=d*A r x+(-1)*(rs r fun k=>A r (c k)*E k x)
   grind
  rw[e,hΦ,hΦ.mul,hΦ.sum,hs r (by lia)];have:(rs r fun k=>A r (c k)*Φ (E k))=rs r fun _=>0:=aT fun k hk=>by rw[z k hk];grind
  rw[this,eG];grind
 by_cases kr:k=r
 ·rw[kr,xW];exact zr
 ·have e:clr E r col d k=fun x=>(fun x=>(E r col / d)*E k x) x+(-(E k col / d))*E r x:=by
   funext x
   rw[kX E kr];show _=(E r col / d)*E k x+(-(E k col / d))*E r x;grind
  rw[e,hΦ,hΦ.mul,z k (by lia),zr];grind
theorem Bar.j5 (h:Bar m A E r col d c)(hr:r < m):det (r+1) (fun i j=>A i (c1 c r col j))=E r col:=by
 have hd:=h.dne;have e1:det (r+1) (fun i j=>A i (c1 c r col j))=F r A (c1 c r col) (A r):=by
  unfold F;exact cB fun i j hi _=>by
   unfold xT
   by_cases e:i=r
   ·rw[if_pos e,e]
   ·rw[if_neg e]
 have hΦ:=Gu r A (c1 c r col);have z:=h.i6 _ hΦ fun s hs=>Fm r A (c1 c r col) hs;have eA:A r=fun x=>(fun x=>(1 / d)*E r x) x+(1 / d)*(fun x=>rs r fun k=>A r (c k)*E k x) x:=by
  funext x
  have:=h.i4 r x hr;rw[if_neg (by lia)] at this;show A r x=(1 / d)*E r x+(1 / d)*(rs r fun k=>A r (c k)*E k x)
  grind
 have zs:(rs r fun k=>A r (c k)*F r A (c1 c r col) (E k))=0:=by
  have:(rs r fun k=>A r (c k)*F r A (c1 c r col) (E k))=rs r fun _=>0:=aT fun k hk=>by rw[z k hk];grind
  rw[this,eG]
 have fb:=xQ r A (c1 c r col) (E r) fun j hj=>by rw[iL c hj];exact h.i3 r _ (Nat.le_refl _) hr (h.clt j hj)
 have dd:(det r fun i j=>A i (c1 c r col j))=d:=by rw[<- h.i5];exact cB fun i j _ hj=>by show A i (c1 c r col j)=_;rw[iL c hj]
 rw[mU,dd] at fb;rw[e1,eA,hΦ,hΦ.mul,hΦ.sum,zs,fb];grind
theorem Bar.wV (h:Bar m A E r col d c)(hr:r < m)(he:E r col≠0):∀i x,i < m->Wh (clr E r col d i x):=by
 have j2:=h.j2 hr;have j4:=h.j4 hr;have j5:=h.j5 hr;have j6:=h.j6 hr;have cin:∀i j,i < r+1->j < r+1->c1 c r col i=c1 c r col j->i=j:=fun i j hi hj e=>by
  by_cases a:i=r
  ·by_cases b:j=r
   ·lia
   ·rw[a,mU,iL c (by lia)] at e;have:=h.clt j (by lia);lia
  ·by_cases b:j=r
   ·rw[b,mU,iL c (by lia)] at e;have:=h.clt i (by lia);lia
   ·rw[iL c (by lia),iL c (by lia)] at e;exact h.cinj i j (by lia) (by lia) e
 have top:∀k x,k < r+1->Wh (clr E r col d k x):=fun k x hk=>by
  by_cases hx:∃j,j < r+1/\x=c1 c r col j
  ·obtain⟨j,hj,rfl⟩:=hx;rw[j2 k j hk hj];split
   ·exact h.wE r col hr
   ·exact Wh.nil
  ·let c2:Nat->Nat:=fun j=>if j=r+1 then x else c1 c r col j
   let u:Nat->Rat:=fun j=>if j=c1 c r col k then 1 else 0
   have hΦ:=Gu (r+1) A c2;have z:=j6 _ hΦ (fun s hs=>Fm (r+1) A c2 hs) k hk;have eu:u=fun y=>(fun y=>u y+(-(1 / E r col))*clr E r col d k y) y+(1 / E r col)*clr E r col d k y:=by
    funext y
    show u y=u y+(-(1 / E r col))*clr E r col d k y+(1 / E r col)*clr E r col d k y;grind
   have fb:=xQ (r+1) A c2 (fun y=>u y+(-(1 / E r col))*clr E r col d k y) fun j hj=>by
    have ec:c2 j=c1 c r col j:=by show (if j=r+1 then x else c1 c r col j)=_;rw[if_neg (by lia)]
    rw[ec];show u (c1 c r col j)+(-(1 / E r col))*clr E r col d k (c1 c r col j)=0;rw[j2 k j hk hj];show (if c1 c r col j=c1 c r col k then (1:Rat) else 0)+_=0
    by_cases e:j=k
    ·rw[if_pos e,if_pos (by rw[e])];grind
    ·rw[if_neg e,if_neg (fun q=>e (cin j k hj hk q))];grind
   have dd:(det (r+1) fun i j=>A i (c2 j))=E r col:=by
    rw[<- j5];exact cB fun i j _ hj=>by show A i (if j=r+1 then x else c1 c r col j)=_;rw[if_neg (by lia)]
   have ux:u x=0:=by show (if x=c1 c r col k then (1:Rat) else 0)=0;rw[if_neg (fun q=>hx ⟨k,hk,q⟩)]
   have cx:c2 (r+1)=x:=by show (if r+1=r+1 then x else _)=x;rw[if_pos rfl]
   rw[dd,cx] at fb;have val:F (r+1) A c2 u=- clr E r col d k x:=by
    rw[eu,hΦ,z,fb];show (u x+(-(1 / E r col))*clr E r col d k x)*E r col+_=_;rw[ux];grind
   have wh:Wh (F (r+1) A c2 u):=Tr h.wA fun j=>by
    show Wh (if j=c1 c r col k then (1:Rat) else 0);split
    ·exact Wh.one
    ·exact Wh.nil
   rw[val] at wh;have:=wh.neg
   rwa [show - - clr E r col d k x=clr E r col d k x by grind] at this
 intro i x hi
 by_cases h1:i < r+1
 ·exact top i x h1
 ·have q:=j4 i x hi;rw[if_neg h1] at q;have e:clr E r col d i x=E r col*A i x - rs (r+1) fun k=>A i (c1 c r col k)*clr E r col d k x:=by grind
  rw[e];exact Wh.sub (Wh.mul (h.wE r col hr) (h.wA i x)) (Au fun k hk=>Wh.mul (h.wA _ _) (top k x hk))
theorem Bar.clear (h:Bar m A E r col d c)(hr:r < m)(he:E r col≠0):Bar m A (clr E r col d) (r+1) (col+1) (E r col) (c1 c r col) where
 dne:=he
 rm:=hr
 rc:=by have:=h.rc;lia
 clt:=fun j hj=>by
  by_cases e:j=r
  ·rw[e,mU];lia
  ·rw[iL c (by lia)];have:=h.clt j (by lia);lia
 cinj:=fun i j hi hj e=>by
  by_cases a:i=r
  ·by_cases b:j=r
   ·lia
   ·rw[a,mU,iL c (by lia)] at e;have:=h.clt j (by lia);lia
  ·by_cases b:j=r
   ·rw[b,mU,iL c (by lia)] at e;have:=h.clt i (by lia);lia
   ·rw[iL c (by lia),iL c (by lia)] at e;exact h.cinj i j (by lia) (by lia) e
 wA:=h.wA
 wE:=fun i j hi=>h.wV hr he i j hi
 i2:=h.j2 hr
 i3:=fun i x hi hm hx=>by
  rw[kX E (by lia)]
  by_cases e:x=col
  ·rw[e];grind
  ·rw[h.i3 i x (by lia) hm (by lia),h.i3 r x (Nat.le_refl _) hr (by lia)];grind
 i4:=h.j4 hr
 i5:=h.j5 hr
 i6:=h.j6 hr
 full:=fun e j hj=>by
  by_cases a:j=r
  ·rw[a,mU];lia
  ·rw[iL c (by lia)];exact h.full (by lia) j (by lia)
end
def ent (R:List (List Int))(i x:Nat):Int:=(R.getD i []).getD x 0
def at2 (R:List (List Int)):Mat:=fun i x=>((ent R i x:Int):Rat)
theorem Bar.congr {m:Nat}{A E E':Mat}{r col:Nat}{d:Rat}{c:Nat->Nat}(h:Bar m A E r col d c)(e:∀i,i < m->E i=E' i):Bar m A E' r col d c:=
 { h with
  wE:=fun i j hi=>by rw[<- e i hi];exact h.wE i j hi
  i2:=fun k j hk hj=>by rw[<- e k (by have:=h.rm;lia)];exact h.i2 k j hk hj
  i3:=fun i x hi hm hx=>by rw[<- e i hm];exact h.i3 i x hi hm hx
  i4:=fun i x hm=>by
   rw[h.i4 i x hm];congr 1
   ·exact aT fun k hk=>by rw[e k (by have:=h.rm;lia)]
   ·rw[e i hm]
  i6:=fun Φ hΦ hs k hk=>by rw[<- e k (by have:=h.rm;lia)];exact h.i6 Φ hΦ hs k hk }
theorem Kv (n:Nat):∀(t p r:Nat) (A:Mat),p=r+t+1->p < n->det n (fun i=>A (sw p r i))=- det n A
 |0,p,r,A,h,hp=>by
  subst h;rw[<- kS n r A (by lia)];exact cB fun i j _ _=>by
   show A (sw (r+0+1) r i) j=bY r A i j;unfold sw bY
   by_cases h1:i=r
   ·rw[if_pos h1,if_pos h1]
   ·rw[if_neg h1,if_neg h1]
    by_cases h2:i=r+1
    ·rw[if_pos (by lia),if_pos h2]
    ·rw[if_neg (by lia),if_neg h2]
 |t+1,p,r,A,h,hp=>by
  have ih:=Kv n t (r+t+1) r (bY (r+t+1) A) rfl (by lia);have s1:=kS n (r+t+1) A (by lia);have s2:=kS n (r+t+1) (fun i=>bY (r+t+1) A (sw (r+t+1) r i)) (by lia);have e:det n (fun i=>A (sw p r i))=det n (bY (r+t+1) (fun i=>bY (r+t+1) A (sw (r+t+1) r i))):=cB fun i j _ _=>by
   subst h;show A (sw (r+(t+1)+1) r i) j=bY (r+t+1) (fun i=>bY (r+t+1) A (sw (r+t+1) r i)) i j
   by_cases h1:i=r
   ·have a1:sw (r+(t+1)+1) r i=r+t+1+1:=by unfold sw;rw[if_pos h1];lia
    have a2:sw (r+t+1) r i=r+t+1:=by unfold sw;rw[if_pos h1]
    rw[a1];unfold bY;rw[if_neg (by lia),if_neg (by lia)];dsimp only;rw[a2,if_pos rfl]
   ·by_cases h2:i=r+t+1+1
    ·have a1:sw (r+(t+1)+1) r i=r:=by unfold sw;rw[if_neg h1,if_pos (by lia)]
     have a2:sw (r+t+1) r (r+t+1)=r:=by unfold sw;rw[if_neg (by lia),if_pos rfl]
     rw[a1];unfold bY;rw[if_neg (by lia),if_pos h2];dsimp only;rw[a2,if_neg (by lia),if_neg (by lia)]
    ·have a1:sw (r+(t+1)+1) r i=i:=by unfold sw;rw[if_neg h1,if_neg (by lia)]
     rw[a1]
     by_cases h3:i=r+t+1
     ·have a2:sw (r+t+1) r (r+t+1+1)=r+t+1+1:=by unfold sw;rw[if_neg (by lia),if_neg (by lia)]
      unfold bY;rw[if_pos h3];dsimp only;rw[a2,if_neg (by lia),if_pos rfl,h3]
     ·have a2:sw (r+t+1) r i=i:=by unfold sw;rw[if_neg h1,if_neg h3]
      unfold bY;rw[if_neg h3,if_neg h2];dsimp only;rw[a2,if_neg h3,if_neg h2]
  rw[e,s2,ih,s1];grind
def dZ (R:List (List Int))(p r:Nat):List (List Int):=(R.set p (R.getD r [])).set r (R.getD p [])
theorem Wi (R:List (List Int))(p r:Nat):(dZ R p r).length=R.length:=by unfold dZ;simp
theorem yQ {R:List (List Int)}{p r:Nat}(hp:p < R.length)(hr:r < R.length)(i:Nat):(dZ R p r).getD i []=R.getD (sw p r i) []:=by
 unfold dZ sw;rw[getD_eq_getElem?_getD]
 by_cases h1:i=r
 ·rw[if_pos h1,h1,getElem?_set_self (by simpa using hr)];rfl
 ·rw[if_neg h1,getElem?_set_ne (Ne.symm h1)]
  by_cases h2:i=p
  ·rw[if_pos h2,h2,getElem?_set_self hp];rfl
  ·rw[if_neg h2,getElem?_set_ne (Ne.symm h2),getD_eq_getElem?_getD]
def fZ (upper row:List Int)(col:Nat)(dv:Int):List Int:=zipWith (fun here above=>Int.fdiv (upper.getD col 0*here - row.getD col 0*above) dv) row upper
def bZ (R:List (List Int))(r col:Nat)(dv:Int):List (List Int):=R.mapIdx fun i row=>if i=r then row else fZ (R.getD r []) row col dv
theorem He (R:List (List Int))(r col:Nat)(dv:Int):(bZ R r col dv).length=R.length:=by unfold bZ;simp
theorem oX {R:List (List Int)}{i:Nat}(hi:i < R.length)(r col:Nat)(dv:Int):(bZ R r col dv).getD i []=if i=r then R.getD i [] else fZ (R.getD r []) (R.getD i []) col dv:=by
 unfold bZ;rw[getD_eq_getElem?_getD,getElem?_mapIdx,getElem?_eq_getElem hi];have:R.getD i []=R[i]:=by rw[getD_eq_getElem?_getD,getElem?_eq_getElem hi];rfl
 rw[this];rfl
structure SI (m w:Nat) (A0:Mat) (R:List (List Int)) (r col:Nat) (d sg:Int):Prop where
 len:R.length=m
 wid:∀i,i < m->(R.getD i []).length=w
 bar:∃A c,Bar m A (at2 R) r col (d:Rat) c/\det m A=(sg:Rat)*det m A0
 one:sg=1\/sg=-1
theorem SI.start {m w:Nat}{R:List (List Int)}(h:R.length=m)(hw:∀i,i < m->(R.getD i []).length=w):SI m w (at2 R) R 0 0 1 1:=
 ⟨h,hw,⟨at2 R,id,by
  have:=Bar.start (m:=m) (A:=at2 R) fun i j=>⟨_,rfl⟩
  simpa using this,by simp⟩,.inl rfl⟩
theorem SI.skip {m w:Nat}{A0:Mat}{R:List (List Int)}{r col:Nat}{d sg:Int}(h:SI m w A0 R r col d sg)(hz:∀i,r<=i->i < m->ent R i col=0):SI m w A0 R r (col+1) d sg:=by
 obtain⟨A,c,B,e⟩:=h.bar;exact⟨h.len,h.wid,⟨A,c,B.skip fun i h1 h2=>by unfold at2;rw[hz i h1 h2];simp,e⟩,h.one⟩
theorem SI.swap {m w:Nat}{A0:Mat}{R:List (List Int)}{r col:Nat}{d sg:Int}(h:SI m w A0 R r col d sg){p:Nat}(hp:r < p)(hm:p < m):SI m w A0 (dZ R p r) r col d (-sg):=by
 obtain⟨A,c,B,e⟩:=h.bar;have hl:=h.len;have gd:=fun i=>yQ (R:=R) (p:=p) (r:=r) (by lia) (by lia) i;refine⟨(Wi R p r).trans hl,fun i hi=>?_,⟨_,c,(B.swap (by lia) hm).congr fun i hi=>?_,?_⟩,?_⟩
 ·rw[gd i];exact h.wid _ (yO hm (by lia) hi)
 ·funext x
  show (((R.getD (sw p r i) []).getD x 0:Int):Rat)=((((dZ R p r).getD i []).getD x 0:Int):Rat)
  rw[gd i]
 ·rw[Kv m (p - r - 1) p r A (by lia) hm,e,Rat.intCast_neg];grind
 ·rcases h.one with z | z
  ·right;lia
  ·left;lia
theorem jH {l:List Int}{x:Nat}(h:x < l.length):l[x]?=some (l.getD x 0):=by rw[getD_eq_getElem?_getD,getElem?_eq_getElem h];rfl
theorem pG {l:List Int}{x:Nat}(h:l.length<=x):l.getD x 0=0:=by rw[getD_eq_getElem?_getD,getElem?_eq_none h];rfl
theorem Hc {m w:Nat}{A A0:Mat}{R:List (List Int)}{r col:Nat}{d sg:Int}(h:SI m w A0 R r col d sg){c:Nat->Nat}(B:Bar m A (at2 R) r col (d:Rat) c)(hr:r < m)(hc:col < w)(he:ent R r col≠0){i:Nat}(hi:i < m)(hir:i≠r)(x:Nat) :
  ∃z:Int,(fZ (R.getD r []) (R.getD i []) col d).getD x 0=z/\(z:Rat)=clr (at2 R) r col (d:Rat) i x/\(x < w->ent R r col*ent R i x - ent R i col*ent R r x=d*z):=by
 have dn:d≠0:=fun z=>B.dne (by rw[z];simp);have dq:=B.dne;have heq:at2 R r col≠0:=fun z=>he (Rat.intCast_inj.mp (by unfold at2 at z;simpa using z));have wi:=h.wid i hi;have wr:=h.wid r hr
 by_cases hx:x < w
 ·obtain⟨z,hz⟩:=B.wV hr heq i x hi;have e1:ent R r col*ent R i x - ent R i col*ent R r x=d*z:=by
   rw[kX _ hir] at hz;have:((ent R r col*ent R i x - ent R i col*ent R r x:Int):Rat)=((d*z:Int):Rat):=by
    rw[Rat.intCast_sub,Rat.intCast_mul,Rat.intCast_mul,Rat.intCast_mul,<- hz];show at2 R r col*at2 R i x - at2 R i col*at2 R r x=_;grind
   exact Rat.intCast_inj.mp this
  refine⟨z,?_,hz.symm,fun _=>e1⟩;unfold fZ;have g1:(R.getD i [])[x]?=some ((R.getD i []).getD x 0):=jH (by lia);have g2:(R.getD r [])[x]?=some ((R.getD r []).getD x 0):=jH (by lia);rw[getD_eq_getElem?_getD (l:=zipWith _ _ _),getElem?_zipWith,g1,g2];exact dQ dn e1
 ·refine⟨0,?_,?_,fun h=>absurd h hx⟩
  ·unfold fZ;exact pG (by rw[length_zipWith,wi,wr];lia)
  ·rw[kX _ hir];have a1:at2 R i x=0:=by unfold at2 ent;rw[pG (by lia)];simp
   have a2:at2 R r x=0:=by unfold at2 ent;rw[pG (by lia)];simp
   rw[a1,a2];simp;grind
theorem SI.clear {m w:Nat}{A0:Mat}{R:List (List Int)}{r col:Nat}{d sg:Int}(h:SI m w A0 R r col d sg)(hr:r < m)(hc:col < w)(he:ent R r col≠0):SI m w A0 (bZ R r col d) (r+1) (col+1) (ent R r col) sg:=by
 obtain⟨A,c,B,e⟩:=h.bar;have hl:=h.len;have heq:at2 R r col≠0:=fun z=>he (Rat.intCast_inj.mp (by unfold at2 at z;simpa using z));refine⟨(He R r col d).trans hl,fun i hi=>?_,⟨A,_,(B.clear hr heq).congr fun i hi=>?_,e⟩,h.one⟩
 ·rw[oX (by lia)];split
  ·exact h.wid i hi
  ·unfold fZ;rw[length_zipWith,h.wid i hi,h.wid r hr,Nat.min_self]
 ·funext x
  show clr (at2 R) r col (d:Rat) i x=((((bZ R r col d).getD i []).getD x 0:Int):Rat)
  rw[oX (by lia)]
  by_cases hir:i=r
  ·rw[if_pos hir,hir,xW];rfl
  ·rw[if_neg hir];obtain⟨z,h1,h2,_⟩:=Hc h B hr hc he hi hir x;rw[h1,h2]
def BdR (n:Nat)(R:List (List Int)):Prop:=∀i x,B n (ent R i x)
theorem SI.whole {m w:Nat}{A0:Mat}{R:List (List Int)}{d sg:Int}(h:SI m w A0 R m m d sg):det m A0=(sg:Rat)*(d:Rat):=by
 obtain⟨A,c,B,e⟩:=h.bar;have f:=B.full rfl;have i5:=B.i5;have:det m (fun i j=>A i (c j))=det m A:=cB fun i j _ hj=>by show A i (c j)=A i j;rw[f j hj]
 rw[this,e] at i5;rcases h.one with z | z
 ·rw[z] at i5 ⊢;simp at i5 ⊢;exact i5
 ·rw[z,Rat.intCast_neg] at i5 ⊢;simp at i5 ⊢;grind
theorem SI.lame {m w:Nat}{A0:Mat}{R:List (List Int)}{r:Nat}{d sg:Int}(h:SI m w A0 R r m d sg)(hr:r < m):det m A0=0:=by
 obtain⟨A,c,B,e⟩:=h.bar;obtain⟨n,rfl⟩:∃n,m=n+1:=⟨m - 1,by lia⟩
 have dq:=B.dne;have e1:det (n+1) A=F n A id (A n):=by
  unfold F;exact cB fun i j hi _=>by
   unfold xT
   by_cases z:i=n
   ·rw[if_pos z,z];rfl
   ·rw[if_neg z];rfl
 have hΦ:=Gu n A id;have z:=B.i6 _ hΦ fun s hs=>Fm n A id (by lia);have eA:A n=fun x=>(fun x=>(1 / (d:Rat))*at2 R n x) x+(1 / (d:Rat))*(fun x=>rs r fun k=>A n (c k)*at2 R k x) x:=by
  funext x
  have:=B.i4 n x (by lia);rw[if_neg (by lia)] at this;show A n x=(1 / (d:Rat))*at2 R n x+(1 / (d:Rat))*(rs r fun k=>A n (c k)*at2 R k x)
  grind
 have zs:(rs r fun k=>A n (c k)*F n A id (at2 R k))=0:=by
  have:(rs r fun k=>A n (c k)*F n A id (at2 R k))=rs r fun _=>0:=aT fun k hk=>by rw[z k hk];grind
  rw[this,eG]
 have zn:F n A id (at2 R n)=0:=by
  rw[Ia];have:(rs (n+1) fun j=>sgn (n+j)*at2 R n (id j)*det n fun i k=>A i (id (Mq.skip j k)))=rs (n+1) fun _=>0:=aT fun j hj=>by
   rw[show at2 R n (id j)=0 from B.i3 n j (by lia) (by lia) hj];grind
  rw[this,eG]
 have:det (n+1) A=0:=by
  rw[e1,eA,hΦ,hΦ.mul,hΦ.sum,zs,zn];grind
 rw[this] at e;rcases h.one with q | q
 ·rw[q] at e;simp at e;exact e.symm
 ·rw[q,Rat.intCast_neg] at e;simp at e;grind
def Jp:Nat->(Nat->Rat)->Rat
 |0,_=>1
 |n+1,b=>Jp n b*b n
theorem qR:∀(n:Nat) (b:Nat->Rat) (Q:Mat),det n (fun i j=>b i*Q i j)=Jp n b*det n Q
 |0,_,_=>by simp[det,Jp]
 |n+1,b,Q=>by
  rw[eK,eK,<- fV];refine aT fun j _=>?_;have:=qR n b (fun i k=>Q i (Mq.skip j k));show sgn (n+j)*(b n*Q n j)*det n (fun i k=>b i*Q i (Mq.skip j k))=Jp n b*b n*_;rw[this];grind
end Mq
open Mq (BdR Jp Mat SI bZ cB dZ ent fZ jH oX qR yQ)
namespace Shp
open PySem L2
inductive Imx (D:Addr) (H:Hp):List V->List (List Int)->Prop where
 |nil:Imx D H [] []
 |cons {u:Addr} {r:List Int} {us:List V} {R:List (List Int)} (ne:u≠D) (h:H u=some (.lst (r.map V.int))) (q:Imx D H us R):Imx D H (.ref u :: us) (r :: R)
theorem Imx.same {D:Addr}{H H':Hp}(e:aK H H'):∀{xs:List V} {R:List (List Int)},Imx D H xs R->Imx D H' xs R
 |_,_,.nil=>.nil
 |_,_,.cons n h q=>.cons n (e _ _ h) (q.same e)
theorem Imx.upd {D:Addr}{H:Hp}{o:HO}:∀{xs:List V} {R:List (List Int)},Imx D H xs R->Imx D (L2.upd H D o) xs R
 |_,_,.nil=>.nil
 |_,_,.cons n h q=>.cons n (by rw[aM n];exact h) q.upd
theorem Imx.length {D:Addr}{H:Hp}:∀{xs:List V} {R:List (List Int)},Imx D H xs R->xs.length=R.length
 |_,_,.nil=>rfl
 |_,_,.cons _ _ q=>by rw[length_cons,length_cons,q.length]
theorem Imx.get {D:Addr}{H:Hp}:∀{xs:List V} {R:List (List Int)} {i:Nat} {x:V},Imx D H xs R->xs[i]?=some x->∃u r,x=.ref u/\R[i]?=some r/\u≠D/\H u=some (.lst (r.map V.int))
 |_,_,0,_,.cons n h q,e=>by simp at e;exact⟨_,_,e.symm,rfl,n,h⟩
 |_,_,i+1,_,.cons n h q,e=>by simp at e;exact q.get e
theorem Imx.at {D:Addr}{H:Hp}{xs:List V}{R:List (List Int)}(h:Imx D H xs R){i:Nat}(hi:i < R.length):∃u,xs[i]?=some (.ref u)/\u≠D/\H u=some (.lst ((R.getD i []).map V.int)):=by
 have hx:i < xs.length:=by rw[h.length];exact hi
 obtain⟨u,r,e1,e2,e3,e4⟩:=h.get (getElem?_eq_getElem hx);refine⟨u,by rw[getElem?_eq_getElem hx,e1],e3,?_⟩;rw[getD_eq_getElem?_getD,e2];exact e4
theorem Imx.app {D:Addr}{H:Hp}:∀{xs ys:List V} {R S:List (List Int)},Imx D H xs R->Imx D H ys S->Imx D H (xs++ys) (R++S)
 |_,_,_,_,.nil,k=>k
 |_,_,_,_,.cons n h q,k=>.cons n h (q.app k)
theorem Imx.set {D:Addr}{H:Hp}{u:Addr}{r:List Int}(hn:u≠D)(hu:H u=some (.lst (r.map V.int))):∀{xs:List V} {R:List (List Int)} (i:Nat),Imx D H xs R->Imx D H (xs.set i (.ref u)) (R.set i r)
 |_,_,_,.nil=>by simp;exact .nil
 |_,_,0,.cons n h q=>.cons hn hu q
 |_,_,i+1,.cons n h q=>.cons n h (q.set hn hu i)
theorem Imx.other {D D':Addr}{H:Hp}(hD:H D'=none):∀{xs:List V} {R:List (List Int)},Imx D H xs R->Imx D' H xs R
 |_,_,.nil=>.nil
 |_,_,.cons n h q=>.cons (fun z=>by rw[z,hD] at h;cases h) h (q.other hD)
inductive Wmx (K:Frag) (D:Addr) (H:Hp):List V->List (List Int × Int)->Prop where
 |nil:Wmx K D H [] []
 |cons {t l:Addr} {r:List Int × Int} {us:List V} {rs:List (List Int × Int)} (ne:l≠D) (h:SqT K H t [.ref l,.int r.2]) (f:H l=some (.lst (r.1.map V.int))) (q:Wmx K D H us rs):Wmx K D H (.ref t :: us) (r :: rs)
theorem Wmx.same {K:Frag}{D:Addr}{H H':Hp}(e:aK H H'):∀{xs:List V} {rs:List (List Int × Int)},Wmx K D H xs rs->Wmx K D H' xs rs
 |_,_,.nil=>.nil
 |_,_,.cons n h f q=>.cons n (e.seqT h) (e _ _ f) (q.same e)
theorem Wmx.upd {K:Frag}{D:Addr}{H:Hp}{ys:List V}{o:HO}(hl:H D=some (.lst ys)):∀{xs:List V} {rs:List (List Int × Int)},Wmx K D H xs rs->Wmx K D (L2.upd H D o) xs rs
 |_,_,.nil=>.nil
 |_,_,.cons n h f q=>.cons n (h.upd hl) (by rw[aM n];exact f) (q.upd hl)
theorem Wmx.length {K:Frag}{D:Addr}{H:Hp}:∀{xs:List V} {rs:List (List Int × Int)},Wmx K D H xs rs->xs.length=rs.length
 |_,_,.nil=>rfl
 |_,_,.cons _ _ _ q=>by rw[length_cons,length_cons,q.length]
theorem Wmx.get {K:Frag}{D:Addr}{H:Hp}:∀{xs:List V} {rs:List (List Int × Int)} {i:Nat} {x:V},Wmx K D H xs rs->xs[i]?=some x->∃t l r,x=.ref t/\rs[i]?=some r/\SqT K H t [.ref l,.int r.2]/\H l=some (.lst (r.1.map V.int))
 |_,_,0,_,.cons n h f q,e=>by simp at e;exact⟨_,_,_,e.symm,rfl,h,f⟩
 |_,_,i+1,_,.cons n h f q,e=>by simp at e;exact q.get e
theorem Wmx.app {K:Frag}{D:Addr}{H:Hp}:∀{xs ys:List V} {rs ss:List (List Int × Int)},Wmx K D H xs rs->Wmx K D H ys ss->Wmx K D H (xs++ys) (rs++ss)
 |_,_,_,_,.nil,k=>k
 |_,_,_,_,.cons n h f q,k=>.cons n h f (q.app k)
theorem iU {l:List Int}{i:Nat}(h:i < l.length):(l.map V.int)[i]?=some (.int (l.getD i 0)):=by
 rw[getElem?_map,jH h];rfl
def Pw (K:Frag):Sp:=fun vs H Q _=>∃(a:Addr) (xs:List V) (ps:List Mq.Q2) (n:Nat),vs=[.ref a]/\SqL K H a xs/\Fqs K H xs ps/\Mq.Pos ps/\(∀p∈ps,Bd n p)/\ps.length<=100/\10+n+n*ps.length<=8000/\
 ∀t l H',aK H H'->H l=none->SqT K H' t [.ref l,.int (cO ps)]->H' l=some (.lst ((iw ps).map V.int))->Q (.ref t) H'
def Vf (K:Frag):Sp:=fun vs H Q _=>∃(l D:Addr) (zs:List V) (R:List (List Int)) (r c m w:Nat),vs=[.ref l,.int (r:Int),.int (c:Int)]/\SqL K H l zs/\Imx D H zs R/\R.length=m/\(∀i,i < m->(R.getD i []).length=w)/\c < w/\r<=m/\m<=100/\
 (∀p,r<=p->p < m->ent R p c≠0->Q (.int (p:Int)) H)/\((∀i,r<=i->i < m->ent R i c=0)->Q .non H)
def vP (K:Frag):Sp:=fun vs H Q _=>∃(u v:Addr) (row upper:List Int) (c n:Nat) (dv:Int),vs=[.ref u,.ref v,.int (c:Int),.int dv]/\SqL K H u (row.map V.int)/\SqL K H v (upper.map V.int)/\row.length=upper.length/\row.length<=100/\c < row.length/\dv≠0/\
 (∀i,Mq.B n (row.getD i 0))/\(∀i,Mq.B n (upper.getD i 0))/\Mq.B n dv/\n<=9000/\
 ∀l H',aK H H'->H l=none->H' l=some (.lst ((fZ upper row c dv).map V.int))->Q (.ref l) H'
def wI (K:Frag):Sp:=fun vs H Q _=>∃(l D:Addr) (zs:List V) (R:List (List Int)) (r c m w n:Nat) (dv:Int),vs=[.ref l,.int (r:Int),.int (c:Int),.int dv]/\SqL K H l zs/\Imx D H zs R/\R.length=m/\(∀i,i < m->(R.getD i []).length=w)/\c < w/\w<=100/\r < m/\m<=100/\dv≠0/\BdR n R/\Mq.B n dv/\n<=9000/\
 ∀l' zs' H',aK H H'->H l'=none->H' l'=some (.lst zs')->Imx l' H' zs' (bZ R r c dv)->Q (.ref l') H'
def Hr (l:Addr)(rank:Nat)(pivot sign:Int):HO:=.dK (iX [] [(.inr "rows",.ref l),(.inr "rank",.int (rank:Int)),(.inr "pivot",.int pivot),(.inr "sign",.int sign)])
def wgt (X:List (List Mq.Q2)):Rat:=Mq.det X.length fun i j=>Mq.val ((X.getD i []).getD j Mq.z0)
theorem oY {H:Hp}{d l:Addr}{rank:Nat}{pivot sign:Int}(h:H d=some (Hr l rank pivot sign)):qC H d (.str "rows") (some (.ref l))/\qC H d (.str "rank") (some (.int (rank:Int)))/\qC H d (.str "pivot") (some (.int pivot))/\qC H d (.str "sign") (some (.int sign)):=by
 refine⟨?_,?_,?_,?_⟩
 ·exact qC.k (k:=(Sum.inr "rows":Key)) h
 ·exact qC.k (k:=(Sum.inr "rank":Key)) h
 ·exact qC.k (k:=(Sum.inr "pivot":Key)) h
 ·exact qC.k (k:=(Sum.inr "sign":Key)) h
def rN (X:List (List Mq.Q2)):Int:=X.foldl (fun b row=>b*cO row) 1
theorem wO {X:List (List Mq.Q2)}{i:Nat}{row:List Mq.Q2}(h:X[i]?=some row):rN (X.take (i+1))=rN (X.take i)*cO row:=by
 unfold rN;rw[take_add_one,h,foldl_append];rfl
theorem qK (X:List (List Mq.Q2)):∀i,i<=X.length->((rN (X.take i):Int):Rat)=Jp i fun k=>((cO (X.getD k []):Int):Rat)
 |0,_=>by simp[rN,Jp]
 |i+1,h=>by
  have e:X[i]?=some (X.getD i []):=by rw[getD_eq_getElem?_getD,getElem?_eq_getElem (by lia)];rfl
  rw[wO e,Rat.intCast_mul,qK X i (by lia)];rfl
theorem yX {X:List (List Mq.Q2)}(hX:dS X):∀i,i<=X.length->1<=rN (X.take i)
 |0,_=>by show (1:Int)<=1;lia
 |i+1,h=>by
  have e:X[i]?=some (X.getD i []):=by rw[getD_eq_getElem?_getD,getElem?_eq_getElem (by lia)];rfl
  rw[wO e];have h1:=yX hX i (by lia);have h2:=oC (hX _ (mem_of_getElem? e));have:=Int.mul_pos (show 0 < rN (X.take i) by lia) (show 0 < cO (X.getD i []) by lia);lia
theorem Le {row:List Mq.Q2}(hp:Mq.Pos row){j:Nat}(hj:j < row.length):(((iw row).getD j 0:Int):Rat)=((cO row:Int):Rat)*Mq.val (row.getD j Mq.z0):=by
 have ej:row[j]?=some (row.getD j Mq.z0):=by rw[getD_eq_getElem?_getD,getElem?_eq_getElem hj];rfl
 have mem:row.getD j Mq.z0∈row:=mem_of_getElem? ej;obtain⟨k,hk⟩:=Ba hp _ mem;have e2:(iw row).getD j 0=Dx (cO row) (row.getD j Mq.z0):=by
  unfold iw;rw[getD_eq_getElem?_getD,getElem?_map,ej];rfl
 rw[e2,Mq.Xf (hp _ mem) hk];grind
theorem pW (row:List Mq.Q2):(iw row).length=row.length:=by unfold iw;simp
end Shp
namespace L2
open PySem
theorem Nx {X:Cx}{K:Frag}(h:X.K=K){tg l:Expr}{tl:TE}(hl:PE X l tl):PI X tg l (Vm K tl):=by subst h;exact bO hl
end L2
namespace Mq
theorem kZ (m a:Nat)(v:Rat)(h:a < m):(rs m fun i=>if i=a then v else 0)=v:=by
 induction m with
 |zero=>lia
 |succ m ih=>
  simp only[rs]
  by_cases e:m=a
  ·subst e;rw[if_pos rfl];have:(rs m fun i=>if i=m then v else 0)=rs m fun _=>0:=aT fun i hi=>by rw[if_neg (by lia)]
   rw[this,eG];grind
  ·rw[if_neg e,ih (by lia)];grind
theorem Zr (m p r:Nat)(hp:p < m)(hr:r < m)(F:Nat->Rat):(rs m fun i=>F (sw p r i))=rs m F:=by
 by_cases e:p=r
 ·subst e;exact aT fun i _=>by
   congr 1;unfold sw
   by_cases h:i=p
   ·rw[if_pos h,h]
   ·rw[if_neg h,if_neg h]
 have:(rs m fun i=>F (sw p r i))=rs m fun i=>F i+((if i=r then F p - F r else 0)+(if i=p then F r - F p else 0)):=aT fun i _=>by
  unfold sw
  by_cases h1:i=r
  ·rw[if_pos h1,if_pos h1,if_neg (by lia),h1];grind
  ·rw[if_neg h1,if_neg h1]
   by_cases h2:i=p
   ·rw[if_pos h2,if_pos h2,h2];grind
   ·rw[if_neg h2,if_neg h2];grind
 rw[this,eY,eY,kZ m r _ hr,kZ m p _ hp];grind
structure LI (m:Nat) (Aq:Mat) (R:List (List Int)):Prop where
 lin:∀i x,i < m->x < m->at2 R i x=rs m fun k=>at2 R i (m+k)*Aq k x
 ind:∀lam:Nat->Rat,(∀j,j < m->(rs m fun i=>lam i*at2 R i (m+j))=0)->∀i,i < m->lam i=0
theorem qO {R:List (List Int)}{p r:Nat}(hp:p < R.length)(hr:r < R.length)(i x:Nat):at2 (dZ R p r) i x=at2 R (sw p r i) x:=by
 show ((((dZ R p r).getD i []).getD x 0:Int):Rat)=_;rw[yQ hp hr];rfl
theorem LI.swap {m:Nat}{Aq:Mat}{R:List (List Int)}(h:LI m Aq R)(hl:R.length=m){p r:Nat}(hp:p < m)(hr:r < m):LI m Aq (dZ R p r) where
 lin:=fun i x hi hx=>by
  rw[qO (by lia) (by lia),h.lin _ x (yO hp hr hi) hx];exact aT fun k _=>by rw[qO (by lia) (by lia)]
 ind:=fun lam hz i hi=>by
  have:=h.ind (fun i=>lam (sw p r i)) (fun j hj=>by
   rw[<- hz j hj,<- Zr m p r hp hr];exact aT fun i _=>by
    show lam (sw p r (sw p r i))*_=_;rw[Nu,qO (by lia) (by lia)]) (sw p r i) (yO hp hr hi)
  have e:lam (sw p r (sw p r i))=0:=this
  rwa [Nu] at e
theorem sP {m w:Nat}{A0:Mat}{R:List (List Int)}{r col:Nat}{d sg:Int}(h:SI m w A0 R r col d sg)(hr:r < m)(hc:col < w)(he:ent R r col≠0){i:Nat}(hi:i < m)(x:Nat) :
  at2 (bZ R r col d) i x=if i=r then at2 R i x else (at2 R r col*at2 R i x - at2 R i col*at2 R r x) / (d:Rat):=by
 obtain⟨A,c,B,e⟩:=h.bar;have hl:=h.len;show ((((bZ R r col d).getD i []).getD x 0:Int):Rat)=_;rw[oX (by lia)]
 by_cases hir:i=r
 ·rw[if_pos hir,if_pos hir];rfl
 ·rw[if_neg hir,if_neg hir];obtain⟨z,h1,h2,_⟩:=Hc h B hr hc he hi hir x;rw[h1,h2,kX _ hir]
theorem SI.dne {m w:Nat}{A0:Mat}{R:List (List Int)}{r col:Nat}{d sg:Int}(h:SI m w A0 R r col d sg):(d:Rat)≠0:=by
 obtain⟨A,c,B,e⟩:=h.bar;exact B.dne
theorem LI.clear {m w:Nat}{Aq A0:Mat}{R:List (List Int)}{r col:Nat}{d sg:Int}(h:LI m Aq R)(s:SI m w A0 R r col d sg)(hr:r < m)(hc:col < w)(he:ent R r col≠0):LI m Aq (bZ R r col d):=by
 have dn:=s.dne;have hn:at2 R r col≠0:=fun z=>he (Rat.intCast_inj.mp (by unfold at2 at z;simpa using z));have cl:=fun (i:Nat) (hi:i < m) (x:Nat)=>sP s hr hc he hi x;refine⟨fun i x hi hx=>?_,fun lam hz i hi=>?_⟩
 ·rw[cl i hi x]
  by_cases e:i=r
  ·rw[if_pos e,h.lin i x hi hx];exact aT fun k _=>by rw[cl i hi,if_pos e]
  ·rw[if_neg e,h.lin i x hi hx,h.lin r x hr hx];have:(rs m fun k=>at2 (bZ R r col d) i (m+k)*Aq k x)=rs m fun k=>(at2 R r col / (d:Rat))*(at2 R i (m+k)*Aq k x)+(-(at2 R i col / (d:Rat)))*(at2 R r (m+k)*Aq k x):=aT fun k _=>by rw[cl i hi,if_neg e];grind
   rw[this,eY,fV,fV];grind
 ·-- the factors of the rows as they were
  have key:=h.ind (fun i=>if i=r then lam r - (rs m fun k=>if k=r then 0 else lam k*(at2 R k col / (d:Rat))) else lam i*(at2 R r col / (d:Rat))) (fun j hj=>by
   have e0:=hz j hj;have e1:(rs m fun i=>lam i*at2 (bZ R r col d) i (m+j))=rs m fun i=>(if i=r then lam r*at2 R r (m+j) else 0)+((if i=r then 0 else lam i*(at2 R r col / (d:Rat))*at2 R i (m+j))+(-(at2 R r (m+j)))*(if i=r then 0 else lam i*(at2 R i col / (d:Rat)))):=aT fun i hi=>by
    rw[cl i hi]
    by_cases e:i=r
    ·rw[if_pos e,if_pos e,if_pos e,if_pos e,e];grind
    ·rw[if_neg e,if_neg e,if_neg e,if_neg e];grind
   rw[e1,eY,eY,fV,kZ m r _ hr] at e0;have e2:(rs m fun i=>(if i=r then lam r - (rs m fun k=>if k=r then 0 else lam k*(at2 R k col / (d:Rat))) else lam i*(at2 R r col / (d:Rat)))*at2 R i (m+j))=rs m fun i=>(if i=r then (lam r - (rs m fun k=>if k=r then 0 else lam k*(at2 R k col / (d:Rat))))*at2 R r (m+j) else 0)+(if i=r then 0 else lam i*(at2 R r col / (d:Rat))*at2 R i (m+j)):=aT fun i _=>by
    by_cases e:i=r
    ·rw[if_pos e,if_pos e,if_pos e,e];grind
    ·rw[if_neg e,if_neg e,if_neg e];grind
   rw[e2,eY,kZ m r _ hr];grind)
  have other:∀k,k < m->k≠r->lam k=0:=fun k hk e=>by
   have:=key k hk;rw[if_neg e] at this;have n2:at2 R r col / (d:Rat)≠0:=fun z=>hn (by grind);grind
  by_cases e:i=r
  ·have:=key r hr;rw[if_pos rfl] at this;have z:(rs m fun k=>if k=r then 0 else lam k*(at2 R k col / (d:Rat)))=rs m fun _=>0:=aT fun k hk=>by
    by_cases e:k=r
    ·rw[if_pos e]
    ·rw[if_neg e,other k hk e];grind
   rw[z,eG] at this;rw[e];grind
  ·exact other i hi e
theorem LI.lame {m w:Nat}{Aq A0:Mat}{R:List (List Int)}{d sg:Int}{r:Nat}(h:LI m Aq R)(s:SI m w A0 R r m d sg)(hr:r < m):(∃k,k < m/\ent R (m - 1) (m+k)≠0)/\∀x,x < m->(rs m fun k=>at2 R (m - 1) (m+k)*Aq k x)=0:=by
 obtain⟨A,c,B,e⟩:=s.bar;refine⟨Classical.byContradiction fun n=>?_,fun x hx=>?_⟩
 ·have all:∀k,k < m->ent R (m - 1) (m+k)=0:=fun k hk=>Classical.byContradiction fun z=>n ⟨k,hk,z⟩;have:=h.ind (fun i=>if i=m - 1 then 1 else 0) (fun j hj=>by
   have:(rs m fun i=>(if i=m - 1 then (1:Rat) else 0)*at2 R i (m+j))=rs m fun _=>0:=aT fun i _=>by
    by_cases e:i=m - 1
    ·rw[if_pos e,e];have:at2 R (m - 1) (m+j)=0:=by unfold at2;rw[all j hj];simp
     rw[this];grind
    ·rw[if_neg e];grind
   rw[this,eG]) (m - 1) (by lia)
  rw[if_pos rfl] at this;grind
 ·rw[<- h.lin (m - 1) x (by lia) hx];exact B.i3 (m - 1) x (by lia) (by lia) hx
end Mq
namespace PySem
open Sem (wp)
section
variable {prog:Program} {w:World} {A:Around} {E:Value->Shared->Prop} {h:Heap} {g:Array GenState} {d:Drawn} {t:Nat} {os:OsState}
variable {nm q:Str} {C N f:Addr} {bs bm bmB:List Value} {hdct:Bool} {sn:List Str} {sub:List Value} {ab:Bool} {col:Option Bool} {dd:Option Addr} {k0 k1 k2 k3 k5:Option Value} {B Bn newId nid initId inN:String} {bmN:List Value}
abbrev eP (h:Heap)(C:Addr)(rest:List Value):Heap:=(h.push { cls:=.type "tuple",data:=.seq rest.toArray }).push { cls:=.ref C,data:=.fields #[.ref h.objs.size,.none,.none,.none,.bool false,.none] }
theorem tJ (Fn:ExcBaseFacts Bn newId inN bmN)(hBn:bmB.contains (.type Bn)=true)(F:ExcBaseFacts B nid initId bmB)(T:OwnTail h bmB bm){rest:List Value}{Q:Fin->Shared->Prop}(hC:h.get? C=some (excClassObj nm q C N bs bm hdct sn sub ab col dd k0 k1 k2 k3 k5 newId))(hl:W.Looks (model prog w) h (typeLookup (.ref C) "__init__") (some (.ref f)))(hb:∀self,W.Looks (model prog w) h (bindSpecial (.ref f) self) (.ref f,[self]))(hq:wpAny (model prog w) A (call (.ref f) (.ref (h.objs.size+1) :: rest)) (fun r s'=>r=.none/\Q (.done (.ret (.ref (h.objs.size+1)))) s') E ⟨eP h C rest,g,d,t,os⟩)(hrest:rest.length<=sizeLine) :
  wpAny (model prog w) A (Builtin.«type.__call__» ⟨.ref C :: rest,[]⟩) Q E ⟨h,g,d,t,os⟩:=by
 repeat (first | with_reducible refine wpAny_loadPart_at hC ?_ | with_reducible refine wpAny_madeBy_exc hC ?_ | wp_step)
 refine codeAny_call_builtin_code (Code.quiet_builtin _ Fn.quiet) (wpAny_check_new_subU Fn hBn T hC ?_);refine codeAny_exc_new_subU Fn hBn F T hC ?_ hrest;show wpAny _ _ _ _ _ _;have k:∀b o,h.get? b=some o->(eP h C rest).get? b=some o:=fun b o e=>Heap.get?_push_of_some _ (Heap.get?_push_of_some _ e);have hC₁:=k _ _ hC;have hget:(eP h C rest).get? (h.objs.size+1)=some { cls:=.ref C,data:=.fields #[.ref h.objs.size,.none,.none,.none,.bool false,.none] }:=by
  have:=Heap.get?_push_size (h.push { cls:=.type "tuple",data:=.seq rest.toArray }) (o:={ cls:=.ref C,data:=.fields #[.ref h.objs.size,.none,.none,.none,.bool false,.none] }) rfl
  rwa [Heap.size_push] at this
 have hcC:(Value.ref C :: bm).contains (.ref C)=true:=by simp
 unfold isInstance
 repeat (first | with_reducible refine wpAny_loadPart_at hget ?_ | (with_reducible refine wpAny_isSubtype_exc hC₁ ?_;rw[hcC]) | wp_step)
 show wpAny _ _ (typeLookup (.ref C) _) _ _ _;refine(hl.keeps k).here ?_;refine wpAny_holding (wpAny_bind (((hb _).keeps k).here ?_));refine wpAny_bind (wpAny_mono hq (fun r s' z=>?_) fun _ _ z=>z);obtain⟨rfl,z⟩:=z;refine wpAny_pure ?_;exact wpAny_pure z
theorem Ik (Fn:ExcBaseFacts Bn newId inN bmN)(hBn:bmB.contains (.type Bn)=true)(F:ExcBaseFacts B nid initId bmB)(T:OwnTail h bmB bm){rest:List Value}{Q:Value->Shared->Prop}(hC:h.get? C=some (excClassObj nm q C N bs bm hdct sn sub ab col dd k0 k1 k2 k3 k5 newId))(hl:W.Looks (model prog w) h (typeLookup (.ref C) "__init__") (some (.ref f)))(hb:∀self,W.Looks (model prog w) h (bindSpecial (.ref f) self) (.ref f,[self]))(hq:wpAny (model prog w) (A.under (.builtin "type.__call__" ⟨.ref C :: rest,[]⟩)) (call (.ref f) (.ref (h.objs.size+1) :: rest)) (fun r s'=>r=.none/\Q (.ref (h.objs.size+1)) s') E ⟨eP h C rest,g,d,t,os⟩)(hrest:rest.length<=sizeLine) :
  wpAny (model prog w) A (call (.ref C) rest) Q E ⟨h,g,d,t,os⟩:=by
 have f1:=tc_lookup;have f2:=tc_bind (.ref C);have hT:(⟨h,g,d,t,os⟩:Shared).TypeIs (.ref C) "type":=⟨_,hC,rfl⟩
 refine wpAny_call (codeAny_of_tree ?_);show wpAny _ _ (callAny (.ref C) _) _ _ _
 repeat (any_goals (first | assumption | with_reducible refine wpAny_loadPart_at hC ?_ | wp_step))
 refine⟨rfl,?_⟩;refine codeAny_call_builtin_at (Code.quiet_builtin _ (by decide +kernel)) entry_typeCall (wpAny_check_type_call_sub hC (tJ Fn hBn F T hC hl hb ?_ hrest));exact hq
end
section
variable {M:Model} {A:Around} {E:Value->Shared->Prop} {env:Env}
variable {nm q:Str} {C N:Addr} {bs bm:List Value} {hdct:Bool} {sn:List Str} {sub:List Value} {ab:Bool} {col:Option Bool} {dd:Option Addr} {k0 k1 k2 k3 k5:Option Value} {newId:String}
theorem gG {s:Shared}{x:Sem Value}{Q:Flow->Shared->Prop}(hbase:bm.contains (.type "BaseException")=true)(hh:A.handled=none)(h:wpAny M A x (fun v s₁=>∃e t dx,v=.ref e/\s₁.heap.get? C=some (excClassObj nm q C N bs bm hdct sn sub ab col dd k0 k1 k2 k3 k5 newId)/\
   s₁.heap.get? e=some { cls:=.ref C,dict:=dx,data:=.fields #[.ref t,.none,.none,.none,.bool false,.none] }/\E (.ref e) s₁) E s) :
  wpAny M A (raiseStmt env (some x) none) Q E s:=by
 have hcB:(Value.ref C :: bm).contains (.type "BaseException")=true:=by rw[contains_cons,hbase,Bool.or_true]
 unfold raiseStmt;refine wpAny_bind (wpAny_mono h (fun v s₁ h₁=>?_) fun _ _ x=>x);obtain⟨e,t,dx,rfl,hC,he,hE⟩:=h₁;obtain⟨hp,g,d,tk,os⟩:=s₁
 repeat (first | with_reducible refine wpAny_loadPart_at he ?_ | with_reducible refine wpAny_loadPart_at hC ?_ | (with_reducible refine wpAny_isSubtype_exc hC ?_;rw[hcB]) | wp_step)
 exact wpAny_raiseNew_none hh hE
end
section
variable {prog:Program} {w:World} {A:Around} {E:Value->Shared->Prop} {s:Shared} {env:Env}
variable {nm q:Str} {C N f:Addr} {bs bm bmB:List Value} {hdct:Bool} {sn:List Str} {sub:List Value} {ab:Bool} {col:Option Bool} {dd:Option Addr} {k0 k1 k2 k3 k5:Option Value} {B Bn newId nid initId inN:String} {bmN:List Value}
theorem Ei (Fn:ExcBaseFacts Bn newId inN bmN)(hBn:bmB.contains (.type Bn)=true)(F:ExcBaseFacts B nid initId bmB){x:Str}{np cpos pos:Pos}{args:List Expr}{Q:Flow->Shared->Prop}(hbase:bm.contains (.type "BaseException")=true)(hh:A.handled=none)(hplain:(backTo cpos (starEach args env)).any (·.1)=false)(h:wpAny (model prog w) A (eval (.Name x np) env) (fun f' s₁=>f'=.ref C/\wpAny (model prog w) A (evalArgs (.ref C) true (backTo cpos (starEach args env)) [])
   (fun a s₂=>a.kw=[]/\a.pos.length<=sizeLine/\s₂.heap.get? C=some (excClassObj nm q C N bs bm hdct sn sub ab col dd k0 k1 k2 k3 k5 newId)/\OwnTail s₂.heap bmB bm/\
    W.Looks (model prog w) s₂.heap (typeLookup (.ref C) "__init__") (some (.ref f))/\(∀self,W.Looks (model prog w) s₂.heap (bindSpecial (.ref f) self) (.ref f,[self]))/\
    wpAny (model prog w) (A.under (.builtin "type.__call__" ⟨.ref C :: a.pos,[]⟩)) (call (.ref f) (.ref (s₂.heap.objs.size+1) :: a.pos)) (fun r s'=>r=.none/\∃t dx,s'.heap.get? C=some (excClassObj nm q C N bs bm hdct sn sub ab col dd k0 k1 k2 k3 k5 newId)/\
     s'.heap.get? (s₂.heap.objs.size+1)=some { cls:=.ref C,dict:=dx,data:=.fields #[.ref t,.none,.none,.none,.bool false,.none] }/\E (.ref (s₂.heap.objs.size+1)) s') E { s₂ with heap:=eP s₂.heap C a.pos }) E s₁) E s) :
  wpAny (model prog w) A (exec (.Raise (some (.Call (.Name x np) args [] cpos)) none pos) env) Q E s:=by
 rw[arm_exec_Raise]
 first
  |refine wpAny_bind (wpAny_standAt (gG (C:=C) (nm:=nm) (q:=q) (N:=N) (bs:=bs) (bm:=bm) (hdct:=hdct) (sn:=sn) (sub:=sub) (ab:=ab) (col:=col) (dd:=dd) (k0:=k0) (k1:=k1) (k2:=k2) (k3:=k3) (k5:=k5) (newId:=newId) hbase hh (wpAny_bind (wpAny_mono (wpAny_Call_ofName (wpAny_mono h (fun f s₁ h₁=>?_) fun _ _ x=>x)) (fun v s₃ h₃=>wpAny_bind (wpAny_standAt (wpAny_pure h₃))) fun _ _ x=>x))))
  | (simp only[evalOpt,Option.map];refine wpAny_bind (wpAny_standAt (gG (C:=C) (nm:=nm) (q:=q) (N:=N) (bs:=bs) (bm:=bm) (hdct:=hdct) (sn:=sn) (sub:=sub) (ab:=ab) (col:=col) (dd:=dd) (k0:=k0) (k1:=k1) (k2:=k2) (k3:=k3) (k5:=k5) (newId:=newId) hbase hh (wpAny_bind (wpAny_mono (wpAny_Call_ofName (wpAny_mono h (fun f s₁ h₁=>?_) fun _ _ x=>x)) (fun v s₃ h₃=>wpAny_bind (wpAny_standAt (wpAny_pure h₃))) fun _ _ x=>x)))))
  | (refine wpAny_bind (wpAny_standAt (gG (C:=C) (nm:=nm) (q:=q) (N:=N) (bs:=bs) (bm:=bm) (hdct:=hdct) (sn:=sn) (sub:=sub) (ab:=ab) (col:=col) (dd:=dd) (k0:=k0) (k1:=k1) (k2:=k2) (k3:=k3) (k5:=k5) (newId:=newId) hbase hh ?_));refine wpAny_bind (wpAny_mono (wpAny_Call_ofName (wpAny_mono h (fun f s₁ h₁=>?_) fun _ _ x=>x)) (fun v s₃ h₃=>wpAny_bind (wpAny_standAt (wpAny_pure h₃))) fun _ _ x=>x))
 obtain⟨rfl,h₁⟩:=h₁;unfold callWith;refine wpAny_bind (wpAny_holding (wpAny_mono h₁ (fun a s₂ h₂=>wpAny_bind (wpAny_standAt ?_)) fun _ _ x=>x));obtain⟨apos,akw⟩:=a;obtain⟨hkw,hlen,hC,T,hl,hb,h₂⟩:=h₂;obtain rfl:akw=[]:=hkw;obtain⟨hp,g,d,tk,os⟩:=s₂;simp only[hplain];refine wpAny_bind (wpAny_keeperOf_exc hC ?_);refine wpAny_bind (Ik Fn hBn F T hC hl hb (wpAny_mono h₂ (fun r s' z=>?_) fun _ _ z=>z) hlen);obtain⟨rfl,t,dx,z1,z2,z3⟩:=z;exact⟨rfl,wpAny_bind (wpAny_holding (wpAny_point (wpAny_pure ⟨_,t,dx,rfl,z1,z2,z3⟩)))⟩
end
end PySem
namespace L2
open PySem PySem.Spec PyProof.Rows
def kJ (a:Addr)(C:Value)(d:Option Addr):HO:=.ext fun h=>∃t,h.get? a=some { cls:=C,dict:=d,data:=.fields #[.ref t,.none,.none,.none,.bool false,.none] }
theorem yH {P:Program}{w:World}{H:Hp}{h:Heap}{a t:Addr}{C:Value}{d:Option Addr}(e:h.get? a=some { cls:=C,dict:=d,data:=.fields #[.ref t,.none,.none,.none,.bool false,.none] }):cD P w H h a (kJ a C d):=
 ⟨⟨t,e⟩,⟨_,e⟩,fun h1 h2 ⟨t',e'⟩ k=>⟨t',k _ e'⟩⟩
def mV (H:Hp)(x:Addr):Hp:=fun b=>if b=x then none else H b
theorem jK {H:Hp}{x b:Addr}(h:b≠x):mV H x b=H b:=by unfold mV;rw[if_neg h]
theorem Aj (H:Hp)(x:Addr):mV H x x=none:=by unfold mV;rw[if_pos rfl]
section
variable {X:Cx} {pins:List (Addr × Obj)} {σ:List (Option V)} {H:Hp} {s:Shared}
theorem Inv.forget {x:Addr}{φ:Heap->Prop}(I:Inv X pins σ H s)(hx:H x=some (.ext φ)):Inv X pins σ (mV H x) s:=by
 have non:∀b,H b=none->mV H x b=none:=fun b e=>by unfold mV;split;rfl;exact e
 have keep:∀b u,H b=some u->u≠.ext φ->mV H x b=some u:=fun b u e n=>by
  have:b≠x:=fun z=>by rw[z,hx] at e;cases e;exact n rfl
  rw[jK this];exact e
 refine⟨I.ok,I.os,I.bare,⟨I.base.keep,I.base.slot,fun b o e1 e2 e3=>non b (I.base.free b o e1 e2 e3),I.base.there,fun b xs e=>keep b _ (I.base.tups b xs e) (fun z=>by cases z),fun b o u e=>keep b _ (I.base.frzs b o u e) (fun z=>by cases z),fun b ps e=>?_⟩,I.loc,I.cell,non _ I.free,fun y c e=>non _ (I.freeC y c e),fun p hp=>?_,fun b u e=>?_,I.len⟩
 ·obtain⟨more,q⟩:=I.base.tbls b ps e;exact⟨more,keep b _ q (fun z=>by cases z)⟩
 ·obtain⟨a1,a2,a3⟩:=I.pin p hp;exact⟨a1,non _ a2,a3⟩
 ·have ne:b≠x:=fun z=>by rw[z,Aj] at e;cases e
  rw[jK ne] at e;exact(I.hok b u e).stay (fun c v _ q=>q) (fun c q=>keep c _ q (fun z=>by cases z)) fun c xs q=>keep c _ q (fun z=>by cases z)
end
structure oB (K:Frag) (C C0 f:Addr):Prop where
 cls:∃(nm q:Str) (N:Addr) (bs:List Value) (sn:List Str) (sub:List Value) (ab:Bool) (col:Option Bool) (dd:Option Addr) (k0 k1 k2 k3 k5:Option Value),K.lookup C=some (excClassObj nm q C N bs (.ref C0 :: rK) true sn sub ab col dd k0 k1 k2 k3 k5 "ValueError.__new__")
 base:∃(nm q:Str) (N:Addr) (bs:List Value) (hdct:Bool) (sn:List Str) (sub:List Value) (ab:Bool) (col:Option Bool) (dd:Option Addr) (k0 k1 k2 k3 k5:Option Value),K.lookup C0=some (excClassObj nm q C0 N bs rK hdct sn sub ab col dd k0 k1 k2 k3 k5 "ValueError.__new__")
 exc:Na K C0
 ini:W.findIn K (.ref C) "__init__"=some (some (.ref f))
 fn:W.typeIn K (.ref f)=some (.type "function")
theorem oB.tail {K:Frag}{C C0 f:Addr}(e:oB K C C0 f){h:Heap}(X:K.In h):OwnTail h rK (.ref C0 :: rK):=by
 obtain⟨nm,q,N,bs,hdct,sn,sub,ab,col,dd,k0,k1,k2,k3,k5,l⟩:=e.base;have z:=e.exc;unfold Na W.excIn at z;rw[l] at z;simp only[Bool.and_eq_true,beq_iff_eq,Bool.not_eq_true'] at z;obtain⟨⟨⟨⟨_,_⟩,ht⟩,hok⟩,hni⟩:=z;exact .own (X _ _ l) (.of_isNs (W.isNs_of_in X hok)) (W.nsMap_none_of_in X hok hni) .base
section
variable {X:Cx} {pins:List (Addr × Obj)} {σ:List (Option V)} {H:Hp} {s:Shared} {k:Nat} {f C C0:Addr} {fd:FuncData} {ps:List Str} {sp:Sp}
def Rj (C:Addr)(sp:Sp)(E:XK)(ta:TA):TS:=fun _ σ H=>ta σ H fun vs H1=>vs.length<=sizeLine/\∀x,H1 x=none->sp (.ref x :: vs) (upd H1 x (kJ x (.ref C) none)) (fun v H2=>v=.non/\∃dx,H2 x=some (kJ x (.ref C) dx)/\E (.ref C) dx (mV H2 x)) E0
theorem xG {E:XK}{x:Str}{np cpos pos:Pos}{e₀:Expr}{es:List Expr}{ta:TA}(fm:Frm X)(xo:Tg X E)(hc:X.calm=true)(hg:Gl X x)(hm:X.mg x=some (.ref C))(q:oB X.K C C0 f)(F:aJ X.prog X.w X.K X.mg X.base CX0 k f fd ps sp)(hr:fQ (k+1) X.A)(hb:aP X.K fd ps [])(ha:PA X (e₀ :: es) ta)(hdb:(x == ("__debug__":Str))=false:=by decide)(he:starEach (e₀ :: es) X.env=(false,eval e₀ X.env) :: starEach es X.env:=by rfl)(hpl:(backTo cpos (starEach es X.env)).any (·.1)=false:=by rfl) :
  PS X (.Raise (some (.Call (.Name x np) (e₀ :: es) [] cpos)) none pos) (Rj C sp E ta):=by
 intro pins s σ H D I h;obtain⟨nm,qn,N,bs,sn,sub,ab,col,dd,k0,k1,k2,k3,k5,lC⟩:=q.cls;have FB:=PySem.F.excBase_ValueError;have T:=q.tail I.mod.kin;refine Ei (C:=C) (f:=f) (nm:=nm) (q:=qn) (N:=N) (bs:=bs) (bm:=.ref C0 :: rK) (hdct:=true) (sn:=sn) (sub:=sub) (ab:=ab) (col:=col) (dd:=dd) (k0:=k0) (k1:=k1) (k2:=k2) (k3:=k3) (k5:=k5)
  FB (by decide) FB (T.hasType FB.hasBase) (I.ok.hd hc) (by rw[he];show (false || (backTo cpos (starEach es X.env)).any (·.1))=false;rw[hpl];rfl) (iR I hg hm ⟨rfl,?_⟩ hdb)
 have ha':=ha cpos pins s σ H _ I h;rw[he] at ha' ⊢;refine Calls.evalArgs_plain (wpAny_mono ha' (fun us s2 h2=>?_) fun _ _ y=>y);obtain⟨vs,H1,I1,r,hz,q1⟩:=h2;have kIn:=I1.kIn;refine⟨rfl,by rw[<- r.length];exact hz,kIn _ _ lC,q.tail kIn,W.looks_findIn kIn q.ini,fun self=>W.bind_fn kIn self q.fn,?_⟩;dsimp only;have kh:∀b o,s2.heap.get? b=some o->(eP s2.heap C us).get? b=some o:=fun b o e=>Heap.get?_push_of_some _ (Heap.get?_push_of_some _ e);have hget:(eP s2.heap C us).get? (s2.heap.objs.size+1)=some { cls:=.ref C,data:=.fields #[.ref s2.heap.objs.size,.none,.none,.none,.bool false,.none] }:=by
  have:=Heap.get?_push_size (s2.heap.push { cls:=.type "tuple",data:=.seq us.toArray }) (o:={ cls:=.ref C,data:=.fields #[.ref s2.heap.objs.size,.none,.none,.none,.bool false,.none] }) rfl
  rwa [Heap.size_push] at this
 have fr:H1 (s2.heap.objs.size+1)=none:=I1.hok.fresh (Nat.le_succ _);have I2:Inv X pins σ (upd H1 (s2.heap.objs.size+1) (kJ (s2.heap.objs.size+1) (.ref C) none)) { s2 with heap:=eP s2.heap C us }:=
  I1.laid (t':=s2.toks) kh (Nat.le_succ _) (yH hget)
 have hq:=q1 _ fr;have rv:bL (V.ref (s2.heap.objs.size+1) :: vs) (Value.ref (s2.heap.objs.size+1) :: us):=.cons rfl r;have hl:(Value.ref (s2.heap.objs.size+1) :: us++[]).length=ps.length:=by
  have e:=rv.length;rw[F.len _ _ _ _ hq] at e;rw[append_nil];exact e.symm
 refine wpAny_call (codeAny_mono (F.run _ X.stack _ _ ⟨Value.ref (s2.heap.objs.size+1) :: us,[]⟩ (Value.ref (s2.heap.objs.size+1) :: us) _ _ E0 (hr.make C us []) (I2.env0.make C us []) (by have:=hb _ (Value.ref (s2.heap.objs.size+1) :: us) I2.kIn hl;rwa [append_nil] at this) rv hq) fun res s' hq'=>?_)
 cases res with
 |error e=>exact(show False from hq').elim
 |ok fl=>
  cases fl with
  |ret u=>
   obtain⟨v,H',os,bare,un,hok,rvu,ev,dx,ex,q3⟩:=hq';subst ev;have J:Inv X pins σ H' s':=I2.call' (ch:=[]) os un hok bare fun b z=>absurd z (by simp);obtain⟨⟨t,ht⟩,_⟩:=(show cD X.prog X.w H' s'.heap _ (kJ _ (.ref C) dx) from J.hok _ _ ex)
   refine⟨rvu,t,dx,J.kIn _ _ lC,ht,?_⟩;refine xo pins σ _ s' _ (.ref C) dx ⟨J.forget ex,s2.heap,fun p hp z=>?_,fun b o e=>I1.base.there b o e (by rw[fm.ex];simp),fun b o e=>un.there b o (kh b o e) (by simp),⟨Gq (Nat.le_succ _),Aj _ _,_,_,.none,ht,rfl,rfl,rfl,rfl,.inl rfl⟩⟩ q3;rw[(I1.pin p hp).1] at z;cases z
  |next=>exact False.elim hq'
  |brk=>exact False.elim hq'
  |cont=>exact False.elim hq'
end
theorem Yv {H:Hp}{a:Addr}{o:HO}(h:H a=some o):upd H a o=H:=by
 funext b
 by_cases e:b=a
 ·rw[e,aB,h]
 ·rw[aM e]
section
variable {X:Cx} {C C0 f:Addr}
theorem yZ:fK X (.builtin "ValueError.__init__") (fun xs H Q=>∃a C C0 f d v,xs=[.ref a,v]/\H a=some (kJ a (.ref C) d)/\oB X.K C C0 f/\Q .non H):=by
 intro pins s σ H xs us Q I r h;obtain⟨a,C,C0,f,d,v,rfl,ea,q,hq⟩:=h;obtain⟨u1,us',rfl,r1,r2⟩:∃u1 us',us=u1 :: us'/\bS (.ref a) u1/\bL [v] us':=by cases r with | cons p q=>exact⟨_,_,rfl,p,q⟩
 obtain rfl:u1=Value.ref a:=r1;obtain⟨⟨t,he⟩,_⟩:=(show cD X.prog X.w H s.heap a (kJ a (.ref C) d) from I.hok a _ ea)
 obtain⟨nm,qn,N,bs,sn,sub,ab,col,dd,k0,k1,k2,k3,k5,lC⟩:=q.cls;have FB:=PySem.F.excBase_ValueError;have T:=q.tail I.kIn;have hl:us'.length=1:=r2.length.symm;have hC:=I.kIn _ _ lC;have fin:∀s',s'={ s with heap:=(s.heap.push { cls:=.type "tuple",data:=.seq us'.toArray }).update a (Obj.mapFields (·.setIfInBounds 0 (.ref s.heap.objs.size))) }->EP X pins σ Q .none s':=by
  rintro s' rfl;have I1:Inv X pins σ H { s with heap:=s.heap.push { cls:=.type "tuple",data:=.seq us'.toArray } }:=I.kept (t':=s.toks) fun b o e=>Heap.get?_push_of_some _ e;have he1:=Heap.get?_push_of_some (h:=s.heap) { cls:=.type "tuple",data:=.seq us'.toArray } he;have e2:=Heap.get?_update_self (Obj.mapFields (·.setIfInBounds 0 (.ref s.heap.objs.size))) he1 rfl;have I2:=I1.write (x:=a) (e:=a) (t':=s.toks) (o:=kJ a (.ref C) d) (by rw[ea];exact True.intro) (.inl rfl) (fun b u nb e=>(Heap.get?_update_other _ _ (Ne.symm nb)).trans e) ⟨_,e2⟩ (yH (t:=s.heap.objs.size) e2);rw[Yv ea] at I2;exact⟨.non,H,I2,rfl,hq⟩
 obtain⟨hp,g,dr,tk,os⟩:=s;refine wpAny_call (codeAny_call_builtin FB.init.plain FB.initEntry (wpAny_check_init_subU FB T hC he rfl ?_));unfold Builtin.«BaseException.__init__»;dsimp only;rw[if_neg (by simp)];unfold newTuple Builtin.BaseException.bexcPut;have he₁:=Heap.get?_push_of_some (h:=hp) { cls:=.type "tuple",data:=.seq us'.toArray } he;refine wpAny_bind (wpAny_newObj_type (wpAny_bind (wpAny_bind (wpAny_field he₁ rfl rfl (wpAny_bind (wpAny_setField he₁ rfl (show 0 < 6 by decide) ?_))))) (by show us'.toArray.size<=sizeLine;rw[size_toArray,hl];decide));exact wpAny_letGo (wpAny_pure (fin _ rfl))
structure Ru (K:Frag) (C0:Addr):Prop where
 sp:W.specialIn K (.ref C0) "__getattribute__"=some (some (.builtin "type.__getattribute__"))
 rd:W.readsIn K C0 (.type "type")=true
 fi:W.findCls K (.ref C0) (.type "type") "__init__"=some (.val (.builtin "ValueError.__init__"))
def Ku (K:Frag)(ta:TA):TE:=fun σ H Q=>ta σ H fun vs H1=>∃a C C0 f d v,vs=[.ref a,v]/\H1 a=some (kJ a (.ref C) d)/\oB K C C0 f/\Q .non H1
theorem uS {pl:Sem Bool}{x:Str}{np apos pos:Pos}{e:Expr}{es:List Expr}{t:TA}(hg:Gl X x)(hm:X.mg x=some (.ref C0))(c:Ru X.K C0)(ha:PA X (e :: es) t)(hdb:(x == ("__debug__":Str))=false:=by decide)(hst:starEach (e :: es) X.env=(false,eval e X.env) :: starEach es X.env:=by rfl)(hpl:(backTo pos (starEach es X.env)).any (·.1)=false:=by rfl)(ht:eval (.Call (.Attribute (.Name x np) "__init__" apos) (e :: es) [] pos) X.env=(do
   let ov <- eval (.Name x np) X.env
   standAt apos.atName
   let (f,first) <- holding [ov] (getMethod ov "__init__" pl)
   callWith pos f first (backTo pos (starEach (e :: es) X.env)) (backToKw pos (keywordEach [] X.env))):=by rfl) :
  PE X (.Call (.Attribute (.Name x np) "__init__" apos) (e :: es) [] pos) (Ku X.K t):=by
 intro pins s σ H Q I h;refine W.methodCall_KW (pl:=pl) (iR I hg hm ?_ hdb) ht;refine W.method_cls I.kIn c.sp (W.cls_value I.kIn c.rd c.fi rfl ?_);have I':Inv X pins σ H { s with toks:=s.toks+1 }:=I.tok _;exact PyProof.Rows.callWith_builtin1 (thn (ha pos pins _ σ H _ I' h) fun us s1 ⟨vs,H1,I1,r1,q1⟩=>yZ pins s1 σ H1 vs us Q I1 r1 q1) hst hpl
end
section
variable {prog:Program} {w:World} {A:Around} {E:Value->Shared->Prop} {s:Shared} {K:Frag} {x C C0 f:Addr} {name:Str} {v:Value} {vs:Array Value}
theorem oB.cin {K:Frag}{C C0 f:Addr}(q:oB K C C0 f):∃cd,W.clsIn K C=some cd/\cd.mro=.ref C :: .ref C0 :: rK/\cd.hasDict=true:=by
 obtain⟨nm,qn,N,bs,sn,sub,ab,col,dd,k0,k1,k2,k3,k5,lC⟩:=q.cls;unfold W.clsIn;rw[lC];exact⟨_,rfl,rfl,rfl⟩
theorem Tt {Q:Unit->Shared->Prop}(X:K.In s.heap)(q:oB K C C0 f)(hx:s.heap.get? x=some { cls:=.ref C,data:=.fields vs })(hs:W.findIn K (.ref C) "__setattr__"=some (some (.builtin "object.__setattr__")))(hn:W.findIn K (.ref C) name=some none)(h:∀h',h'.get? x=some { cls:=.ref C,dict:=some s.heap.objs.size,data:=.fields vs }->h'.Ns1 s.heap.objs.size (fun y=>if y=name then some v else none)->(∀b o,b≠x->s.heap.get? b=some o->h'.get? b=some o)->∀tk,Q () { s with heap:=h',toks:=tk }) :
  wpAny (model prog w) A (setAttr (.ref x) name v) Q E s:=by
 have J:W.InstAt s.heap x { cls:=.ref C,data:=.fields vs } C none:=⟨hx,rfl,rfl,trivial⟩
 have SF:=PySem.F.store_object;have SV:=PySem.F.store_ValueError;obtain⟨cd,hc,hm,hd⟩:=q.cin;refine W.set_plain X J hs ?_;have sub:W.Looks (model prog w) s.heap (isInstance (.ref x) (.type "object")) true:=J.type.andThen (W.looks_mroIn X (by unfold W.mroIn;rw[hc,Option.bind_some,hm];rfl));refine codeAny_call_builtin SF.slot.plain SF.entry (@W.check_slot (model prog w) _ _ { s with toks:=s.toks+1 } "object.__setattr__" "object" "__setattr__" (.ref x) [.str name s.toks,v] [] _ SF.kind SF.split sub (SF.args (.ref x) (.str name s.toks) v) ?_);have hmro:W.Looks (model prog w) s.heap (mroOf (.ref C)) cd.mro:=(W.looks_clsIn X hc).andThen .now;rw[W.osa_eq,refuse_eq];refine wpAny_bind (wpAny_bind (W.Looks.here (s:={ s with toks:=s.toks+1 }) J.type (wpAny_bind (W.Looks.here (s:={ s with toks:=s.toks+1 }) hmro ?_))));rw[hm,refuseLoop_ref,refuseLoop_ref,SV.passes];refine wpAny_pure (wpAny_bind (W.Looks.here (s:={ s with toks:=s.toks+1 }) J.type (wpAny_bind (W.Looks.here (s:={ s with toks:=s.toks+1 }) (W.looks_findIn X hn) (wpAny_bind (wpAny_pure ?_))))));dsimp only;refine wpAny_bind (wpAny_pure (wpAny_bind (wpAny_bind (wpAny_loadPart hx (wpAny_bind (W.Looks.here (s:={ s with toks:=s.toks+1 }) (W.looks_clsIn X hc) ?_))))));rw[hd,if_neg (by decide)];dsimp only;rw[if_neg (by simp[typeHasDict])];have hx₁:(s.heap.push { cls:=.type "dict",data:=.dict #[] }).get? x=some { cls:=.ref C,data:=.fields vs }:=Heap.get?_push_of_some _ hx;have hxs:x≠s.heap.objs.size:=Nat.ne_of_lt (Heap.lt_size hx);refine wpAny_bind (wpAny_alloc' ?_);refine wpAny_bind (wpAny_update' hx₁ ?_);refine wpAny_pure ?_;have hgd:((s.heap.push { cls:=.type "dict",data:=.dict #[] }).update x fun o=>{ cls:=o.cls,dict:=some s.heap.objs.size,data:=o.data,slots:=o.slots }).get? s.heap.objs.size
   = some { cls:=.type "dict",data:=.dict #[] }:=
  (Heap.get?_update_ne _ _ _ _ hxs.symm).trans (Heap.get?_push_at rfl rfl)
 have hnd:((s.heap.push { cls:=.type "dict",data:=.dict #[] }).update x fun o=>{ cls:=o.cls,dict:=some s.heap.objs.size,data:=o.data,slots:=o.slots }).Ns s.heap.objs.size (fun _=>none):=
  ⟨_,#[],_,hgd,rfl,fun e he=>absurd he (by simp),fun _=>rfl⟩
 show wpAny _ _ (Builtin.ObjectAttr.storeInDict s.heap.objs.size (.str name s.toks) name v) _ _ _;unfold Builtin.ObjectAttr.storeInDict Builtin.ObjectAttr.newKeyGuard;refine wpAny_bind (wpAny_pure (wpAny_bind (wpAny_nsSet1 (Heap.Ns1.of_empty hnd) fun h' hn' hs'=>?_)));obtain⟨oD,esD,epD,hoD,hdD,hcD⟩:=hn'.count (Within.cons name v Within.nil);refine wpAny_bind (wpAny_lookBehind hoD (by rw[hdD];exact pastItsLine_dict (Nat.le_trans hcD (by rw[length_cons,length_nil,sizeLine_eq];lia))) ?_);refine wpAny_pure ?_;refine h h' ?_ ?_ (fun b o nb e=>(hs'.2 b (Nat.ne_of_lt (Heap.lt_size e))).trans ((Heap.get?_update_ne _ _ _ _ nb).trans (Heap.get?_push_of_some _ e))) _
 ·exact(hs'.2 x hxs).trans (Heap.get?_update_self _ hx₁ rfl)
 ·exact hn'
end
section
variable {X:Cx} {o value:Expr} {nm:Str} {pos pos':Pos} {ta tv:TE}
structure Ls (K:Frag) (C:Addr) (nm:Str):Prop where
 sa:W.findIn K (.ref C) "__setattr__"=some (some (.builtin "object.__setattr__"))
 no:W.findIn K (.ref C) nm=some none
def qb9 (K:Frag)(ta tv:TE)(nm:Str):TS:=fun D σ H=>tv σ H fun y H1=>ta σ H1 fun x H2=>∃a C C0 f,x=.ref a/\H2 a=some (kJ a (.ref C) none)/\oB K C C0 f/\Ls K C nm/\
 ∀dx,H2 dx=none->D.nx σ (upd (upd H2 dx (.xd [(nm,y)])) a (kJ a (.ref C) (some dx)))
theorem Fx (ha:PE X o ta)(hv:PE X value tv)(hs:swapsWith value (some (.Attribute o nm pos')) pos.line X.env=pure false):PS X (.Assign [.Attribute o nm pos'] value pos) (qb9 X.K ta tv nm):=by
 intro pins s σ H D I h;refine plainObj_wpAny_Assign_Attribute (thn (hv pins s σ H _ I h) fun u s1 ⟨y,H1,I1,ry,q⟩=>thn (ha pins s1 σ H1 _ I1 q) fun ov s2 ⟨x,H2,I2,rx,a,C,C0,f,ex,ea,qi,qf,q2⟩=>?_) hs;subst ex;obtain rfl:ov=Value.ref a:=rx;obtain⟨⟨t,he⟩,_⟩:=(show cD X.prog X.w H2 s2.heap a (kJ a (.ref C) none) from I2.hok a _ ea)
 refine Tt I2.kIn qi he qf.sa qf.no fun h' e1 e2 e3 tk=>?_;have fr:H2 s2.heap.objs.size=none:=I2.hok.fresh (Nat.le_refl _);refine⟨σ,_,?_,q2 _ fr⟩;have na:a≠s2.heap.objs.size:=Nat.ne_of_lt (Heap.lt_size he);have u1:=Heap.get?_update_self (fun _:Obj=>({ cls:=.ref C,data:=.fields #[.ref t,.none,.none,.none,.bool false,.none] }:Obj)) e1 rfl;have u2:∀b,b≠a->(h'.update a fun _:Obj=>({ cls:=.ref C,data:=.fields #[.ref t,.none,.none,.none,.bool false,.none] }:Obj)).get? b=h'.get? b:=fun b nb=>Heap.get?_update_other _ _ (Ne.symm nb);generalize h'.update a (fun _:Obj=>({ cls:=.ref C,data:=.fields #[.ref t,.none,.none,.none,.bool false,.none] }:Obj))=h1 at u1 u2;have I3:Inv X pins σ (upd H2 s2.heap.objs.size (.xd [(nm,y)])) { s2 with heap:=h1,toks:=s2.toks }:=by
  refine I2.laid (a:=s2.heap.objs.size) (o:=.xd [(nm,y)]) (h':=h1) (t':=s2.toks) (fun b u e=>?_) (Nat.le_refl _) ?_
  ·by_cases nb:b=a
   ·subst nb;rw[he] at e;cases e;exact u1
   ·rw[u2 b nb];exact e3 b u nb e
  ·obtain⟨od,es,ep,z1,z2⟩:=e2;refine⟨_,⟨od,es,ep,(u2 _ (Ne.symm na)).trans z1,z2⟩,fun g=>?_⟩
   by_cases gg:g=nm
   ·subst gg;rw[if_pos rfl,lookup_cons,beq_self_eq_true];exact ry
   ·have:(g == nm)=false:=beq_eq_false_iff_ne.mpr gg;rw[if_neg gg,lookup_cons,this];exact True.intro
 have ea3:upd H2 s2.heap.objs.size (.xd [(nm,y)]) a=some (kJ a (.ref C) none):=by rw[aM na];exact ea
 exact I3.write (x:=a) (e:=a) (h':=h') (t':=tk) (by rw[ea3];exact True.intro) (.inl rfl) (fun b u nb z=>by rw[<- u2 b nb];exact z) ⟨_,e1⟩ (yH e1)
end
section
variable {X:Cx} {o:Expr} {nm:Str} {pos:Pos} {ta:TE}
def Vg (K:Frag)(ta:TE)(nm:Str):TE:=fun σ H Q=>ta σ H fun x H1=>∃a C dx fs v,x=.ref a/\H1 a=some (dM a (.ref C) (some dx))/\H1 dx=some (.xd fs)/\mD K C/\W.hasDictIn K C=true/\W.findIn K (.ref C) nm=some none/\fs.lookup nm=some v/\Q v H1
theorem Um (he:PE X o ta)(hb:attributeBase o nm X.env (eval o X.env)=eval o X.env):PE X (.Attribute o nm pos) (Vg X.K ta nm):=by
 intro pins s σ H Q I h;refine Gr hb (thn (he pins s σ H _ I h) fun u s1 ⟨x,H1,I1,rx,a,C,dx,fs,v,ex,ea,ed,k,hh,hn,l,q⟩=>?_);subst ex;obtain rfl:u=Value.ref a:=rx;obtain⟨⟨ob,vs,h1,h2,h3,h4⟩,_⟩:=(show cD X.prog X.w H1 s1.heap a (dM a (.ref C) (some dx)) from I1.hok a _ ea)
 obtain⟨mA,N1,r⟩:=(show cD X.prog X.w H1 s1.heap dx (.xd fs) from I1.hok dx _ ed)
 obtain⟨w',hw,rw'⟩:=iZ.some_of (v:=v) (o:=mA nm) (by rw[<- l];exact r nm);obtain⟨od,ho,hl⟩:=pV N1;have J:W.InstAt s1.heap a ob C (some od):=⟨h1,h2,by unfold W.notCls;rw[h4],by rw[h3];exact ho⟩
 unfold getAttr;refine wpAny_bind (wpAny_mkText (Nl (s:={ s1 with toks:=s1.toks+1 }) k I1.kIn J (wH rw') (.inl (W.findObj_own hh hn rfl (by rw[hl,hw]))) ?_));exact⟨v,H1,I1.tok _,rw',q⟩
end
end L2
namespace Shp
open PySem L2
inductive Fmd (K:Frag) (H0:Hp) (D:Addr) (H:Hp):List V->List (List Mq.Q2)->Prop where
 |nil:Fmd K H0 D H [] []
 |cons {u:Addr} {xs:List V} {ps:List Mq.Q2} {us:List V} {X:List (List Mq.Q2)} (n0:H0 u=none) (ne:u≠D) (h:H u=some (.lst xs)) (f:Fqs K H xs ps) (q:Fmd K H0 D H us X):Fmd K H0 D H (.ref u :: us) (ps :: X)
theorem Fmd.length {K:Frag}{H0:Hp}{D:Addr}{H:Hp}:∀{xs:List V} {X:List (List Mq.Q2)},Fmd K H0 D H xs X->xs.length=X.length
 |_,_,.nil=>rfl
 |_,_,.cons _ _ _ _ q=>by rw[length_cons,length_cons,q.length]
def kK (X:List (List Mq.Q2)):Mat:=fun i j=>Mq.val ((X.getD i []).getD j Mq.z0)
def mB (m i:Nat)(row:List Mq.Q2):List Int:=iw row++(List.range m).map fun c=>if c=i then cO row else 0
def jL (X:List (List Mq.Q2)):List (List Int):=X.mapIdx fun i row=>mB X.length i row
theorem Kl (X:List (List Mq.Q2)):(jL X).length=X.length:=by unfold jL;simp
theorem tK {X:List (List Mq.Q2)}{i:Nat}(h:i < X.length):(jL X).getD i []=mB X.length i (X.getD i []):=by
 unfold jL;rw[getD_eq_getElem?_getD,getElem?_mapIdx,getD_eq_getElem?_getD,getElem?_eq_getElem h];rfl
theorem vF {X:List (List Mq.Q2)}{i:Nat}(h:i < X.length):X[i]?=some (X.getD i []):=by rw[getD_eq_getElem?_getD,getElem?_eq_getElem h];rfl
theorem An (m i:Nat)(row:List Mq.Q2):(mB m i row).length=row.length+m:=by unfold mB;simp[pW]
theorem wP {X:List (List Mq.Q2)}(hX:dS X)(hw:∀row∈X,row.length=X.length){i x:Nat}(hi:i < X.length)(hx:x < X.length):Mq.at2 (jL X) i x=((cO (X.getD i []):Int):Rat)*kK X i x:=by
 have mem:=mem_of_getElem? (vF hi);show ((((jL X).getD i []).getD x 0:Int):Rat)=_;rw[tK hi];unfold mB;have l:=hw _ mem;rw[getD_eq_getElem?_getD,getElem?_append_left (by rw[pW];lia),<- getD_eq_getElem?_getD];exact Le (hX _ mem) (by lia)
theorem tQ {X:List (List Mq.Q2)}(hw:∀row∈X,row.length=X.length){i k:Nat}(hi:i < X.length)(hk:k < X.length):ent (jL X) i (X.length+k)=if k=i then cO (X.getD i []) else 0:=by
 have mem:=mem_of_getElem? (vF hi);unfold ent;rw[tK hi];unfold mB;have l:=hw _ mem;rw[getD_eq_getElem?_getD,getElem?_append_right (by rw[pW];lia),pW,l,Nat.add_sub_cancel_left,getElem?_map,getElem?_range hk];rfl
theorem Tq {X:List (List Mq.Q2)}(hX:dS X)(hw:∀row∈X,row.length=X.length):Mq.LI X.length (kK X) (jL X) where
 lin:=fun i x hi hx=>by
  rw[wP hX hw hi hx];have:(Mq.rs X.length fun k=>Mq.at2 (jL X) i (X.length+k)*kK X k x)=Mq.rs X.length fun k=>if k=i then ((cO (X.getD i []):Int):Rat)*kK X i x else 0:=aT fun k hk=>by
   show ((ent (jL X) i (X.length+k):Int):Rat)*_=_;rw[tQ hw hi hk]
   by_cases e:k=i
   ·rw[if_pos e,if_pos e,e]
   ·rw[if_neg e,if_neg e];simp
  rw[this,Mq.kZ _ _ _ hi]
 ind:=fun lam hz i hi=>by
  have e:=hz i hi;have:(Mq.rs X.length fun j=>lam j*Mq.at2 (jL X) j (X.length+i))=Mq.rs X.length fun j=>if j=i then lam i*((cO (X.getD i []):Int):Rat) else 0:=aT fun k hk=>by
   show _*((ent (jL X) k (X.length+i):Int):Rat)=_;rw[tQ hw hk hi]
   by_cases e:k=i
   ·rw[if_pos e,if_pos e.symm,e]
   ·rw[if_neg e,if_neg (Ne.symm e)];simp
  rw[this,Mq.kZ _ _ _ hi] at e;have g:=oC (hX _ (mem_of_getElem? (vF hi)));have n:=dB (show cO (X.getD i [])≠0 by lia);grind
theorem Rc {X:List (List Mq.Q2)}{R:List (List Int)}(h:∀i j,i < X.length->j < X.length->Mq.at2 R i j=((cO (X.getD i []):Int):Rat)*kK X i j):Mq.det X.length (Mq.at2 R)=((rN X:Int):Rat)*wgt X:=by
 unfold wgt;have hb:=qK X X.length (Nat.le_refl _);rw[take_length] at hb;rw[hb,<- qR];exact cB fun i j hi hj=>h i j hi hj
theorem Pj {X:List (List Mq.Q2)}{R R':List (List Int)}{w r:Nat}{d sg:Int}(hX:dS X)(hR:Mq.det X.length (Mq.at2 R)=((rN X:Int):Rat)*wgt X)(h:SI X.length w (Mq.at2 R) R' r X.length d sg):(r < X.length/\wgt X=0)\/(r=X.length/\wgt X≠0):=by
 have b1:=yX hX X.length (Nat.le_refl _);rw[take_length] at b1;have bn:=dB (show rN X≠0 by lia);obtain⟨A,c,B,e⟩:=h.bar;have rm:=B.rm;have dn:=B.dne;clear B
 by_cases hr:r < X.length
 ·left
  have e:=h.lame hr;rw[hR] at e;exact⟨hr,by grind⟩
 ·right
  have er:r=X.length:=by lia
  subst er;refine⟨rfl,fun z=>?_⟩;have e:=h.whole;rw[hR,z] at e;rcases h.one with q | q
  ·rw[q] at e;simp at e;grind
  ·rw[q,Rat.intCast_neg] at e;simp at e;grind
structure Stp (m w:Nat) (A0:Mat) (Pr:List (List Int)->Prop):Prop where
 sw:∀R r col d sg p,SI m w A0 R r col d sg->r < p->p < m->Pr R->Pr (dZ R p r)
 cl:∀R r col d sg,SI m w A0 R r col d sg->r < m->col < w->ent R r col≠0->Pr R->Pr (bZ R r col d)
theorem Xz {m w:Nat}{A0 Aq:Mat}:Stp m w A0 (Mq.LI m Aq):=
 ⟨fun R r col d sg p s h1 h2 h=>h.swap s.len h2 (by lia),fun R r col d sg s h1 h2 h3 h=>h.clear s h1 h2 h3⟩
def Qf (K:Frag):Sp:=fun vs H Q _=>∃(l:Addr) (ts:List Int) (pv:Int) (n:Nat),vs=[.ref l,.int pv]/\SqL K H l (ts.map V.int)/\ts.length<=100/\pv≠0/\Mq.B n pv/\n<=9000/\
 ∀l' zs H',aK H H'->H l'=none->H' l'=some (.lst zs)->Fqs K H' zs (ts.map fun t=>red t pv)->Q (.ref l') H'
end Shp
namespace L2
open PySem
theorem Cb {X:Cx}{K:Frag}(h:X.K=K):SlR X (qa3 K):=by subst h;exact iV
theorem Bb {X:Cx}{K:Frag}(h:X.K=K){o:Expr}{nm:Str}{pos:Pos}{ta:TE}(he:PE X o ta)(hb:attributeBase o nm X.env (eval o X.env)=eval o X.env):PE X (.Attribute o nm pos) (Vg K ta nm):=by subst h;exact Um he hb
end L2
namespace Mq
theorem Ad:∀l:List Rat,Ex l=rs l.length fun j=>l.getD j 0
 | []=>rfl
 |x :: l=>by
  rw[length_cons,Bs];show x+Ex l=_;rw[Ad l];rfl
theorem Yf {row:List Q2}{j:Nat}(h:j < row.length):row[j]?=some (row.getD j z0):=by rw[getD_eq_getElem?_getD,getElem?_eq_getElem h];rfl
end Mq
namespace Shp
open PySem L2
theorem Fmd.get {K:Frag}{H0:Hp}{D:Addr}{H:Hp}:∀{xs:List V} {X:List (List Mq.Q2)} {i:Nat} {x:V},Fmd K H0 D H xs X->xs[i]?=some x->∃u ys ps,x=.ref u/\X[i]?=some ps/\H0 u=none/\u≠D/\H u=some (.lst ys)/\Fqs K H ys ps
 |_,_,0,_,.cons n0 n h f q,e=>by simp at e;exact⟨_,_,_,e.symm,rfl,n0,n,h,f⟩
 |_,_,i+1,_,.cons n0 n h f q,e=>by simp at e;exact q.get e
end Shp
namespace Mq
def KI (m:Nat)(A0:Mat)(R:List (List Int)):Prop:=∀Φ,Lin Φ->(∀k,k < m->Φ (at2 R k)=0)->∀i,i < m->Φ (A0 i)=0
theorem KI.swap {m:Nat}{A0:Mat}{R:List (List Int)}(h:KI m A0 R)(hl:R.length=m){p r:Nat}(hp:p < m)(hr:r < m):KI m A0 (dZ R p r):=fun Φ lin hz=>by
 refine h Φ lin fun k hk=>?_;have e:at2 R k=at2 (dZ R p r) (sw p r k):=by
  funext x
  rw[qO (by lia) (by lia),Nu]
 rw[e];exact hz _ (yO hp hr hk)
theorem KI.clear {m w:Nat}{A0 A1:Mat}{R:List (List Int)}{r col:Nat}{d sg:Int}(h:KI m A1 R)(s:SI m w A0 R r col d sg)(hr:r < m)(hc:col < w)(he:ent R r col≠0):KI m A1 (bZ R r col d):=fun Φ lin hz=>by
 have dn:=s.dne;have hn:at2 R r col≠0:=fun z=>he (Rat.intCast_inj.mp (by unfold at2 at z;simpa using z));have cl:=fun (i:Nat) (hi:i < m) (x:Nat)=>sP s hr hc he hi x;have zr:Φ (at2 R r)=0:=by
  have e:at2 R r=at2 (bZ R r col d) r:=by funext x;rw[cl r hr x,if_pos rfl]
  rw[e];exact hz r hr
 refine h Φ lin fun k hk=>?_
 by_cases e:k=r
 ·rw[e];exact zr
 ·have e2:at2 R k=fun x=>(fun x=>((d:Rat) / at2 R r col)*at2 (bZ R r col d) k x) x+(at2 R k col / at2 R r col)*at2 R r x:=by
   funext x
   show _=((d:Rat) / at2 R r col)*at2 (bZ R r col d) k x+_;rw[cl k hk x,if_neg e];grind
  rw[e2,lin,lin.mul,hz k hk,zr];grind
theorem KI.whole {m w:Nat}{A0 A1:Mat}{R:List (List Int)}{d sg:Int}(h:KI m A1 R)(s:SI m w A0 R m m d sg){i:Nat}(hi:i < m):(rs m fun k=>A1 i k*(at2 R k m / (d:Rat)))=A1 i m:=by
 obtain⟨A,c,B,e⟩:=s.bar;have dn:=B.dne;have:=h (fun f=>(rs m fun k=>f k*(at2 R k m / (d:Rat))) - f m) (fun x y l=>by
  have:(rs m fun k=>(x k+l*y k)*(at2 R k m / (d:Rat)))=(rs m fun k=>x k*(at2 R k m / (d:Rat))+l*(y k*(at2 R k m / (d:Rat)))):=aT fun k _=>by grind
  show (rs m fun k=>(x k+l*y k)*(at2 R k m / (d:Rat))) - (x m+l*y m)=((rs m fun k=>x k*(at2 R k m / (d:Rat))) - x m)+l*((rs m fun k=>y k*(at2 R k m / (d:Rat))) - y m)
  rw[this,eY,fV];grind) (fun k hk=>by
  have:(rs m fun j=>at2 R k j*(at2 R j m / (d:Rat)))=rs m fun j=>if j=k then (d:Rat)*(at2 R k m / (d:Rat)) else 0:=aT fun j hj=>by
   have i2:=B.i2 k j hk hj;rw[B.full rfl j hj] at i2;rw[i2]
   by_cases z:j=k
   ·rw[if_pos z,if_pos z,z]
   ·rw[if_neg z,if_neg z];grind
  show (rs m fun j=>at2 R k j*(at2 R j m / (d:Rat))) - at2 R k m=0;rw[this,kZ m k _ hk];grind) i hi
 have e2:(rs m fun k=>A1 i k*(at2 R k m / (d:Rat))) - A1 i m=0:=this;grind
end Mq
namespace Shp
open PySem L2
def kO (X:List (List Mq.Q2))(qs:List Mq.Q2):List (List Mq.Q2):=zipWith (fun row q=>row++[q]) X qs
def gR (X:List (List Mq.Q2))(qs:List Mq.Q2):List (List Int):=(kO X qs).map iw
section
variable {X:List (List Mq.Q2)} {qs:List Mq.Q2}
theorem pC (hl:qs.length=X.length):(kO X qs).length=X.length:=by unfold kO;simp[hl]
theorem Bp (hl:qs.length=X.length):(gR X qs).length=X.length:=by unfold gR;rw[length_map,pC hl]
theorem oO (hl:qs.length=X.length){i:Nat}(hi:i < X.length):(kO X qs).getD i []=X.getD i []++[qs.getD i Mq.z0]:=by
 unfold kO;rw[getD_eq_getElem?_getD,getElem?_zipWith,vF hi,Mq.Yf (show i < qs.length by lia)];rfl
theorem tZ (hl:qs.length=X.length){i:Nat}(hi:i < X.length):(gR X qs).getD i []=iw (X.getD i []++[qs.getD i Mq.z0]):=by
 unfold gR;rw[getD_eq_getElem?_getD,getElem?_map,vF (X:=kO X qs) (by rw[pC hl];exact hi),oO hl hi];rfl
theorem rT (hX:dS X)(hq:Mq.Pos qs)(hl:qs.length=X.length){i:Nat}(hi:i < X.length):Mq.Pos (X.getD i []++[qs.getD i Mq.z0]):=fun p hp=>by
 rcases mem_append.mp hp with z | z
 ·exact hX _ (mem_of_getElem? (vF hi)) p z
 ·have e:p=qs.getD i Mq.z0:=by simpa using z
  rw[e];exact Mq.Qh hq i
theorem Da (hX:dS X)(hq:Mq.Pos qs)(hl:qs.length=X.length):dS (kO X qs):=fun row hr=>by
 obtain⟨i,hi,rfl⟩:=getElem_of_mem hr;have hi':i < X.length:=by rw[pC hl] at hi;exact hi
 have e:=oO hl hi';rw[getD_eq_getElem?_getD,getElem?_eq_getElem hi] at e;have e':(kO X qs)[i]=X.getD i []++[qs.getD i Mq.z0]:=e;rw[e'];exact rT hX hq hl hi'
theorem uL (hX:dS X)(hq:Mq.Pos qs)(hl:qs.length=X.length)(hw:∀row∈X,row.length=X.length){i x:Nat}(hi:i < X.length)(hx:x < X.length+1) :
  Mq.at2 (gR X qs) i x=((cO ((kO X qs).getD i []):Int):Rat)*if x < X.length then kK X i x else Mq.val (qs.getD i Mq.z0):=by
 have l:=hw _ (mem_of_getElem? (vF hi));show ((((gR X qs).getD i []).getD x 0:Int):Rat)=_;rw[tZ hl hi,oO hl hi,Le (rT hX hq hl hi) (by rw[List.length_append,l];simpa using hx)];congr 1
 by_cases h:x < X.length
 ·rw[if_pos h,getD_eq_getElem?_getD,getElem?_append_left (by rw[l];exact h),<- getD_eq_getElem?_getD];rfl
 ·have ex:x=X.length:=by lia
  rw[if_neg h,getD_eq_getElem?_getD,getElem?_append_right (by rw[l];lia),l,ex,Nat.sub_self];rfl
theorem Ul (hX:dS X)(hq:Mq.Pos qs)(hl:qs.length=X.length)(hw:∀row∈X,row.length=X.length):Mq.det X.length (Mq.at2 (gR X qs))=((rN (kO X qs):Int):Rat)*wgt X:=by
 unfold wgt;have hb:=qK (kO X qs) (kO X qs).length (Nat.le_refl _);rw[take_length,pC hl] at hb;rw[hb,<- qR];refine cB fun i j hi hj=>?_;rw[uL hX hq hl hw hi (by lia),if_pos hj];rfl
theorem Jg {R R':List (List Int)}{w r:Nat}{d sg:Int}{f:Rat}(fn:f≠0)(hR:Mq.det X.length (Mq.at2 R)=f*wgt X)(h:SI X.length w (Mq.at2 R) R' r X.length d sg):(r < X.length/\wgt X=0)\/(r=X.length/\wgt X≠0):=by
 obtain⟨A,c,B,e⟩:=h.bar;have rm:=B.rm;have dn:=B.dne;clear B
 by_cases hr:r < X.length
 ·left
  have e:=h.lame hr;rw[hR] at e;exact⟨hr,by grind⟩
 ·right
  have er:r=X.length:=by lia
  subst er;refine⟨rfl,fun z=>?_⟩;have e:=h.whole;rw[hR,z] at e;rcases h.one with q | q
  ·rw[q] at e;simp at e;grind
  ·rw[q,Rat.intCast_neg] at e;simp at e;grind
theorem Lk (hX:dS X)(hq:Mq.Pos qs)(hl:qs.length=X.length)(hw:∀row∈X,row.length=X.length){R':List (List Int)}{w r:Nat}{d sg:Int}(h:SI X.length w (Mq.at2 (gR X qs)) R' r X.length d sg):(r < X.length/\wgt X=0)\/(r=X.length/\wgt X≠0):=by
 have b1:=yX (Da hX hq hl) (kO X qs).length (Nat.le_refl _);rw[take_length] at b1;exact Jg (dB (show rN (kO X qs)≠0 by lia)) (Ul hX hq hl hw) h
end
structure Slv (X:List (List Mq.Q2)) (qs ps:List Mq.Q2):Prop where
 len:ps.length=X.length
 low:pU ps
 bd:∀p∈ps,Bd 9000 p
 sum:∀i,i < X.length->(Mq.rs X.length fun j=>kK X i j*Mq.val (ps.getD j Mq.z0))=Mq.val (qs.getD i Mq.z0)
theorem Vu {X:List (List Mq.Q2)}{qs:List Mq.Q2}(hX:dS X)(hq:Mq.Pos qs)(hl:qs.length=X.length)(hw:∀row∈X,row.length=X.length){R:List (List Int)}{w:Nat}{d sg:Int}(h:Mq.KI X.length (Mq.at2 (gR X qs)) R)(s:SI X.length w (Mq.at2 (gR X qs)) R X.length X.length d sg){i:Nat}(hi:i < X.length):(Mq.rs X.length fun j=>kK X i j*(Mq.at2 R j X.length / (d:Rat)))=Mq.val (qs.getD i Mq.z0):=by
 have e:=h.whole s hi;rw[uL hX hq hl hw hi (by lia),if_neg (by lia)] at e;have e2:(Mq.rs X.length fun k=>Mq.at2 (gR X qs) i k*(Mq.at2 R k X.length / (d:Rat)))=((cO ((kO X qs).getD i []):Int):Rat)*Mq.rs X.length fun k=>kK X i k*(Mq.at2 R k X.length / (d:Rat)):=by
  rw[<- fV];refine aT fun k hk=>?_;rw[uL hX hq hl hw hi (by lia),if_pos hk];grind
 rw[e2] at e;have g:=oC (rT hX hq hl hi);have n:=dB (show cO ((kO X qs).getD i [])≠0 by rw[oO hl hi];lia);grind
end Shp
namespace Mq
def Wb (n:Nat)(x:Rat):Prop:=∃z:Int,x=(z:Rat)/\B n z
theorem Wb.mono {n m:Nat}{x:Rat}(h:Wb n x)(l:n<=m):Wb m x:=by obtain⟨z,e,b⟩:=h;exact⟨z,e,b.mono l⟩
theorem Wb.mul {n m:Nat}{x y:Rat}(h:Wb n x)(k:Wb m y):Wb (n+m) (x*y):=by
 obtain⟨a,rfl,b⟩:=h;obtain⟨c,rfl,d⟩:=k;exact⟨a*c,by rw[Rat.intCast_mul],b.mul d⟩
theorem Wb.sub {n:Nat}{x y:Rat}(h:Wb n x)(k:Wb n y):Wb (n+1) (x - y):=by
 obtain⟨a,rfl,b⟩:=h;obtain⟨c,rfl,d⟩:=k;exact⟨a - c,by rw[Rat.intCast_sub],b.sub d⟩
theorem Wb.neg {n:Nat}{x:Rat}(h:Wb n x):Wb n (-x):=by
 obtain⟨a,rfl,b⟩:=h;exact⟨-a,by rw[Rat.intCast_neg],b.neg⟩
theorem Wb.zero (n:Nat):Wb n 0:=⟨0,by simp,Nat.two_pow_pos _⟩
theorem Wb.one:Wb 1 1:=⟨1,by simp,show (1:Nat) < 2 ^ 1 by decide⟩
theorem Wb.sgn {n:Nat}{x:Rat}(h:Wb n x)(k:Nat):Wb n (Mq.sgn k*x):=by
 unfold Mq.sgn;split
 ·rw[show (1:Rat)*x=x by grind];exact h
 ·rw[show (-1:Rat)*x=-x by grind];exact h.neg
theorem Vn {n:Nat}{f:Nat->Rat}:∀K,(∀k,k < K->Wb n (f k))->∃z:Int,rs K f=(z:Rat)/\z.natAbs+K<=K*2 ^ n
 |0,_=>⟨0,by simp only[rs];simp,by simp⟩
 |K+1,h=>by
  obtain⟨z,e,b⟩:=Vn K fun k hk=>h k (by lia);obtain⟨y,e2,b2⟩:=h K (by lia);refine⟨z+y,by simp only[rs];rw[e,e2,Rat.intCast_add],?_⟩;have:y.natAbs < 2 ^ n:=b2;rw[Nat.succ_mul];lia
def SB (n m:Nat)(R:List (List Int))(r col:Nat)(d:Int):Prop:=∃A c,Bar m A (at2 R) r col (d:Rat) c/\∀i x,i < m->Wb n (A i x)
theorem SB.start {n m:Nat}{R:List (List Int)}(hb:BdR n R):SB n m R 0 0 1:=
 ⟨at2 R,id,by
  have:=Bar.start (m:=m) (A:=at2 R) fun i j=>⟨_,rfl⟩
  simpa using this,fun i x _=>⟨ent R i x,rfl,hb i x⟩⟩
theorem SB.skip {n m:Nat}{R:List (List Int)}{r col:Nat}{d:Int}(h:SB n m R r col d)(hz:∀i,r<=i->i < m->ent R i col=0):SB n m R r (col+1) d:=by
 obtain⟨A,c,B,q⟩:=h;exact⟨A,c,B.skip fun i h1 h2=>by unfold at2;rw[hz i h1 h2];simp,q⟩
theorem SB.swap {n m w:Nat}{A0:Mat}{R:List (List Int)}{r col:Nat}{d sg:Int}(h:SB n m R r col d)(s:SI m w A0 R r col d sg){p:Nat}(hp:r < p)(hm:p < m):SB n m (dZ R p r) r col d:=by
 obtain⟨A,c,B,q⟩:=h;have hl:=s.len;refine⟨_,c,(B.swap (by lia) hm).congr fun i hi=>?_,fun i x hi=>q _ x (yO hm (by lia) hi)⟩
 funext x
 rw[qO (by lia) (by lia)]
theorem SB.clear {n m w:Nat}{A0:Mat}{R:List (List Int)}{r col:Nat}{d sg:Int}(h:SB n m R r col d)(s:SI m w A0 R r col d sg)(hr:r < m)(hc:col < w)(he:ent R r col≠0):SB n m (bZ R r col d) (r+1) (col+1) (ent R r col):=by
 obtain⟨A,c,B,q⟩:=h;have heq:at2 R r col≠0:=fun z=>he (Rat.intCast_inj.mp (by unfold at2 at z;simpa using z));refine⟨A,_,(B.clear hr heq).congr fun i hi=>?_,q⟩
 funext x
 rw[sP s hr hc he hi x];unfold clr
 by_cases e:i=r
 ·rw[if_pos e,if_pos e,e]
 ·rw[if_neg e,if_neg e]
end Mq
namespace Shp
open PySem L2
abbrev bq (n m:Nat):Nat:=(n+4)*(m+1)+7
end Shp
namespace L2
open PySem PyProof.Rows
theorem aJ.calm {P:Program}{w:World}{K:Frag}{mg:Str->Option Value}{base:Heap}{k:Nat}{f:Addr}{fd:FuncData}{ps:List Str}{sp:Sp}(F:aJ P w K mg base (CX1 P w) k f fd ps sp) :
  aJ P w K mg base CX0 k f fd ps (fun vs H Q _=>sp vs H Q (fun _ _ _=>False)):=
 ⟨fun vs H Q E q=>F.len vs H Q _ q,fun A outer s H args us vs Q E hr he hb hv hs=>codeAny_mono (F.run A outer s H args us vs Q _ hr he hb hv hs) fun r s' h=>by
  cases r with
  |ok fl=>cases fl<;>exact h
  |error e=>
   obtain⟨a,C,d,H',_,_,_,_,_,_,z⟩:=h;exact z.elim⟩
open PySem.Spec
theorem aJ.weak {P:Program}{w:World}{K:Frag}{mg:Str->Option Value}{base:Heap}{CX:CXT}{k:Nat}{f:Addr}{fd:FuncData}{ps:List Str}{sp sp':Sp}(F:aJ P w K mg base CX k f fd ps sp)(h:∀vs H Q E,sp' vs H Q E->sp vs H Q E):aJ P w K mg base CX k f fd ps sp':=
 ⟨fun vs H Q E q=>F.len vs H Q E (h _ _ _ _ q),fun A outer s H args us vs Q E hr he hb hv hs=>F.run A outer s H args us vs Q E hr he hb hv (h _ _ _ _ hs)⟩
abbrev fR (m i j:Int):Prop:=0<=i/\i < m/\0<=j/\j < m
inductive Zv (K:Frag) (H:Hp):V->Option Mq.Q2->Prop where
 |fr {u:Addr} {p:Mq.Q2} (h:Fq K H u p) (l:Low p):Zv K H (.ref u) (some p)
 |ty {v:V} {t:Value} (h:TyQ K H v t) (n:W.kitOne K t (.type "tuple")=some false):Zv K H v none
 |len {u:Addr} {x y z:V} (h:SqT K H u [x,y,z]):Zv K H (.ref u) none
 |n0 {u:Addr} {x y:V} {t:Value} (h:SqT K H u [x,y]) (ty:jB K H x t) (n:iD t):Zv K H (.ref u) none
 |n1 {u:Addr} {i:Int} {y:V} {t:Value} (h:SqT K H u [.int i,y]) (ty:jB K H y t) (n:iD t):Zv K H (.ref u) none
 |fb {u:Addr} {p:Mq.Q2} (h:Fq K H u p) (c:p.2 < 1\/(1<=p.2/\gc p.1 p.2≠1)):Zv K H (.ref u) none
abbrev Bz (o:Option Mq.Q2):Prop:=∀p,o=some p->Bd 1000 p
def Lm (K:Frag):Sp:=fun vs H Q _=>∃(v:V) (o:Option Mq.Q2),vs=[v]/\Zv K H v o/\Q (.bl o.isSome) H
inductive gZ (CK:Kd->Addr) (K:Frag) (H:Hp):List V->List RD->Prop where
 |nil:gZ CK K H [] []
 |cons {x z:Addr} {k:Kd} {i j:Int} {p:Mq.Q2} {xs:List V} {ds:List RD} (h:Rw CK H x k (.int i) (.int j) (.ref z)) (f:Fq K H z p) (q:gZ CK K H xs ds):gZ CK K H (.ref x :: xs) ((k,i,j,p) :: ds)
section
variable {CK:Kd->Addr} {K:Frag} {H H':Hp}
theorem gZ.same (e:aK H H'):∀{xs:List V} {ds:List RD},gZ CK K H xs ds->gZ CK K H' xs ds
 |_,_,.nil=>.nil
 |_,_,.cons h f q=>.cons (h.same e) (e.fq f) (gZ.same e q)
theorem gZ.length:∀{xs:List V} {ds:List RD},gZ CK K H xs ds->xs.length=ds.length
 |_,_,.nil=>rfl
 |_,_,.cons _ _ q=>by simp[gZ.length q]
theorem gZ.app:∀{xs ys:List V} {ds es:List RD},gZ CK K H xs ds->gZ CK K H ys es->gZ CK K H (xs++ys) (ds++es)
 |_,_,_,_,.nil,r=>r
 |_,_,_,_,.cons h f q,r=>.cons h f (gZ.app q r)
theorem gZ.at:∀{xs:List V} {ds:List RD} {q:Nat} {d:RD},gZ CK K H xs ds->ds[q]?=some d->∃x z,xs[q]?=some (.ref x)/\Rw CK H x d.1 (.int d.2.1) (.int d.2.2.1) (.ref z)/\Fq K H z d.2.2.2
 |_,_,_,_,.nil,h=>by simp at h
 |_,_,0,_,.cons h f _,e=>by simp at e;subst e;exact⟨_,_,rfl,h,f⟩
 |_,_,i+1,_,.cons _ _ q,e=>by simpa using gZ.at q (by simpa using e)
theorem gZ.upd {l:Addr}{ys:List V}{o:HO}(hl:H l=some (.lst ys)):∀{xs:List V} {ds:List RD},gZ CK K H xs ds->gZ CK K (L2.upd H l o) xs ds
 |_,_,.nil=>.nil
 |_,_,.cons (h:=h) f q=>by
  obtain⟨dx,e⟩:=h;exact .cons ⟨dx,by rw[aM (kN e hl (fun z=>by cases z))];exact e⟩ (f.upd hl) (gZ.upd hl q)
end
def yU (CN:Addr)(K:Frag)(CK:Kd->Addr):Sp:=fun vs H Q _=>∃(n l:Addr) (m:Int) (ds:List RD),vs=[.ref n]/\eJ CN K H n l m ds/\ds.length<=100/\∀a xs H',aK H H'->H a=none->H' a=some (.lst xs)->gZ CK K H' xs ds->Q (.ref a) H'
end L2
namespace Mq
inductive Wt:List Q2->Nat->Prop where
 |nil:Wt [] 0
 |cons {p:Q2} {ps:List Q2} {n w:Nat} (h:Bd n p) (q:Wt ps w):Wt (p :: ps) (n+1+w)
theorem Wt.at:∀{ps:List Q2} {w i:Nat} {p:Q2},Wt ps w->ps[i]?=some p->∃w' n,Wt (ps.take i) w'/\Bd n p/\w' + n+1<=w
 |_,_,_,_,.nil,h=>by simp at h
 |_,_,0,_,.cons (n:=n) h q,e=>by
  simp at e;subst e;exact⟨0,n,.nil,h,by lia⟩
 |_,_,i+1,_,.cons (n:=n) h q,e=>by
  obtain⟨w',n',a,b,c⟩:=Wt.at q (by simpa using e);exact⟨n+1+w',n',.cons h a,b,by lia⟩
theorem Wt.fold:∀{ps:List Q2} {w k:Nat} {p:Q2},Wt ps w->Pos ps->1<=p.2->Bd k p->Bd (k+w) (ps.foldl kI p)
 |_,_,_,_,.nil,_,_,h=>h
 |_,_,k,p,.cons (p:=q) (n:=n) (w:=w) h r,hp,p1,b=>by
  have q1:=hp q (by simp);have:=Wt.fold r (fun x hx=>hp x (mem_cons_of_mem _ hx)) (jE p1 q1).pos (sQ b h p1 q1);exact this.mono (by lia)
theorem Wt.tot {ps:List Q2}{w:Nat}(h:Wt ps w)(hp:Pos ps):Bd (1+w) (tot ps):=h.fold hp (by decide) ⟨show (0:Nat) < 2 ^ 1 by decide,show (1:Nat) < 2 ^ 1 by decide⟩
end Mq
namespace L2
open PySem PySem.Spec PyProof.Rows
abbrev RE:=RD × Mq.Q2
def qa4 (k:Kd)(l:List RD):List RD:=l.filter fun d=>decide (d.1=k)
def Oo (K:Frag):Sp:=fun vs H Q _=>∃(a:Addr) (xs:List V) (ps:List Mq.Q2) (w:Nat),vs=[.ref a]/\SqL K H a xs/\Fqs K H xs ps/\Mq.Pos ps/\Mq.Wt ps w/\w+1<=9000/\∀r H',aK H H'->Fq K H' r (tot ps)->Q (.ref r) H'
def Mo (K:Frag):Sp:=fun vs H Q _=>∃(a b:Addr) (p q:Mq.Q2) (n m:Nat),vs=[.ref a,.ref b]/\Fq K H a p/\Fq K H b q/\1<=p.2/\1<=q.2/\0 < q.1/\Bd n p/\Bd m q/\n+m+1<=9000/\Pe H Q (rG p q)
section
variable {m n:Nat} {hp:List Mq.Q2} {d:RD} {e:RE}
theorem Pq {ps:List Mq.Q2}{j:Nat}(h:j < ps.length):ps[j]?=some (ps.getD j (0,1)):=by rw[getD_eq_getElem?_getD,getElem?_eq_getElem h];rfl
end
def rzl (ps:List Mq.Q2)(j:Nat)(a:Mq.Q2):List Mq.Q2:=ps.set j (kI (ps.getD j (0,1)) a)
def iW (M:List (List Mq.Q2))(i j:Nat):Mq.Q2:=(M.getD i []).getD j (0,1)
def rz (M:List (List Mq.Q2))(i j:Nat)(a:Mq.Q2):List (List Mq.Q2):=M.set i (rzl (M.getD i []) j a)
structure MxB (M:List (List Mq.Q2)) (h w n:Nat):Prop where
 h:M.length=h
 w:∀ps∈M,ps.length=w
 l:∀ps∈M,∀p∈ps,Low p/\Bd n p
theorem MxB.mono {M:List (List Mq.Q2)}{h w n n':Nat}(b:MxB M h w n)(le:n<=n'):MxB M h w n':=⟨b.h,b.w,fun ps hp p hp'=>⟨(b.l ps hp p hp').1,(b.l ps hp p hp').2.mono le⟩⟩
theorem MxB.row {M:List (List Mq.Q2)}{h w n i:Nat}(b:MxB M h w n)(hi:i < h):M[i]?=some (M.getD i [])/\M.getD i []∈M/\(M.getD i []).length=w:=by
 have hi':i < M.length:=by rw[b.h];exact hi
 have e:M.getD i []=M[i]:=by rw[getD_eq_getElem?_getD,getElem?_eq_getElem hi'];rfl
 rw[e];exact⟨getElem?_eq_getElem hi',getElem_mem hi',b.w _ (getElem_mem hi')⟩
theorem MxB.at {M:List (List Mq.Q2)}{h w n i j:Nat}(b:MxB M h w n)(hi:i < h)(hj:j < w):(M.getD i [])[j]?=some (iW M i j)/\Low (iW M i j)/\Bd n (iW M i j):=by
 obtain⟨e,m,l⟩:=b.row hi;have hj':j < (M.getD i []).length:=by rw[l];exact hj
 have:=Pq hj';exact⟨this,b.l _ m _ (mem_of_getElem? this)⟩
theorem MxB.rz {M:List (List Mq.Q2)}{h w n k i j:Nat}{a:Mq.Q2}(b:MxB M h w n)(hi:i < h)(hj:j < w)(la:Low a)(ba:Bd k a):MxB (L2.rz M i j a) h w (n+k+1):=by
 obtain⟨e,m,l⟩:=b.row hi;obtain⟨e2,l2,b2⟩:=b.at hi hj;refine⟨by unfold L2.rz;rw[length_set];exact b.h,fun ps hp=>?_,fun ps hp p hp'=>?_⟩
 ·rcases mem_or_eq_of_mem_set hp with z | z
  ·exact b.w ps z
  ·rw[z];unfold rzl;rw[length_set];exact l
 ·rcases mem_or_eq_of_mem_set hp with z | z
  ·have:=b.l ps z p hp';exact⟨this.1,this.2.mono (by lia)⟩
  ·rw[z] at hp';unfold rzl at hp';rcases mem_or_eq_of_mem_set hp' with y | y
   ·have:=b.l _ m p y;exact⟨this.1,this.2.mono (by lia)⟩
   ·rw[y];exact⟨jE l2.pos la.pos,sQ b2 ba l2.pos la.pos⟩
theorem Ph {M:List (List Mq.Q2)}{h w n i j:Nat}{a:Mq.Q2}(b:MxB M h w n)(hi:i < h)(hj:j < w)(la:Low a)(x y:Nat):Mq.val (iW (L2.rz M i j a) x y)=Mq.val (iW M x y)+if i=x/\j=y then Mq.val a else 0:=by
 obtain⟨e,m,l⟩:=b.row hi;obtain⟨e2,l2,b2⟩:=b.at hi hj;have hl:i < M.length:=by rw[b.h];exact hi
 unfold iW L2.rz
 by_cases c:i=x
 ·subst c;have e3:(M.set i (rzl (M.getD i []) j a)).getD i []=rzl (M.getD i []) j a:=by rw[getD_eq_getElem?_getD,getElem?_set,if_pos rfl,if_pos hl];rfl
  rw[e3];unfold rzl
  by_cases d:j=y
  ·subst d;have e4:((M.getD i []).set j (kI ((M.getD i []).getD j (0,1)) a)).getD j (0,1)=kI ((M.getD i []).getD j (0,1)) a:=by rw[getD_eq_getElem?_getD,getElem?_set,if_pos rfl,if_pos (by rw[l];exact hj)];rfl
   rw[e4,if_pos ⟨rfl,rfl⟩];exact uU l2.pos la.pos
  ·have e4:((M.getD i []).set j (kI ((M.getD i []).getD j (0,1)) a)).getD y (0,1)=(M.getD i []).getD y (0,1):=by rw[getD_eq_getElem?_getD,getElem?_set,if_neg d,<- getD_eq_getElem?_getD]
   rw[e4,if_neg (fun z=>d z.2),Rat.add_zero]
 ·have e3:(M.set i (rzl (M.getD i []) j a)).getD x []=M.getD x []:=by rw[getD_eq_getElem?_getD,getElem?_set,if_neg c,<- getD_eq_getElem?_getD]
  rw[e3,if_neg (fun z=>c z.1),Rat.add_zero]
structure LnB (R:List Mq.Q2) (w n:Nat):Prop where
 w:R.length=w
 l:∀p∈R,Low p/\Bd n p
theorem LnB.mono {R:List Mq.Q2}{w n n':Nat}(b:LnB R w n)(le:n<=n'):LnB R w n':=⟨b.w,fun p hp=>⟨(b.l p hp).1,(b.l p hp).2.mono le⟩⟩
theorem LnB.at {R:List Mq.Q2}{w n j:Nat}(b:LnB R w n)(hj:j < w):R[j]?=some (R.getD j (0,1))/\Low (R.getD j (0,1))/\Bd n (R.getD j (0,1)):=by
 have hj':j < R.length:=by rw[b.w];exact hj
 have:=Pq hj';exact⟨this,b.l _ (mem_of_getElem? this)⟩
theorem LnB.set {R:List Mq.Q2}{w n j:Nat}{q:Mq.Q2}(b:LnB R w n)(lq:Low q)(bq:Bd n q):LnB (R.set j q) w n:=⟨by rw[length_set];exact b.w,fun p hp=>by
 rcases mem_or_eq_of_mem_set hp with z | z
 ·exact b.l p z
 ·rw[z];exact⟨lq,bq⟩⟩
theorem LnB.rz {R:List Mq.Q2}{w n k j:Nat}{a:Mq.Q2}(b:LnB R w n)(hj:j < w)(la:Low a)(ba:Bd k a):LnB (rzl R j a) w (n+k+1):=by
 obtain⟨_,l2,b2⟩:=b.at hj;exact(b.mono (by lia)).set (jE l2.pos la.pos) (sQ b2 ba l2.pos la.pos)
theorem Kg {R:List Mq.Q2}{j y:Nat}{q:Mq.Q2}(hj:j < R.length):(R.set j q).getD y (0,1)=if j=y then q else R.getD y (0,1):=by
 rw[getD_eq_getElem?_getD,getElem?_set]
 by_cases e:j=y
 ·rw[if_pos e,if_pos e,if_pos (by lia)];rfl
 ·rw[if_neg e,if_neg e,<- getD_eq_getElem?_getD]
theorem Hj {R:List Mq.Q2}{w n j:Nat}{a:Mq.Q2}(b:LnB R w n)(hj:j < w)(la:Low a)(y:Nat):Mq.val ((rzl R j a).getD y (0,1))=Mq.val (R.getD y (0,1))+if j=y then Mq.val a else 0:=by
 obtain⟨_,l2,b2⟩:=b.at hj;unfold rzl;rw[Kg (by rw[b.w];exact hj)]
 by_cases d:j=y
 ·subst d;rw[if_pos rfl,if_pos rfl];exact uU l2.pos la.pos
 ·rw[if_neg d,if_neg d,Rat.add_zero]
def SX (as:List Addr)(H H':Hp):Prop:=∀b o,H b=some o->b∉as->H' b=some o
theorem aK.sx {as:List Addr}{H H':Hp}(s:aK H H'):SX as H H':=fun b o e _=>s b o e
theorem SX.trans {as:List Addr}{H H1 H2:Hp}(a:SX as H H1)(b:SX as H1 H2):SX as H H2:=fun c o h n=>b c o (a c o h n) n
theorem SX.write {as:List Addr}{H H1:Hp}{l:Addr}{o:HO}(a:SX as H H1)(hl:l∈as):SX as H (upd H1 l o):=fun c u h n=>by rw[aM (fun z=>n (by rw[z];exact hl))];exact a c u h n
theorem SX.mono {as bs:List Addr}{H H':Hp}(a:SX as H H')(h:∀x∈as,x∈bs):SX bs H H':=fun c o e n=>a c o e fun z=>n (h c z)
theorem SX.same {as:List Addr}{H0 H H':Hp}(s:aK H0 H)(a:SX as H H')(h:∀x∈as,H0 x=none):aK H0 H':=fun c o e=>a c o (s c o e) fun z=>by rw[h c z] at e;cases e
def Pi (as:List Addr)(H:Hp):Prop:=∀a∈as,∃xs,H a=some (.lst xs)
theorem SX.seqT {K:Frag}{as:List Addr}{H H':Hp}(hl:Pi as H)(e:SX as H H'){a:Addr}{xs:List V}(h:SqT K H a xs):SqT K H' a xs:=by
 have nx:∀{o:HO},H a=some o->(∀ys,o≠.lst ys)->a∉as:=fun ho n z=>by
  obtain⟨ys,hy⟩:=hl a z;rw[hy] at ho;exact n ys (Option.some.inj ho).symm
 rcases h with (h | ⟨u,h⟩) | h
 ·exact .inl (.inl (e _ _ h (nx h fun ys z=>by cases z)))
 ·exact .inl (.inr ⟨u,e _ _ h (nx h fun ys z=>by cases z)⟩)
 ·exact .inr h
theorem SX.rw {CK:Kd->Addr}{as:List Addr}{H H':Hp}(hl:Pi as H)(e:SX as H H'){x:Addr}{k:Kd}{s g z:V}(h:Rw CK H x k s g z):Rw CK H' x k s g z:=by
 obtain⟨dx,q⟩:=h;refine⟨dx,e _ _ q fun y=>?_⟩;obtain⟨ys,hy⟩:=hl x y;rw[hy] at q;cases q
theorem SX.fqs {K:Frag}{as:List Addr}{H H':Hp}(hl:Pi as H)(e:SX as H H'):∀{xs:List V} {ps:List Mq.Q2},Fqs K H xs ps->Fqs K H' xs ps
 |_,_,.nil=>.nil
 |_,_,.cons f q=>.cons (e.seqT hl f) (SX.fqs hl e q)
structure Mx (K:Frag) (H:Hp) (D:Addr) (as:List Addr) (M:List (List Mq.Q2)):Prop where
 d:H D=some (.lst (as.map V.ref))
 n:as.Nodup
 nd:D∉as
 la:as.length=M.length
 r:∀(i:Nat) (a:Addr) (ps:List Mq.Q2),as[i]?=some a->M[i]?=some ps->∃xs,H a=some (.lst xs)/\Fqs K H xs ps
theorem Mx.lsts {K:Frag}{H:Hp}{D:Addr}{as:List Addr}{M:List (List Mq.Q2)}(m:Mx K H D as M):Pi as H:=fun a ha=>by
 obtain⟨i,hi⟩:=getElem?_of_mem ha;have il:=(List.getElem?_eq_some_iff.mp hi).1;have il':i < M.length:=by rw[<- m.la];exact il
 obtain⟨xs,h,_⟩:=m.r i a M[i] hi (getElem?_eq_getElem il');exact⟨xs,h⟩
theorem Mx.same {K:Frag}{H H':Hp}{D:Addr}{as:List Addr}{M:List (List Mq.Q2)}(s:aK H H')(m:Mx K H D as M):Mx K H' D as M:=⟨s _ _ m.d,m.n,m.nd,m.la,fun i a ps h1 h2=>by
 obtain⟨xs,h,f⟩:=m.r i a ps h1 h2;exact⟨xs,s _ _ h,f.same s⟩⟩
theorem Mx.set {K:Frag}{H H1:Hp}{D a v:Addr}{as:List Addr}{M:List (List Mq.Q2)}{i j:Nat}{ps:List Mq.Q2}{xs:List V}{q:Mq.Q2}(m:Mx K H D as M)(ha:as[i]?=some a)(hp:M[i]?=some ps)(hx:H a=some (.lst xs))(hF:Fqs K H xs ps)(s:aK H H1)(fv:Fq K H1 v q):Mx K (upd H1 a (.lst (xs.set j (.ref v)))) D as (M.set i (ps.set j q))/\SX as H (upd H1 a (.lst (xs.set j (.ref v)))):=by
 have ma:=mem_of_getElem? ha;have hx1:=s _ _ hx;have il:=(List.getElem?_eq_some_iff.mp ha).1;refine⟨⟨?_,m.n,m.nd,by rw[length_set];exact m.la,fun k b qs h1 h2=>?_⟩,s.sx.write ma⟩
 ·rw[aM (fun z=>m.nd (by rw[z];exact ma))];exact s _ _ m.d
 ·rw[getElem?_set] at h2
  by_cases c:i=k
  ·subst c;rw[ha] at h1;have h1:a=b:=Option.some.inj h1;subst h1;rw[if_pos rfl] at h2;split at h2
   ·have h2:ps.set j q=qs:=Option.some.inj h2;rw[<- h2];exact⟨_,aB,(Fqs.set fv j (hF.same s)).upd hx1⟩
   ·cases h2
  ·rw[if_neg c] at h2;obtain⟨ys,hy,fy⟩:=m.r k b qs h1 h2;have nb:b≠a:=fun z=>by
    subst z;have kl:=(List.getElem?_eq_some_iff.mp h1).1;have e1:as[i]'il=b:=(List.getElem?_eq_some_iff.mp ha).2;have e2:as[k]'kl=b:=(List.getElem?_eq_some_iff.mp h1).2;exact c ((getElem_inj m.n).mp (e1.trans e2.symm))
   exact⟨ys,by rw[aM nb];exact s _ _ hy,(fy.same s).upd hx1⟩
def iQ (k:Kd):Nat:=if k=.ho then 1 else 0
def en (M:List (List Mq.Q2))(d:RD)(c:Nat)(a:Mq.Q2):List (List Mq.Q2):=rz (rz M d.2.1.toNat c a) d.2.2.1.toNat c (eQ (0,1) a)
def dl (s g x:Nat):Rat:=(if s=x then 1 else 0) - (if g=x then 1 else 0)
def cM (d:RD)(h x y:Nat):Rat:=match d.1 with
 | .pc=>dl d.2.1.toNat d.2.2.1.toNat x*dl d.2.1.toNat d.2.2.1.toNat y*(1 / Mq.val d.2.2.2)
 | .pu=>0
 | .ho=>dl d.2.1.toNat d.2.2.1.toNat x*(if h=y then 1 else 0)+(if h=x then 1 else 0)*dl d.2.1.toNat d.2.2.1.toNat y
def cR (d:RD)(h x:Nat):Rat:=match d.1 with
 | .pc=>0
 | .pu=>- dl d.2.1.toNat d.2.2.1.toNat x*Mq.val d.2.2.2
 | .ho=>if h=x then Mq.val d.2.2.2 else 0
def eqM:Nat->List RD->Nat->Nat->Rat
 |_,[],_,_=>0
 |h,d :: ds,x,y=>cM d h x y+eqM (h+iQ d.1) ds x y
def eqR:Nat->List RD->Nat->Rat
 |_,[],_=>0
 |h,d :: ds,x=>cR d h x+eqR (h+iQ d.1) ds x
def zO (ds:List RD):Nat:=(qa4 .ho ds).length
theorem Ay (d:RD)(ds:List RD):zO (d :: ds)=iQ d.1+zO ds:=by
 unfold zO iQ qa4
 by_cases h:d.1=.ho
 ·rw[filter_cons_of_pos (by exact decide_eq_true h),if_pos h,length_cons];lia
 ·rw[filter_cons_of_neg (by simp[h]),if_neg h];lia
theorem Af (d:RD)(x y:Nat):∀(ds:List RD) (h:Nat),eqM h (ds++[d]) x y=eqM h ds x y+cM d (h+zO ds) x y
 | [],h=>by show cM d h x y+0=0+cM d (h+0) x y;rw[Nat.add_zero];grind
 |e :: ds,h=>by
  show cM e h x y+eqM (h+iQ e.1) (ds++[d]) x y=cM e h x y+eqM (h+iQ e.1) ds x y+_;rw[Af d x y ds,Ay,Nat.add_assoc];grind
theorem Bw (d:RD)(x:Nat):∀(ds:List RD) (h:Nat),eqR h (ds++[d]) x=eqR h ds x+cR d (h+zO ds) x
 | [],h=>by show cR d h x+0=0+cR d (h+0) x;rw[Nat.add_zero];grind
 |e :: ds,h=>by
  show cR e h x+eqR (h+iQ e.1) (ds++[d]) x=cR e h x+eqR (h+iQ e.1) ds x+_;rw[Bw d x ds,Ay,Nat.add_assoc];grind
theorem qN {a:Mq.Q2}{k:Nat}(la:Low a)(ba:Bd k a):Low (eQ (0,1) a)/\Bd (k+2) (eQ (0,1) a)/\Mq.val (eQ (0,1) a)=- Mq.val a:=by
 have h01:1<=((0,1):Mq.Q2).2:=by decide
 have b01:Bd 1 (0,1):=⟨show (0:Nat) < 2 ^ 1 by decide,show (1:Nat) < 2 ^ 1 by decide⟩
 refine⟨Mq.qJ h01 la.pos,(Mq.Ai b01 ba h01 la.pos).mono (by lia),?_⟩;rw[pP h01 la.pos,Fy];grind
theorem Kn {M:List (List Mq.Q2)}{h w n k c:Nat}{d:RD}{a:Mq.Q2}(b:MxB M h w n)(pt:fR (h:Int) d.2.1 d.2.2.1)(hc:c < w)(la:Low a)(ba:Bd k a):MxB (en M d c a) h w (n+2*k+4)/\∀x y,Mq.val (iW (en M d c a) x y)=Mq.val (iW M x y)+dl d.2.1.toNat d.2.2.1.toNat x*(if c=y then 1 else 0)*Mq.val a:=by
 obtain⟨i0,i1,j0,j1⟩:=pt;obtain⟨ln,bn,vn⟩:=qN la ba;have b1:=b.rz (i:=d.2.1.toNat) (by lia) hc la ba;have b2:=b1.rz (i:=d.2.2.1.toNat) (by lia) hc ln bn;refine⟨b2.mono (by lia),fun x y=>?_⟩;unfold en;rw[Ph b1 (by lia) hc ln,Ph b (by lia) hc la,vn];unfold dl
 by_cases c1:d.2.1.toNat=x<;>by_cases c2:d.2.2.1.toNat=x<;>by_cases c3:c=y<;>simp only[c1,c2,c3,true_and,and_true,false_and,and_false,and_self,if_true,if_false]<;>grind
def pM (M:List (List Mq.Q2))(d:RD):List (List Mq.Q2):=en (en M d d.2.1.toNat (rG (1,1) d.2.2.2)) d d.2.2.1.toNat (eQ (0,1) (rG (1,1) d.2.2.2))
def pR (rs:List Mq.Q2)(d:RD):List Mq.Q2:=rzl (rzl rs d.2.1.toNat (eQ (0,1) d.2.2.2)) d.2.2.1.toNat d.2.2.2
theorem Lq:Bd 1 (1,1):=⟨show (1:Nat) < 2 ^ 1 by decide,show (1:Nat) < 2 ^ 1 by decide⟩
theorem h11:1<=((1,1):Mq.Q2).2:=by decide
theorem Aw {p:Mq.Q2}{k:Nat}(l:Low p)(h0:0 < p.1)(b:Bd k p):Low (rG (1,1) p)/\Bd (k+1) (rG (1,1) p)/\Mq.val (rG (1,1) p)=1 / Mq.val p:=by
 refine⟨Mq.Ni h11 (by lia),(Mq.Tm Lq b h11 (by lia)).mono (by lia),?_⟩;rw[Mq.Ox h11 l.pos (by lia),Mq.qb6]
theorem qc8 {M:List (List Mq.Q2)}{w n k m h:Nat}{d:RD}(b:MxB M w w n)(pt:fR (m:Int) d.2.1 d.2.2.1)(hm:m<=w)(hk:d.1=.pc)(l:Low d.2.2.2)(h0:0 < d.2.2.2.1)(bk:Bd k d.2.2.2):MxB (pM M d) w w (n+4*k+20)/\∀x y,Mq.val (iW (pM M d) x y)=Mq.val (iW M x y)+cM d h x y:=by
 obtain⟨i0,i1,j0,j1⟩:=pt;obtain⟨ls,bs,vs⟩:=Aw l h0 bk;obtain⟨ln,bn,vn⟩:=qN ls bs;have pt':fR (w:Int) d.2.1 d.2.2.1:=⟨i0,by lia,j0,by lia⟩
 obtain⟨b1,v1⟩:=Kn b pt' (c:=d.2.1.toNat) (by lia) ls bs;obtain⟨b2,v2⟩:=Kn b1 pt' (c:=d.2.2.1.toNat) (by lia) ln bn;refine⟨b2.mono (by lia),fun x y=>?_⟩;unfold pM;rw[v2,v1,vn,vs];unfold cM;rw[hk];show _=_+dl d.2.1.toNat d.2.2.1.toNat x*dl d.2.1.toNat d.2.2.1.toNat y*(1 / Mq.val d.2.2.2)
 generalize 1 / Mq.val d.2.2.2=v;generalize dl d.2.1.toNat d.2.2.1.toNat x=u;unfold dl
 by_cases c1:d.2.1.toNat=y<;>by_cases c2:d.2.2.1.toNat=y<;>simp only[c1,c2,if_true,if_false]<;>grind
theorem qc4 {rs:List Mq.Q2}{w n k m h:Nat}{d:RD}(b:LnB rs w n)(pt:fR (m:Int) d.2.1 d.2.2.1)(hm:m<=w)(hk:d.1=.pu)(l:Low d.2.2.2)(bk:Bd k d.2.2.2):LnB (pR rs d) w (n+4*k+20)/\∀x,Mq.val ((pR rs d).getD x (0,1))=Mq.val (rs.getD x (0,1))+cR d h x:=by
 obtain⟨i0,i1,j0,j1⟩:=pt;obtain⟨ln,bn,vn⟩:=qN l bk;have b1:=b.rz (j:=d.2.1.toNat) (by lia) ln bn;have b2:=b1.rz (j:=d.2.2.1.toNat) (by lia) l bk;refine⟨b2.mono (by lia),fun x=>?_⟩;unfold pR;rw[Hj b1 (by lia) l,Hj b (by lia) ln,vn];unfold cR;rw[hk];show _=_ + - dl d.2.1.toNat d.2.2.1.toNat x*Mq.val d.2.2.2;unfold dl
 by_cases c1:d.2.1.toNat=x<;>by_cases c2:d.2.2.1.toNat=x<;>simp only[c1,c2,if_true,if_false]<;>grind
def yS (K:Frag):Sp:=fun vs H Q _=>∃(l z:Addr) (j:Nat) (xs:List V) (ps:List Mq.Q2) (a:Mq.Q2) (n m:Nat),vs=[.ref l,.int (j:Int),.ref z]/\H l=some (.lst xs)/\Fqs K H xs ps/\j < ps.length/\1<=(ps.getD j (0,1)).2/\Bd n (ps.getD j (0,1))/\Fq K H z a/\1<=a.2/\Bd m a/\n+m+1<=9000/\∀v H1,aK H H1->Fq K H1 v (kI (ps.getD j (0,1)) a)->Q .non (upd H1 l (.lst (xs.set j (.ref v))))
def Gn (K:Frag)(CK:Kd->Addr):Sp:=fun vs H Q _=>∃(D x z:Addr) (zz:V) (as:List Addr) (M:List (List Mq.Q2)) (d:RD) (w n k c:Nat) (a:Mq.Q2),vs=[.ref D,.ref x,.int (c:Int),.ref z]/\Mx K H D as M/\MxB M w w n/\Rw CK H x d.1 (.int d.2.1) (.int d.2.2.1) zz/\fR (w:Int) d.2.1 d.2.2.1/\c < w/\Fq K H z a/\Low a/\Bd k a/\n+2*k+4<=9000/\∀H',SX as H H'->Mx K H' D as (en M d c a)->Q .non H'
def Ar (K:Frag)(CK:Kd->Addr):Sp:=fun vs H Q _=>∃(D x zz:Addr) (as:List Addr) (M:List (List Mq.Q2)) (d:RD) (w n k:Nat),vs=[.ref D,.ref x]/\Mx K H D as M/\MxB M w w n/\Rw CK H x d.1 (.int d.2.1) (.int d.2.2.1) (.ref zz)/\Fq K H zz d.2.2.2/\fR (w:Int) d.2.1 d.2.2.1/\Low d.2.2.2/\0 < d.2.2.2.1/\Bd k d.2.2.2/\n+4*k+20<=9000/\∀H',SX as H H'->Mx K H' D as (pM M d)->Q .non H'
def Bq (K:Frag)(CK:Kd->Addr):Sp:=fun vs H Q _=>∃(R x zz:Addr) (ys:List V) (rs:List Mq.Q2) (d:RD) (w n k:Nat),vs=[.ref R,.ref x]/\H R=some (.lst ys)/\Fqs K H ys rs/\LnB rs w n/\Rw CK H x d.1 (.int d.2.1) (.int d.2.2.1) (.ref zz)/\Fq K H zz d.2.2.2/\fR (w:Int) d.2.1 d.2.2.1/\Low d.2.2.2/\Bd k d.2.2.2/\n+4*k+20<=9000/\∀ys' H',SX [R] H H'->H' R=some (.lst ys')->Fqs K H' ys' (pR rs d)->Q .non H'
theorem fpl:¬(("places":Str) = "lines"):=by decide +kernel
theorem fpa:¬(("places":Str) = "arrivals"):=by decide +kernel
theorem fla:¬(("lines":Str) = "arrivals"):=by decide +kernel
def mS (p l a:Addr):List (Str × V):=dG "arrivals" (.ref a) (dG "lines" (.ref l) (dG "places" (.ref p) []))
theorem yL (p l a:Addr):(mS p l a).lookup ("places":Str)=some (.ref p):=by
 unfold mS;rw[bA,if_neg fpa,bA,if_neg fpl,bA,if_pos rfl]
theorem yK (p l a:Addr):(mS p l a).lookup ("lines":Str)=some (.ref l):=by
 unfold mS;rw[bA,if_neg fla,bA,if_pos rfl]
theorem Fu (p l a:Addr):(mS p l a).lookup ("arrivals":Str)=some (.ref a):=by
 unfold mS;rw[bA,if_pos rfl]
theorem Ao (p l a:Addr){x:Str}(h1:¬x = "places")(h2:¬x = "lines")(h3:¬x = "arrivals"):(mS p l a).lookup x=none:=by
 unfold mS;rw[bA,if_neg h3,bA,if_neg h2,bA,if_neg h1];rfl
structure TB (K:Frag) (mg:Str->Option Value) (CT:Addr):Prop where
 cl:Cls K CT
 nP:gB K CT "places"
 nL:gB K CT "lines"
 nA:gB K CT "arrivals"
 mT:mg "Table"=some (.ref CT)
structure Lns (K:Frag) (H:Hp) (us:List V) (X:List (List Mq.Q2)):Prop where
 l:us.length=X.length
 r:∀(i:Nat) (x:V) (ps:List Mq.Q2),us[i]?=some x->X[i]?=some ps->∃(a:Addr) (xs:List V),x=.ref a/\SqL K H a xs/\Fqs K H xs ps
theorem Lns.same {K:Frag}{H H':Hp}{us:List V}{X:List (List Mq.Q2)}(e:aK H H')(h:Lns K H us X):Lns K H' us X:=⟨h.l,fun i x ps h1 h2=>let ⟨a,xs,e1,e2,e3⟩:=h.r i x ps h1 h2;⟨a,xs,e1,e.seq e2,e3.same e⟩⟩
theorem Lns.nil {K:Frag}{H:Hp}:Lns K H [] []:=⟨rfl,fun i x ps h=>by simp at h⟩
theorem Lns.snoc {K:Frag}{H:Hp}{us:List V}{X:List (List Mq.Q2)}{a:Addr}{xs:List V}{ps:List Mq.Q2}(f:Lns K H us X)(h:SqL K H a xs)(s:Fqs K H xs ps):Lns K H (us++[.ref a]) (X++[ps]):=by
 refine⟨by rw[List.length_append,List.length_append,f.l];rfl,fun i x qs h1 h2=>?_⟩;have l:=f.l
 by_cases c:i < us.length
 ·rw[getElem?_append_left c] at h1;rw[getElem?_append_left (by lia)] at h2;exact f.r i x qs h1 h2
 ·have hi:i=us.length:=by
   have:=(List.getElem?_eq_some_iff.mp h1).1;rw[List.length_append] at this;simp only[length_cons,length_nil] at this;lia
  subst hi;rw[getElem?_append_right (Nat.le_refl _),Nat.sub_self] at h1;rw[getElem?_append_right (by lia),show us.length - X.length=0 by lia] at h2
  cases h1
  cases h2
  exact⟨a,xs,rfl,h,s⟩
theorem Lns.upd {K:Frag}{H:Hp}{us:List V}{X:List (List Mq.Q2)}{l:Addr}{ys:List V}{o:HO}(f:Lns K H us X)(hl:H l=some (.lst ys))(n:∀x∈us,x≠.ref l):Lns K (upd H l o) us X:=⟨f.l,fun i x st h1 h2=>by
 obtain⟨a,xs,e1,h,s⟩:=f.r i x st h1 h2;have na:a≠l:=fun z=>n x (mem_of_getElem? h1) (by rw[e1,z]);exact⟨a,xs,e1,SqL.upd h na,s.upd hl⟩⟩
structure LnH (K:Frag) (H:Hp) (us:List V) (X:List (List Mq.Q2)):Prop where
 l:us.length=X.length
 r:∀(i:Nat) (x:V) (ps:List Mq.Q2),us[i]?=some x->X[i]?=some ps->∃(a:Addr) (xs:List V),x=.ref a/\H a=some (.lst xs)/\Fqs K H xs ps
theorem LnH.same {K:Frag}{H H':Hp}{us:List V}{X:List (List Mq.Q2)}(e:aK H H')(h:LnH K H us X):LnH K H' us X:=⟨h.l,fun i x ps h1 h2=>let ⟨a,xs,e1,e2,e3⟩:=h.r i x ps h1 h2;⟨a,xs,e1,e _ _ e2,e3.same e⟩⟩
theorem LnH.nil {K:Frag}{H:Hp}:LnH K H [] []:=⟨rfl,fun i x ps h=>by simp at h⟩
theorem LnH.snoc {K:Frag}{H:Hp}{us:List V}{X:List (List Mq.Q2)}{a:Addr}{xs:List V}{ps:List Mq.Q2}(f:LnH K H us X)(h:H a=some (.lst xs))(s:Fqs K H xs ps):LnH K H (us++[.ref a]) (X++[ps]):=by
 refine⟨by rw[List.length_append,List.length_append,f.l];rfl,fun i x qs h1 h2=>?_⟩;have l:=f.l
 by_cases c:i < us.length
 ·rw[getElem?_append_left c] at h1;rw[getElem?_append_left (by lia)] at h2;exact f.r i x qs h1 h2
 ·have hi:i=us.length:=by
   have:=(List.getElem?_eq_some_iff.mp h1).1;rw[List.length_append] at this;simp only[length_cons,length_nil] at this;lia
  subst hi;rw[getElem?_append_right (Nat.le_refl _),Nat.sub_self] at h1;rw[getElem?_append_right (by lia),show us.length - X.length=0 by lia] at h2
  cases h1
  cases h2
  exact⟨a,xs,rfl,h,s⟩
theorem LnH.upd {K:Frag}{H:Hp}{us:List V}{X:List (List Mq.Q2)}{l:Addr}{ys:List V}{o:HO}(f:LnH K H us X)(hl:H l=some (.lst ys))(n:∀x∈us,x≠.ref l):LnH K (upd H l o) us X:=⟨f.l,fun i x st h1 h2=>by
 obtain⟨a,xs,e1,h,s⟩:=f.r i x st h1 h2;have na:a≠l:=fun z=>n x (mem_of_getElem? h1) (by rw[e1,z]);exact⟨a,xs,e1,by rw[aM na];exact h,s.upd hl⟩⟩
theorem LnH.lns {K:Frag}{H:Hp}{us:List V}{X:List (List Mq.Q2)}(h:LnH K H us X):Lns K H us X:=⟨h.l,fun i x ps h1 h2=>let ⟨a,xs,e1,e2,e3⟩:=h.r i x ps h1 h2;⟨a,xs,e1,SqL.of e2,e3⟩⟩
theorem Lns.at {K:Frag}{H:Hp}{us:List V}{X:List (List Mq.Q2)}(h:Lns K H us X){i:Nat}{ps:List Mq.Q2}(hi:X[i]?=some ps):∃a xs,us[i]?=some (.ref a)/\SqL K H a xs/\Fqs K H xs ps:=by
 have hl:i < us.length:=by rw[h.l];exact(List.getElem?_eq_some_iff.mp hi).1
 obtain⟨a,xs,e,h1,h2⟩:=h.r i _ ps (getElem?_eq_getElem hl) hi;exact⟨a,xs,by rw[getElem?_eq_getElem hl,e],h1,h2⟩
theorem cP.seqI {K:Frag}{t a C dx:Addr}{fs:List (Str × V)}{H H':Hp}{xs:List V}(ht:H t=some (.ins C dx fs))(e:cP t H H')(h:SqL K H a xs):SqL K H' a xs:=by
 rcases h with (h | ⟨u,h⟩) | h
 ·exact .inl (.inl (e _ _ h (kN h ht (fun z=>by cases z))))
 ·exact .inl (.inr ⟨u,e _ _ h (kN h ht (fun z=>by cases z))⟩)
 ·exact .inr h
theorem cP.seqTI {K:Frag}{t a C dx:Addr}{fs:List (Str × V)}{H H':Hp}{xs:List V}(ht:H t=some (.ins C dx fs))(e:cP t H H')(h:SqT K H a xs):SqT K H' a xs:=by
 rcases h with (h | ⟨u,h⟩) | h
 ·exact .inl (.inl (e _ _ h (kN h ht (fun z=>by cases z))))
 ·exact .inl (.inr ⟨u,e _ _ h (kN h ht (fun z=>by cases z))⟩)
 ·exact .inr h
theorem cP.fqsI {K:Frag}{t C dx:Addr}{fs:List (Str × V)}{H H':Hp}(ht:H t=some (.ins C dx fs))(e:cP t H H'):∀{xs:List V} {ps:List Mq.Q2},Fqs K H xs ps->Fqs K H' xs ps
 |_,_,.nil=>.nil
 |_,_,.cons f q=>.cons (cP.seqTI ht e f) (cP.fqsI ht e q)
theorem cP.lnsI {K:Frag}{t C dx:Addr}{fs:List (Str × V)}{H H':Hp}{us:List V}{X:List (List Mq.Q2)}(ht:H t=some (.ins C dx fs))(e:cP t H H')(h:Lns K H us X):Lns K H' us X:=⟨h.l,fun i x ps h1 h2=>let ⟨a,xs,e1,e2,e3⟩:=h.r i x ps h1 h2;⟨a,xs,e1,cP.seqI ht e e2,cP.fqsI ht e e3⟩⟩
structure iK (CT:Addr) (K:Frag) (H:Hp) (t:Addr) (es:List Int) (X:List (List Mq.Q2)) (cs:List Mq.Q2):Prop where
 e:∃(dx p l a:Addr) (us ys:List V),H t=some (.ins CT dx (mS p l a))/\SqL K H p (es.map V.int)/\SqL K H l us/\Lns K H us X/\SqL K H a ys/\Fqs K H ys cs
theorem iK.same {CT:Addr}{K:Frag}{H H':Hp}{t:Addr}{es:List Int}{X:List (List Mq.Q2)}{cs:List Mq.Q2}(s:aK H H')(h:iK CT K H t es X cs):iK CT K H' t es X cs:=by
 obtain⟨dx,p,l,a,us,ys,h1,h2,h3,h4,h5,h6⟩:=h.e;exact⟨dx,p,l,a,us,ys,s _ _ h1,s.seq h2,s.seq h3,h4.same s,s.seq h5,h6.same s⟩
def yB (CT:Addr)(K:Frag):Sp:=fun vs H Q _=>∃(t dx e g c:Addr) (es:List Int) (us ys:List V) (X:List (List Mq.Q2)) (cs:List Mq.Q2),vs=[.ref t,.ref e,.ref g,.ref c]/\H t=some (.ins CT dx [])/\SqL K H e (es.map V.int)/\SqL K H g us/\Lns K H us X/\us.length<=100/\SqL K H c ys/\Fqs K H ys cs/\∀H',cP t H H'->iK CT K H' t es X cs->Q .non H'
def Gf (CT:Addr)(K:Frag):Sp:=fun vs H Q _=>∃(t:Addr) (es:List Int) (X:List (List Mq.Q2)) (cs:List Mq.Q2),vs=[.ref t]/\iK CT K H t es X cs/\∀a H',aK H H'->H a=none->H' a=some (.lst (es.map V.int))->Q (.ref a) H'
end L2
namespace Mq
open Shp
def ix2 (X:List (List Q2))(i j:Nat):Q2:=(X.getD i []).getD j z0
theorem qG {X:List (List Q2)}{i:Nat}(h:i < X.length):X[i]?=some (X.getD i []):=by rw[getD_eq_getElem?_getD,getElem?_eq_getElem h];rfl
theorem gU {l:List Q2}{i:Nat}(h:i < l.length):l[i]?=some (l.getD i z0):=by rw[getD_eq_getElem?_getD,getElem?_eq_getElem h];rfl
end Mq
open Mq (gU qG)
namespace L2
open Mq Shp
def cv (cs:List Q2)(i:Nat):Rat:=val (cs.getD i z0)
theorem Mr {a b:List Q2}{m:Nat}(la:a.length=m)(lb:b.length=m)(h:∀i,i < m->a.getD i z0=b.getD i z0):a=b:=by
 refine ext_getElem (by lia) fun i h1 h2=>?_;have:=h i (by lia)
 rwa [getD_eq_getElem?_getD,getD_eq_getElem?_getD,getElem?_eq_getElem h1,getElem?_eq_getElem h2] at this
theorem Yy {a b:List (List Q2)}{m:Nat}(la:a.length=m)(lb:b.length=m)(ra:∀row∈a,row.length=m)(rb:∀row∈b,row.length=m)(h:∀i j,i < m->j < m->ix2 a i j=ix2 b i j):a=b:=by
 refine ext_getElem (by lia) fun i h1 h2=>?_;refine Mr (ra _ (getElem_mem h1)) (rb _ (getElem_mem h2)) fun j hj=>?_;have:=h i j (by lia) hj;unfold ix2 at this
 rwa [getD_eq_getElem?_getD (l:=a),getD_eq_getElem?_getD (l:=b),getElem?_eq_getElem h1,getElem?_eq_getElem h2] at this
open PySem
section
variable {X:Cx}
theorem wW {pins:List (Addr × Obj)}{σ:St}{H:Hp}{s:Shared}{a C dx:Addr}{fs:List (Str × V)}(I:Inv X pins σ H s)(e:H a=some (dM a (.ref C) (some dx)))(ed:H dx=some (.xd fs)):∃ox od,W.InstAt s.heap a ox C (some od):=by
 obtain⟨⟨ob,vs,h1,h2,h3,h4⟩,_⟩:=(show cD X.prog X.w H s.heap a (dM a (.ref C) (some dx)) from I.hok a _ e)
 obtain⟨mA,N1,r⟩:=(show cD X.prog X.w H s.heap dx (.xd fs) from I.hok dx _ ed)
 obtain⟨od,ho,hl⟩:=pV N1;exact⟨ob,od,h1,h2,by unfold W.notCls;rw[h4],by rw[h3];exact ho⟩
theorem Es:fK X (.builtin "isinstance") (fun xs H Q=>∃a C dx fs c cv b,xs=[.ref a,c]/\H a=some (dM a (.ref C) (some dx))/\H dx=some (.xd fs)/\mD X.K C/\bS c cv/\(∀u,bS c u->u=cv)/\W.kitOne X.K (.ref C) cv=some b/\Q (.bl b) H):=by
 intro pins s σ H xs us Q I r h;obtain⟨a,C,dx,fs,c,cv,b,rfl,ha,hdx,k,rc,ru,e,q⟩:=h;obtain⟨u,w',rfl,rx,rn⟩:=uH r
 cases (show u=Value.ref a from rx)
 cases ru w' rn
 obtain⟨ox,od,hi⟩:=wW I ha hdx;exact W.kia_one (oE (ox:=ox) (odo:=some od) k) I.kIn hi e (fun z=>nomatch z) fun tk=>⟨.bl b,H,I.tok tk,rfl,q⟩
theorem Az:fK X (.builtin "isinstance") (fun xs H Q=>∃(a C dx:Addr) (fs:List (Str × V)) (tp:Addr) (cs:List Addr) (b:Bool),xs=[.ref a,.ref tp]/\H a=some (dM a (.ref C) (some dx))/\H dx=some (.xd fs)/\mD X.K C/\H tp=some (.tup (cs.map V.ref))/\W.kitAny X.K (.ref C) (cs.map Value.ref)=some b/\Q (.bl b) H):=by
 intro pins s σ H xs us Q I r h;obtain⟨a,C,dx,fs,tp,cs,b,rfl,ha,hdx,k,ht,e,q⟩:=h;obtain⟨u,w',rfl,rx,rn⟩:=uH r
 cases (show u=Value.ref a from rx)
 cases (show w'=Value.ref tp from rn)
 obtain⟨ox,od,hi⟩:=wW I ha hdx;obtain⟨its,rv,⟨o,h1,h2,n,h3⟩,_⟩:=I.tuple (SqT.of ht);have ei:=qM rv;subst ei;obtain⟨oc,od2,oda,osl⟩:=o;dsimp only at h2 h3;subst h2 h3;exact W.kia_tup (oE (ox:=ox) (odo:=some od) k) I.kIn hi h1 e (fun z=>nomatch z) fun tk=>⟨.bl b,H,I.tok tk,rfl,q⟩
end
end L2
namespace Mq
def KJ (m:Nat)(A1:Mat)(R:List (List Int)):Prop:=∀Φ,Lin Φ->(∀i,i < m->Φ (A1 i)=0)->∀k,k < m->Φ (at2 R k)=0
theorem KJ.swap {m:Nat}{A1:Mat}{R:List (List Int)}(h:KJ m A1 R)(hl:R.length=m){p r:Nat}(hp:p < m)(hr:r < m):KJ m A1 (dZ R p r):=fun Φ lin hz k hk=>by
 have e:at2 (dZ R p r) k=at2 R (sw p r k):=by
  funext x
  rw[qO (by lia) (by lia)]
 rw[e];exact h Φ lin hz _ (yO hp hr hk)
theorem KJ.clear {m w:Nat}{A0 A1:Mat}{R:List (List Int)}{r col:Nat}{d sg:Int}(h:KJ m A1 R)(s:SI m w A0 R r col d sg)(hr:r < m)(hc:col < w)(he:ent R r col≠0):KJ m A1 (bZ R r col d):=fun Φ lin hz k hk=>by
 have cl:=fun (x:Nat)=>sP s hr hc he hk x;have z:=h Φ lin hz
 by_cases e:k=r
 ·have e2:at2 (bZ R r col d) k=at2 R k:=by funext x;rw[cl x,if_pos e]
  rw[e2];exact z k hk
 ·have e2:at2 (bZ R r col d) k=fun x=>(fun x=>(at2 R r col / (d:Rat))*at2 R k x) x+(-(at2 R k col / (d:Rat)))*at2 R r x:=by
   funext x
   show _=(at2 R r col / (d:Rat))*at2 R k x+_;rw[cl x,if_neg e];grind
  rw[e2,lin,lin.mul,z k hk,z r hr];grind
theorem KJ.whole {m w:Nat}{A0 A1:Mat}{R:List (List Int)}{d sg:Int}(h:KJ m A1 R)(s:SI m w A0 R m m d sg){v:Nat->Rat}(hv:∀i,i < m->(rs m fun k=>A1 i k*v k)=A1 i m){k:Nat}(hk:k < m):at2 R k m / (d:Rat)=v k:=by
 obtain⟨A,c,B,e⟩:=s.bar;have dn:=B.dne;have:=h (fun f=>(rs m fun k=>f k*v k) - f m) (fun x y l=>by
  have:(rs m fun k=>(x k+l*y k)*v k)=(rs m fun k=>x k*v k+l*(y k*v k)):=aT fun k _=>by grind
  show (rs m fun k=>(x k+l*y k)*v k) - (x m+l*y m)=((rs m fun k=>x k*v k) - x m)+l*((rs m fun k=>y k*v k) - y m)
  rw[this,eY,fV];grind) (fun i hi=>by
  show (rs m fun k=>A1 i k*v k) - A1 i m=0;rw[hv i hi];grind) k hk
 have e1:(rs m fun j=>at2 R k j*v j)=rs m fun j=>if j=k then (d:Rat)*v k else 0:=aT fun j hj=>by
  have i2:=B.i2 k j hk hj;rw[B.full rfl j hj] at i2;rw[i2]
  by_cases z:j=k
  ·rw[if_pos z,if_pos z,z]
  ·rw[if_neg z,if_neg z];grind
 have e2:(rs m fun j=>at2 R k j*v j) - at2 R k m=0:=this;rw[e1,kZ m k _ hk] at e2;grind
end Mq
namespace Shp
open PySem L2
theorem Ky {m w:Nat}{A0 A1:Mat}:Stp m w A0 (fun R=>Mq.KI m A1 R/\Mq.KJ m A1 R):=
 ⟨fun R r col d sg p s h1 h2 h=>⟨h.1.swap s.len h2 (by lia),h.2.swap s.len h2 (by lia)⟩,fun R r col d sg s h1 h2 h3 h=>⟨h.1.clear s h1 h2 h3,h.2.clear s h1 h2 h3⟩⟩
theorem Vx {X:List (List Mq.Q2)}{qs:List Mq.Q2}(hX:dS X)(hq:Mq.Pos qs)(hl:qs.length=X.length)(hw:∀row∈X,row.length=X.length){R:List (List Int)}{w:Nat}{d sg:Int}(h:Mq.KJ X.length (Mq.at2 (gR X qs)) R)(s:SI X.length w (Mq.at2 (gR X qs)) R X.length X.length d sg){v:Nat->Rat}(hv:∀i,i < X.length->(Mq.rs X.length fun j=>kK X i j*v j)=Mq.val (qs.getD i Mq.z0)){k:Nat}(hk:k < X.length):Mq.at2 R k X.length / (d:Rat)=v k:=by
 refine h.whole s (fun i hi=>?_) hk;rw[uL hX hq hl hw hi (by lia),if_neg (by lia),<- hv i hi,<- fV];refine aT fun k hk=>?_;rw[uL hX hq hl hw hi (by lia),if_pos hk];grind
abbrev MxR (X:List (List Mq.Q2)):Prop:=dS X/\(∀row∈X,(∀p∈row,Bd 8 p)/\row.length=X.length)/\X.length<=8
abbrev RtR (X:List (List Mq.Q2))(qs:List Mq.Q2):Prop:=qs.length=X.length/\pU qs/\∀p∈qs,Bd 240 p
structure qf0 (X:List (List Mq.Q2)) (qs ps:List Mq.Q2):Prop extends Slv X qs ps where
 uni:∀v:Nat->Rat,(∀i,i < X.length->(Mq.rs X.length fun j=>kK X i j*v j)=Mq.val (qs.getD i Mq.z0))->∀j,j < X.length->Mq.val (ps.getD j Mq.z0)=v j
theorem Pt {row:List Mq.Q2}{n m:Nat}(hp:Mq.Pos row)(hb:∀p∈row,Bd n p)(hl:Mq.B m (cO row))(j:Nat):Mq.B (n+m) ((iw row).getD j 0):=by
 by_cases hj:j < row.length
 ·have ej:=Mq.Yf hj;have mem:row.getD j Mq.z0∈row:=mem_of_getElem? ej;obtain⟨k,hk⟩:=Ba hp _ mem;have p1:=hp _ mem;have e2:(iw row).getD j 0=Dx (cO row) (row.getD j Mq.z0):=by
   unfold iw;rw[getD_eq_getElem?_getD,getElem?_map,ej];rfl
  have e:=dQ (show (row.getD j Mq.z0).2≠0 by lia) (show cO row=(row.getD j Mq.z0).2*k by rw[hk,Int.mul_comm]);rw[e2];unfold Dx;rw[e];refine(hb _ mem).a.mul (hl.le (j:=k) ?_);rw[hk,Int.natAbs_mul];exact Nat.le_mul_of_pos_right _ (by lia)
 ·rw[Mq.pG (by rw[pW];lia)];exact Nat.two_pow_pos _
end Shp
namespace Mq
theorem Wb.rs5 {n K:Nat}{f:Nat->Rat}(hK:K<=32)(h:∀k,k < K->Wb n (f k)):Wb (n+5) (Mq.rs K f):=by
 obtain⟨z,e,b⟩:=Vn K h;refine⟨z,e,?_⟩;have p:2 ^ (n+5)=32*2 ^ n:=by rw[Nat.pow_add];lia
 have q:K*2 ^ n<=32*2 ^ n:=Nat.mul_le_mul_right _ hK;have r:0 < 2 ^ n:=Nat.two_pow_pos n;show z.natAbs < 2 ^ (n+5)
 by_cases k0:K=0
 ·subst k0;lia
 ·lia
theorem xM {n:Nat}:∀(r:Nat) (M:Mat),r<=32->(∀i j,i < r->Wb n (M i j))->Wb ((n+5)*r+1) (det r M)
 |0,_,_,_=>Wb.one
 |r+1,M,hr,h=>by
  rw[eK];have:=Wb.rs5 (n:=n+((n+5)*r+1)) (K:=r+1) (f:=fun j=>sgn (r+j)*M r j*det r fun i k=>M i (skip j k)) hr fun j _=>((h r j (by lia)).sgn _).mul (xM r _ (by lia) fun i k hi=>h i _ (by lia));exact this.mono (by rw[Nat.mul_succ];lia)
section
variable {m:Nat} {A E:Mat} {r col:Nat} {d:Rat} {c:Nat->Nat} {n:Nat}
theorem Bar.wd5 (h:Bar m A E r col d c)(hA:∀i x,i < m->Wb n (A i x))(hm:m<=31):Wb ((n+5)*r+1) d:=by
 have rm:=h.rm;rw[<- h.i5];exact xM r _ (by lia) fun i j hi=>hA i _ (by lia)
theorem Bar.wtop5 (h:Bar m A E r col d c)(hA:∀i x,i < m->Wb n (A i x))(hm:m<=31){k:Nat}(hk:k < r)(x:Nat):Wb ((n+5)*r+7) (E k x):=by
 have rm:=h.rm;have hd:=h.dne
 by_cases hx:∃j,j < r/\x=c j
 ·obtain⟨j,hj,rfl⟩:=hx;rw[h.i2 k j hk hj];split
  ·exact(h.wd5 hA hm).mono (by lia)
  ·exact Wb.zero _
 ·let c2:Nat->Nat:=fun j=>if j=r then x else c j
  let u:Nat->Rat:=fun j=>if j=c k then 1 else 0
  have hΦ:=Gu r A c2;have z:=h.i6 _ hΦ (fun s hs=>Fm r A c2 hs) k hk;have eu:u=fun y=>(fun y=>u y+(-(1 / d))*E k y) y+(1 / d)*E k y:=by
   funext y
   show u y=u y+(-(1 / d))*E k y+(1 / d)*E k y;grind
  have fb:=xQ r A c2 (fun y=>u y+(-(1 / d))*E k y) fun j hj=>by
   have ec:c2 j=c j:=by show (if j=r then x else c j)=_;rw[if_neg (by lia)]
   rw[ec];show u (c j)+(-(1 / d))*E k (c j)=0;rw[h.i2 k j hk hj];show (if c j=c k then (1:Rat) else 0)+_=0
   by_cases e:j=k
   ·rw[if_pos e,if_pos (by rw[e])];grind
   ·rw[if_neg e,if_neg (fun q=>e (h.cinj j k hj hk q))];grind
  have dd:(det r fun i j=>A i (c2 j))=d:=by
   rw[<- h.i5];exact cB fun i j _ hj=>by show A i (if j=r then x else c j)=_;rw[if_neg (by lia)]
  have ux:u x=0:=by show (if x=c k then (1:Rat) else 0)=0;rw[if_neg (fun q=>hx ⟨k,hk,q⟩)]
  have cx:c2 r=x:=by show (if r=r then x else _)=x;rw[if_pos rfl]
  rw[dd,cx] at fb;have val:F r A c2 u=- E k x:=by
   rw[eu,hΦ,z,fb];show (u x+(-(1 / d))*E k x)*d+_=_;rw[ux];grind
  have wh:Wb ((n+5)*r+7) (F r A c2 u):=by
   rw[Ia];have:=Wb.rs5 (n:=1+((n+5)*r+1)) (K:=r+1) (f:=fun j=>Mq.sgn (r+j)*u (c2 j)*det r fun i k=>A i (c2 (Mq.skip j k))) (by lia) fun j _=>by
    refine Wb.mul (Wb.sgn ?_ _) (xM r _ (by lia) fun i k hi=>hA i _ (by lia));show Wb 1 (if c2 j=c k then (1:Rat) else 0);split
    ·exact Wb.one
    ·exact Wb.zero _
   exact this.mono (by lia)
  rw[val] at wh;have:=wh.neg
  rwa [show - - E k x=E k x by grind] at this
theorem Bar.wall5 (h:Bar m A E r col d c)(hA:∀i x,i < m->Wb n (A i x))(hm:m<=31){i:Nat}(hi:i < m)(x:Nat):Wb ((n+5)*(m+1)+8) (E i x):=by
 have rm:=h.rm;have mono:=Nat.mul_le_mul_left (n+5) rm;have e1:(n+5)*(m+1)=(n+5)*m+(n+5):=Nat.mul_succ ..
 by_cases h1:i < r
 ·exact(h.wtop5 hA hm h1 x).mono (by lia)
 ·have q:=h.i4 i x hi;rw[if_neg h1] at q;have e:E i x=d*A i x - rs r fun k=>A i (c k)*E k x:=by grind
  rw[e];have b1:Wb (n+((n+5)*r+7)+5) (d*A i x):=((h.wd5 hA hm).mul (hA i x hi)).mono (by lia);have b2:Wb (n+((n+5)*r+7)+5) (rs r fun k=>A i (c k)*E k x):=Wb.rs5 (by lia) fun k hk=>(hA i _ hi).mul (h.wtop5 hA hm hk x);exact(b1.sub b2).mono (by lia)
end
theorem SB.bd5 {n m w:Nat}{A0:Mat}{R:List (List Int)}{r col:Nat}{d sg:Int}(h:SB n m R r col d)(s:SI m w A0 R r col d sg)(hm:m<=31):BdR ((n+5)*(m+1)+8) R/\B ((n+5)*(m+1)+8) d:=by
 obtain⟨A,c,B,q⟩:=h;refine⟨fun i x=>?_,?_⟩
 ·by_cases hi:i < m
  ·obtain⟨z,e,b⟩:=B.wall5 q hm hi x;have:ent R i x=z:=Rat.intCast_inj.mp e;rw[this];exact b
  ·unfold ent;rw[getD_eq_getElem?_getD (l:=R),getElem?_eq_none (by rw[s.len];lia)];exact Nat.two_pow_pos _
 ·obtain⟨z,e,b⟩:=B.wd5 q hm;have:d=z:=Rat.intCast_inj.mp e;have mono:=Nat.mul_le_mul_left (n+5) B.rm;rw[this];exact b.mono (by rw[Nat.mul_succ];lia)
theorem Ma {a b L:Int}(ha:1<=a)(hb:1<=b)(h1:a ∣ L)(h2:b ∣ L):nW a b ∣ L:=by
 have g1:gc a b ∣ a:=Int.gcd_dvd_left ..;have g0:gc a b≠0:=by have:=uK (a:=a) (b:=b) (by lia);lia
 obtain⟨x,hx⟩:=g1;have e:nW a b=x*b:=by
  unfold nW;rw[dQ g0 hx]
 have k:(Int.lcm a b:Int) ∣ L:=Int.coe_lcm_dvd h1 h2;have m:(Int.gcd a b:Int)*(Int.lcm a b:Int)=a*b:=by
  have:=Int.gcd_mul_lcm a b;have h:((Int.gcd a b*Int.lcm a b:Nat):Int)=((a*b).natAbs:Nat):=by rw[this,Int.natAbs_mul]
  rw[Int.natCast_mul] at h;rw[h,Int.natAbs_of_nonneg (Int.mul_nonneg (by lia) (by lia))]
 have e2:(Int.lcm a b:Int)=x*b:=by
  have hg:(Int.gcd a b:Int)=gc a b:=rfl;rw[hg] at m;have:gc a b*(Int.lcm a b:Int)=gc a b*(x*b):=by
   rw[m,<- Int.mul_assoc,<- hx]
  exact Int.eq_of_mul_eq_mul_left g0 this
 rw[e,<- e2];exact k
theorem vU {L:Int}:∀{ps:List Q2},Pos ps->(∀p∈ps,p.2 ∣ L)->∀i,i<=ps.length->cO (ps.take i) ∣ L/\1<=cO (ps.take i)
 |ps,hp,h,0,_=>⟨Int.one_dvd _,by rw[take_zero];decide⟩
 |ps,hp,h,i+1,hi=>by
  obtain⟨a,b⟩:=vU hp h i (by lia);have hm:ps[i]?=some ps[i]:=getElem?_eq_getElem (by lia);have mem:=mem_of_getElem? hm;rw[lQ hm];refine⟨Ma b (hp _ mem) a (h _ mem),?_⟩;have:=oC (ps:=ps.take (i+1)) (fun p hp'=>hp p (mem_of_mem_take hp'))
  rwa [lQ hm] at this
theorem Gc {ps:List Q2}{L:Int}{n:Nat}(hp:Pos ps)(h:∀p∈ps,p.2 ∣ L)(hL:1<=L)(b:B n L):B n (cO ps):=by
 obtain⟨a,c⟩:=vU hp h ps.length (Nat.le_refl _);rw[take_length] at a c;refine b.le ?_;have:=Int.le_of_dvd (by lia) a;lia
end Mq
namespace Shp
open PySem L2
abbrev bw (n m:Nat):Nat:=(n+5)*(m+1)+8
theorem Sn (n:Nat){i j:Nat}(h:i<=j):bw n i<=bw n j:=Nat.add_le_add_right (Nat.mul_le_mul_left (n+5) (show i+1<=j+1 by lia)) 8
theorem Ue {X:List (List Mq.Q2)}{qs:List Mq.Q2}{L:Int}{k n:Nat}(hX:dS X)(hq:Mq.Pos qs)(hl:qs.length=X.length)(hb:∀row∈X,(∀p∈row,Bd k p/\p.2 ∣ L)/\row.length=X.length)(hqb:∀p∈qs,Bd k p/\p.2 ∣ L)(hL:1<=L)(b:Mq.B n L):BdR (k+n) (gR X qs):=fun i x=>by
 unfold ent
 by_cases hi:i < X.length
 ·rw[tZ hl hi];have pos:=rT hX hq hl hi;have al:∀p∈X.getD i []++[qs.getD i Mq.z0],Bd k p/\p.2 ∣ L:=fun p hp=>by
   rcases mem_append.mp hp with z | z
   ·exact(hb _ (mem_of_getElem? (vF hi))).1 p z
   ·have e:p=qs.getD i Mq.z0:=by simpa using z
    rw[e];exact hqb _ (mem_of_getElem? (Mq.Yf (show i < qs.length by lia)))
  exact Pt pos (fun p hp=>(al p hp).1) (Mq.Gc pos (fun p hp=>(al p hp).2) hL b) x
 ·rw[getD_eq_getElem?_getD (l:=gR X qs),getElem?_eq_none (by rw[Bp hl];lia)];exact Nat.two_pow_pos _
def Hs (K:Frag):Sp:=fun vs H Q _=>∃(l D:Addr) (zs:List V) (R:List (List Int)) (m w n:Nat) (Pr:List (List Int)->Prop),vs=[.ref l,.int (m:Int)]/\SqL K H l zs/\Imx D H zs R/\R.length=m/\(∀i,i < m->(R.getD i []).length=w)/\m<=w/\w<=100/\BdR n R/\1<=n/\bw n m<=9000/\m<=31/\Pr R/\Stp m w (Mq.at2 R) Pr/\
 ∀d l' zs' R' rank pivot sign H',aK H H'->H d=none->H l'=none->H' d=some (Hr l' rank pivot sign)->H' l'=some (.lst zs')->Imx l' H' zs' R'->SI m w (Mq.at2 R) R' rank m pivot sign->BdR (bw n m) R'->Mq.B (bw n m) pivot->Pr R'->Q (.ref d) H'
def vX (K:Frag):Sp:=fun vs H Q _=>∃(g b D:Addr) (H0:Hp) (us bs:List V) (X:List (List Mq.Q2)) (qs:List Mq.Q2) (k n:Nat),vs=[.ref g,.ref b]/\SqL K H g us/\Fmd K H0 D H us X/\SqL K H b bs/\Fqs K H bs qs/\qs.length=X.length/\pU qs/\(∀p∈qs,Bd k p)/\dS X/\(∀row∈X,(∀p∈row,Bd k p)/\row.length=X.length)/\X.length<=26/\10+k+k*(X.length+1)<=8000/\BdR n (gR X qs)/\1<=n/\bw n X.length<=8900/\wgt X≠0/\
 ∀l zs ps H',aK H H'->H l=none->H' l=some (.lst zs)->Fqs K H' zs ps->qf0 X qs ps->Q (.ref l) H'
end Shp
namespace L2
open PySem PySem.Spec PyProof.Rows
section
variable {X:Cx} {pins:List (Addr × Obj)} {σ:St} {H:Hp} {s:Shared} {a:Addr} {k:Key} {kvs:List (Key × V)} {u r:Value} {z:V} {A:Around} {E:Value->Shared->Prop}
theorem iZ.some_inv {o:Option V}{w:Value}(r:iZ o (some w)):∃v,o=some v/\bS v w:=by
 cases o with
 |none=>cases r
 |some v=>exact⟨v,rfl,r⟩
theorem Wo {Q:Value->Shared->Prop}(I:Inv X pins σ H s)(e:H a=some (.dK kvs))(ry:bS (kV k) u)(rz:bS z r)(hl:kvs.length < sizeLine)(h1:∀v w' s',jY kvs k=some v->Inv X pins σ H s'->bS v w'->Q w' s')(h2:jY kvs k=none->∀s',Inv X pins σ (upd H a (.dK (rP kvs k z))) s'->Q r s') :
  wpAny (model X.prog X.w) A (call (.builtin "dict.setdefault") [.ref a,u,r]) Q E s:=by
 obtain⟨z',hd,vs,rel,dd⟩:=Lj I.hok e;refine call_meetsIn PySem.F.slot_dict_setdefault dd.typeIs PySem.F.entry_dict_setdefault (PySem.F.args_dict_setdefault_3 _ _ _) (kt_meets_setdefault (dD X.prog X.w) a (Ge ry) hd r)
  ⟨vs,dd,by rw[<- rel.length];exact z',fun v hv=>?_,fun hv h' dd' hs=>?_⟩
 ·have rv:=rel.val k;rw[hv] at rv;obtain⟨x,ex,rx⟩:=iZ.some_inv rv;exact h1 x v _ ex (I.tok _) rx
 ·have hn:jY kvs k=none:=by
   have:=(rel.val k).isSome_eq;rw[hv] at this
   cases c:jY kvs k with
   |none=>rfl
   |some x=>rw[c] at this;cases this
  have he:∃q,h'.get? a=some q:=let ⟨q,_,_,hq,_⟩:=dd';⟨q,hq⟩
  refine h2 hn _ (Hh I (by rw[e];exact True.intro) hs he (Nd ?_ hd (rel.put k rz) dd'));have:=qZ kvs k z;lia
end
def Yw (td ty tx:TE):TE:=fun σ H Q=>td σ H fun x H1=>∃a,x=.ref a/\IsD H1 a/\ty σ H1 fun y H2=>tx σ H2 fun z H3=>∃kvs k,H3 a=some (.dK kvs)/\y=kV k/\kvs.length < sizeLine/\
 (∀v,jY kvs k=some v->Q v H3)/\(jY kvs k=none->Q z (upd H3 a (.dK (rP kvs k z))))
section
variable {X:Cx} {o e f:Expr} {apos cpos:Pos} {td ty tx:TE}
theorem Ny (ho:PE X o td)(he:PE X e ty)(hf:PE X f tx)(m:M2 X o "setdefault" apos e f cpos):PE X (.Call (.Attribute o "setdefault" apos) [e,f] [] cpos) (Yw td ty tx):=by
 intro pins s σ H Q I h;refine wpAny_Call_method m.base m.few m.line PySem.F.plainAttrs_dict PySem.F.slot_dict_setdefault PySem.F.type_dict_setdefault (thn (ho pins s σ H _ I h) fun u s1 ⟨x,H1,I1,rx,a,ex,d,q1⟩=>?_);subst ex;obtain rfl:u=Value.ref a:=rx;obtain⟨t1,t2,_⟩:=Me I1 d;refine⟨t1,t2,?_⟩;rw[m.trees];refine Calls.callWith_builtin rfl (Calls.evalArgs_plain (Calls.spliced_cons (thn (he pins s1 σ H1 _ I1 q1) fun iv s2 ⟨y,H2,I2,ry,q2⟩=>
  Calls.spliced_cons (thn (hf pins s2 σ H2 _ I2 q2) fun fv s3 ⟨z,H3,I3,rz,kvs,k,ea,ey,hl,q3,q4⟩=>Calls.spliced_nil ?_))))
 subst ey;exact Wo I3 ea ry rz hl (fun v w' s4 ev I4 rw'=>⟨v,_,I4,rw',q3 v ev⟩) (fun en s4 I4=>⟨z,_,I4,rz,q4 en⟩)
end
def qc9 (td:TE):TE:=fun σ H Q=>td σ H fun x H1=>∃a kvs,x=.ref a/\H1 a=some (.dK kvs)/\∀l,H1 l=none->Q (.ref l) (upd H1 l (.lst (kvs.map (·.2))))
theorem KV.snd {κ:Type}:∀{kvs:List (κ × V)} {vs:List (κ × Value)},KV kvs vs->bL (kvs.map (·.2)) (vs.map (·.2))
 |_,_,.nil=>.nil
 |_,_,.cons h r=>.cons h.2 (KV.snd r)
section
variable {X:Cx} {o:Expr} {apos cpos pos p:Pos} {td:TE}
theorem Bh (hc:X.calm=true)(hg:Gl X "list")(hm:X.mg "list"=none)(ho:PE X o td)(hbase:attributeBase o "values" X.env (eval o X.env)=eval o X.env:=by rfl)(hline:(apos.endLine == cpos.line)=true:=by rfl)(he:starEach [.Call (.Attribute o "values" apos) [] [] cpos] X.env=(false,eval (.Call (.Attribute o "values" apos) [] [] cpos) X.env) :: starEach [] X.env:=by rfl)(hpl:(backTo pos (starEach [] X.env)).any (·.1)=false:=by rfl) :
  PE X (.Call (.Name "list" p) [.Call (.Attribute o "values" apos) [] [] cpos] [] pos) (qc9 td):=by
 intro pins s σ H Q I h;refine wpAny_Call_Name_kw (gJ I hg hm PyProof.Rows.boot_list ?_);refine PyProof.Rows.callWith_type1 ?_ he hpl;rw[he];show wpAny _ _ (spliced ((false,eval (.Call (.Attribute o "values" apos) [] [] cpos) X.env) :: backTo pos (starEach [] X.env))) _ _ s;refine Calls.spliced_cons ?_;refine wpAny_Call_method0_late hbase hline (thn (ho pins s σ H _ I h) fun v s1 ⟨x,H1,I1,rx,a,kvs,ex,ea,q⟩=>?_);subst ex;obtain rfl:v=Value.ref a:=rx;obtain⟨t1,t2,_⟩:=Me I1 (.inl ⟨kvs,.inl ea⟩);obtain⟨z',hd,vs,rel,dd⟩:=Lj I1.hok ea;refine⟨"dict","dict.values",PySem.F.plainAttrs_dict,PySem.F.slot_dict_values,PySem.F.type_dict_values,t1,t2,Calls.callWith_builtin rfl (PySem.evalArgs_none ?_)⟩;refine call_meetsIn PySem.F.slot_dict_values dd.typeIs PySem.F.entry_dict_values (PySem.F.args_dict_values_1 _) (meets_dict_values (dD X.prog X.w) a hd) ⟨⟨vs,dd⟩,?_⟩;refine Calls.spliced_nil ?_;have I2:Inv X pins σ H1 { s1 with heap:=s1.heap.push { cls:=.type "dict_values",data:=.fields #[.ref a] },toks:=s1.toks }:=I1.kept (t':=s1.toks) (fun b ob e=>Heap.get?_push_of_some _ e);obtain⟨ob,es,ep,g1,g2⟩:=dd;have hv:(s1.heap.push { cls:=.type "dict_values",data:=.fields #[.ref a] }).IsValuesView s1.heap.objs.size a:=⟨_,Heap.get?_push_size _ rfl,rfl,rfl⟩
 have hda:Heap.DictAt (dD X.prog X.w) (s1.heap.push { cls:=.type "dict_values",data:=.fields #[.ref a] }) a vs ep:=⟨ob,es,Heap.get?_push_of_some _ g1,g2⟩
 refine W.kdl_call (s:={ s1 with heap:=s1.heap.push { cls:=.type "dict_values",data:=.fields #[.ref a] },toks:=s1.toks }) W.kdl_values (I2.ok.hd hc) ⟨hv,hda⟩ (by rw[<- rel.length];exact z') (fun h' tk acc' c' kp e items=>?_);have ev:acc'.toList=vs.map (·.2):=W.kdl_vals_eq acc'.toList (by rw[Array.length_toList];exact items.1) (fun j v hj=>items.2 j v (by rw[<- Array.getElem?_toList];exact hj));have rl:bL (kvs.map (·.2)) acc'.toList:=by rw[ev];exact KV.snd rel
 exact⟨.ref _,_,I2.laid (t':=tk) kp (Nat.le_refl _) (show cD X.prog X.w _ h' _ (.lst (kvs.map (·.2))) from ⟨by rw[length_map];exact z',acc'.toList,c',rl,e⟩),rfl,q _ (I2.hok.fresh (Nat.le_refl _))⟩
end
def Se (ta:TA):TE:=fun σ H Q=>ta σ H fun vs H1=>∃n:Nat,vs=[.int (n:Int)]/\n<=1000/\∀l,H1 l=none->Q (.ref l) (upd H1 l (.lst ((List.range n).map fun (i:Nat)=>V.int (i:Int))))
theorem vA:∀{n:Nat} {acc:List Value},acc.length=n->(∀(j:Nat) (v:Value),acc[j]?=some v->∃t,v=Value.int (j:Int) t)->bL ((List.range n).map fun (i:Nat)=>V.int (i:Int)) acc
 |0,[],_,_=>.nil
 |n+1,acc,hl,h=>by
  have e:acc=acc.take n++[acc[n]'(by lia)]:=by
   have h1:acc.take (n+1)=acc:=take_of_length_le (by lia);have h2:acc.take (n+1)=acc.take n++[acc[n]'(by lia)]:=by rw[take_add_one,getElem?_eq_getElem (by lia)];rfl
   rw[h1] at h2;exact h2
  rw[range_succ,map_append,e];refine bL.append (vA (by rw[length_take];lia) fun j v hj=>?_) (.cons ?_ .nil)
  ·have hjn:j < n:=by
    have:=(List.getElem?_eq_some_iff.mp hj).1;rw[length_take] at this;lia
   rw[getElem?_take,if_pos hjn] at hj;exact h j v hj
  ·obtain⟨t,ht⟩:=h n _ (getElem?_eq_getElem (by lia));rw[ht];exact⟨t,rfl⟩
section
variable {X:Cx} {a:Expr} {p p2 pos pos2:Pos} {ta:TA}
theorem oN (hc:X.calm=true)(hgl:Gl X "list")(hml:X.mg "list"=none)(hg:Gl X "range")(hm:X.mg "range"=none)(ha:PA X [a] ta)(hs:starEach [a] X.env=[(false,eval a X.env)]:=by rfl)(he:starEach [.Call (.Name "range" p2) [a] [] pos2] X.env=(false,eval (.Call (.Name "range" p2) [a] [] pos2) X.env) :: starEach [] X.env:=by rfl)(hpl:(backTo pos (starEach [] X.env)).any (·.1)=false:=by rfl) :
  PE X (.Call (.Name "list" p) [.Call (.Name "range" p2) [a] [] pos2] [] pos) (Se ta):=by
 intro pins s σ H Q I h;refine wpAny_Call_Name_kw (gJ I hgl hml PyProof.Rows.boot_list ?_);refine PyProof.Rows.callWith_type1 ?_ he hpl;rw[he];show wpAny _ _ (spliced ((false,eval (.Call (.Name "range" p2) [a] [] pos2) X.env) :: backTo pos (starEach [] X.env))) _ _ s;refine Calls.spliced_cons ?_;refine wpAny_Call_Name_kw (gJ I hg hm boot_range (PyProof.Rows.callWith_type1 (thn (ha pos2 pins s σ H _ I h) fun us s1 ⟨vs,H1,I1,r1,q1⟩=>?_) hs rfl));obtain⟨n,e,hn,q⟩:=q1;subst e
 cases r1 with
 |cons r rr=>
  cases rr
  obtain⟨t,rfl⟩:=r;refine call_range_1 ?_;refine Calls.spliced_nil ?_;have I2:∀(ob:Obj) (tk:Nat),Inv X pins σ H1 { s1 with heap:=s1.heap.push ob,toks:=tk }:=fun ob tk=>I1.kept (t':=tk) (fun b ob e=>Heap.get?_push_of_some _ e);have hn24:(n:Nat)<=2 ^ 24:=by lia
  refine call_list_range (n:=n) (I1.ok.hd hc) (IsRange.new ..) (small_one (by lia) (by lia) (by lia) (by lia)) (by rw[rangeSize_one];split<;>lia) hn24 (fun h' tk acc' c' kp e items=>?_);have rl:bL ((List.range n).map fun (i:Nat)=>V.int (i:Int)) acc'.toList:=vA (by rw[Array.length_toList];exact items.1) (fun j v hj=>by
   obtain⟨t,ht⟩:=items.2 j v (by rw[<- Array.getElem?_toList];exact hj);exact⟨t,by rw[ht];congr 1;lia⟩)
  have hz:((List.range n).map fun (i:Nat)=>V.int (i:Int)).length<=sizeLine:=by rw[length_map,length_range,sizeLine_eq];lia
  exact⟨.ref _,_,(I2 _ _).laid (t':=tk) kp (Nat.le_refl _) (show cD X.prog X.w _ h' _ (.lst ((List.range n).map fun (i:Nat)=>V.int (i:Int))) from ⟨hz,acc'.toList,c',rl,e⟩),rfl,q _ ((I2 _ _).hok.fresh (Nat.le_refl _))⟩
end
def jn (ms:List Int)(s g:Nat):List Int:=ms.map fun x=>if x=ms.getD g 0 then ms.getD s 0 else x
def zB (m:Nat):List Int:=(List.range m).map fun (i:Nat)=>(i:Int)
def hJ (ms:List Int)(d:RD):List Int:=if d.1=.pu then ms else jn ms d.2.1.toNat d.2.2.1.toNat
def mks (m:Nat)(ds:List RD):List Int:=ds.foldl hJ (zB m)
def mk (m:Nat)(ds:List RD)(p:Nat):Int:=(mks m ds).getD p 0
theorem lJ (m:Nat)(ds:List RD)(d:RD):mks m (ds++[d])=hJ (mks m ds) d:=by unfold mks;rw[foldl_append];rfl
theorem Iq (ms:List Int)(d:RD):(hJ ms d).length=ms.length:=by
 unfold hJ;split
 ·rfl
 ·unfold jn;rw[length_map]
theorem wT:∀(ds:List RD) (ms:List Int),(ds.foldl hJ ms).length=ms.length
 | [],_=>rfl
 |d :: ds,ms=>by show (ds.foldl hJ (hJ ms d)).length=_;rw[wT ds,Iq]
theorem jV (m:Nat)(ds:List RD):(mks m ds).length=m:=by unfold mks zB;rw[wT,length_map,length_range]
theorem Lx {ms:List Int}{f:Int->Int}{p:Nat}(h:p < ms.length):(ms.map f).getD p 0=f (ms.getD p 0):=by
 rw[getD_eq_getElem?_getD,getElem?_map,getD_eq_getElem?_getD,getElem?_eq_getElem h];rfl
theorem Nk {m p:Nat}(h:p < m):mk m [] p=(p:Int):=by
 show (zB m).getD p 0=_;unfold zB;rw[getD_eq_getElem?_getD,getElem?_map,getElem?_range h];rfl
theorem sK {m:Nat}{ds:List RD}{d:RD}(hk:d.1=.pu)(p:Nat):mk m (ds++[d]) p=mk m ds p:=by
 unfold mk;rw[lJ];unfold hJ;rw[if_pos hk]
theorem rW {m:Nat}{ds:List RD}{d:RD}(hk:d.1≠.pu){p:Nat}(hp:p < m):mk m (ds++[d]) p=if mk m ds p=mk m ds d.2.2.1.toNat then mk m ds d.2.1.toNat else mk m ds p:=by
 unfold mk;rw[lJ];unfold hJ;rw[if_neg hk];unfold jn;rw[Lx (by rw[jV];exact hp)]
inductive Cn (ds:List RD):Nat->Nat->Prop where
 |refl (p:Nat):Cn ds p p
 |row {d:RD} (h:d∈ds) (hk:d.1≠.pu):Cn ds d.2.1.toNat d.2.2.1.toNat
 |symm {p q:Nat} (h:Cn ds p q):Cn ds q p
 |trans {p q r:Nat} (h:Cn ds p q) (g:Cn ds q r):Cn ds p r
theorem Cn.mono {ds es:List RD}(h:∀d∈ds,d∈es){p q:Nat}(c:Cn ds p q):Cn es p q:=by
 induction c with
 |refl p=>exact .refl p
 |row hd hk=>exact .row (h _ hd) hk
 |symm _ ih=>exact .symm ih
 |trans _ _ a b=>exact .trans a b
theorem Ca {m:Nat}:∀(n:Nat) (ds:List RD),ds.length=n->(∀d∈ds,fR (m:Int) d.2.1 d.2.2.1)->∀p q,p < m->q < m->mk m ds p=mk m ds q->Cn ds p q
 |0,ds,hl,_,p,q,hp,hq,e=>by
  have:ds=[]:=length_eq_zero_iff.mp hl;subst this;rw[Nk hp,Nk hq] at e;have:p=q:=by lia
  subst this;exact .refl p
 |n+1,ds,hl,pt,p,q,hp,hq,e=>by
  obtain⟨es,d,rfl⟩:∃es d,ds=es++[d]:=⟨ds.dropLast,ds.getLast (by intro z;rw[z] at hl;cases hl),(dropLast_concat_getLast _).symm⟩
  have le:es.length=n:=by rw[List.length_append] at hl;simpa using hl
  have ih:=Ca n es le (fun x hx=>pt x (mem_append_left _ hx));have up:∀{a b:Nat},Cn es a b->Cn (es++[d]) a b:=fun c=>c.mono fun x hx=>mem_append_left _ hx
  by_cases hk:d.1=.pu
  ·rw[sK hk,sK hk] at e;exact up (ih p q hp hq e)
  ·obtain⟨i0,i1,j0,j1⟩:=pt d (by simp);have hs:d.2.1.toNat < m:=by lia
   have hg:d.2.2.1.toNat < m:=by lia
   have rw':Cn (es++[d]) d.2.1.toNat d.2.2.1.toNat:=.row (by simp) hk;rw[rW hk hp,rW hk hq] at e
   by_cases a:mk m es p=mk m es d.2.2.1.toNat
   ·have cp:=up (ih _ _ hp hg a);rw[if_pos a] at e
    by_cases b:mk m es q=mk m es d.2.2.1.toNat
    ·exact cp.trans (up (ih _ _ hq hg b)).symm
    ·rw[if_neg b] at e;exact cp.trans (rw'.symm.trans (up (ih _ _ hs hq e)))
   ·rw[if_neg a] at e
    by_cases b:mk m es q=mk m es d.2.2.1.toNat
    ·rw[if_pos b] at e;exact(up (ih _ _ hp hs e)).trans (rw'.trans (up (ih _ _ hq hg b)).symm)
    ·rw[if_neg b] at e;exact up (ih _ _ hp hq e)
theorem rQ {m:Nat}:∀(n:Nat) (ds:List RD),ds.length=n->(∀d∈ds,fR (m:Int) d.2.1 d.2.2.1)->∀d∈ds,d.1≠.pu->mk m ds d.2.1.toNat=mk m ds d.2.2.1.toNat
 |0,ds,hl,_,d,hd,_=>by
  have:ds=[]:=length_eq_zero_iff.mp hl;rw[this] at hd;cases hd
 |n+1,ds,hl,pt,x,hx,hkx=>by
  obtain⟨es,d,rfl⟩:∃es d,ds=es++[d]:=⟨ds.dropLast,ds.getLast (by intro z;rw[z] at hl;cases hl),(dropLast_concat_getLast _).symm⟩
  have le:es.length=n:=by rw[List.length_append] at hl;simpa using hl
  obtain⟨i0,i1,j0,j1⟩:=pt x hx;have hs:x.2.1.toNat < m:=by lia
  have hg:x.2.2.1.toNat < m:=by lia
  by_cases hk:d.1=.pu
  ·rw[sK hk,sK hk];rcases mem_append.mp hx with z | z
   ·exact rQ n es le (fun y hy=>pt y (mem_append_left _ hy)) x z hkx
   ·have:x=d:=by simpa using z
    rw[this] at hkx;exact absurd hk hkx
  ·rw[rW hk hs,rW hk hg];rcases mem_append.mp hx with z | z
   ·have ih:=rQ n es le (fun y hy=>pt y (mem_append_left _ hy)) x z hkx;rw[ih]
   ·have:x=d:=by simpa using z
    subst this;rw[if_pos rfl]
    by_cases c:mk m es x.2.1.toNat=mk m es x.2.2.1.toNat
    ·rw[if_pos c]
    ·rw[if_neg c]
theorem Cn.ind {ds:List RD}{R:Nat->Nat->Prop}(r:∀p,R p p)(s:∀p q,R p q->R q p)(t:∀p q x,R p q->R q x->R p x)(h:∀d∈ds,d.1≠.pu->R d.2.1.toNat d.2.2.1.toNat){p q:Nat}(c:Cn ds p q):R p q:=by
 induction c with
 |refl p=>exact r p
 |row hd hk=>exact h _ hd hk
 |symm _ ih=>exact s _ _ ih
 |trans _ _ a b=>exact t _ _ _ a b
theorem Mg {m:Nat}{ds:List RD}(pt:∀d∈ds,fR (m:Int) d.2.1 d.2.2.1){p q:Nat}(hp:p < m)(hq:q < m):mk m ds p=mk m ds q↔Cn ds p q:=
 ⟨Ca _ ds rfl pt p q hp hq,fun c=>Cn.ind (R:=fun a b=>mk m ds a=mk m ds b) (fun _=>rfl) (fun _ _ e=>e.symm) (fun _ _ _ a b=>a.trans b) (fun d hd hk=>rQ _ ds rfl pt d hd hk) c⟩
def pO (G:List (Int × List Int))(k p:Int):List (Int × List Int):=if G.any (fun e=>decide (e.1=k)) then G.map (fun e=>if e.1=k then (e.1,e.2++[p]) else e) else G++[(k,[p])]
def grp (F:Nat->Int):Nat->List (Int × List Int)
 |0=>[]
 |n+1=>pO (grp F n) (F n) (n:Int)
def mem (F:Nat->Int)(n:Nat)(k:Int):List Int:=((List.range n).filter fun q=>decide (F q=k)).map fun (q:Nat)=>(q:Int)
def jW (F:Nat->Int)(n:Nat):List Nat:=(List.range n).filter fun p=>(List.range p).all fun q=>decide (F q≠F p)
theorem tE (F:Nat->Int)(n:Nat)(k:Int):mem F (n+1) k=if F n=k then mem F n k++[(n:Int)] else mem F n k:=by
 unfold mem;rw[range_succ,filter_append,map_append]
 by_cases h:F n=k
 ·rw[if_pos h,filter_cons_of_pos (by exact decide_eq_true h)];rfl
 ·rw[if_neg h,filter_cons_of_neg (by simp[h])];simp
theorem rE (F:Nat->Int)(n:Nat):jW F (n+1)=if (List.range n).all (fun q=>decide (F q≠F n)) then jW F n++[n] else jW F n:=by
 unfold jW;rw[range_succ,filter_append]
 by_cases h:((List.range n).all fun q=>decide (F q≠F n))=true
 ·rw[if_pos h,filter_cons_of_pos (p:=fun p=>(List.range p).all fun q=>decide (F q≠F p)) (a:=n) h];rfl
 ·rw[if_neg h,filter_cons_of_neg (p:=fun p=>(List.range p).all fun q=>decide (F q≠F p)) (a:=n) h];simp
theorem pL (F:Nat->Int):∀(n q:Nat),q < n->∃p∈jW F n,F p=F q
 |n+1,q,h=>by
  rw[rE]
  by_cases c:q < n
  ·obtain⟨p,hp,e⟩:=pL F n q c;refine⟨p,?_,e⟩;split
   ·exact mem_append_left _ hp
   ·exact hp
  ·have:q=n:=by lia
   subst this
   by_cases a:((List.range q).all fun x=>decide (F x≠F q))=true
   ·rw[if_pos a];exact⟨q,by simp,rfl⟩
   ·rw[if_neg a];have:∃x,x < q/\F x=F q:=by
     refine Classical.byContradiction fun z=>a ?_;rw[all_eq_true];intro x hx;refine decide_eq_true fun y=>z ⟨x,mem_range.mp hx,y⟩
    obtain⟨x,hx,e⟩:=this;obtain⟨p,hp,e'⟩:=pL F q x hx;exact⟨p,hp,e'.trans e⟩
theorem xU (F:Nat->Int):∀n:Nat,grp F n=(jW F n).map fun p=>(F p,mem F n (F p))
 |0=>rfl
 |n+1=>by
  show pO (grp F n) (F n) (n:Int)=_;rw[xU F n,rE];unfold pO
  by_cases a:((List.range n).all fun q=>decide (F q≠F n))=true
  ·have no:∀q,q < n->F q≠F n:=fun q hq=>of_decide_eq_true (all_eq_true.mp a q (mem_range.mpr hq));have hany:(((jW F n).map fun p=>(F p,mem F n (F p))).any fun e=>decide (e.1=F n))=false:=by
    rw[any_eq_false];intro e he;obtain⟨p,hp,rfl⟩:=mem_map.mp he;have:=mem_range.mp (mem_filter.mp hp).1;simp;exact no p this
   rw[if_pos a,hany,if_neg (by decide),map_append];congr 1
   ·refine map_congr_left fun p hp=>?_;have:=mem_range.mp (mem_filter.mp hp).1;rw[tE,if_neg (fun z=>no p this z.symm)]
   ·show [(F n,[(n:Int)])]=[(F n,mem F (n+1) (F n))]
    rw[tE,if_pos rfl];have:mem F n (F n)=[]:=by
     unfold mem;rw[filter_eq_nil_iff.mpr (fun q hq=>by simp;exact no q (mem_range.mp hq))];rfl
    rw[this];rfl
  ·have hex:∃x,x < n/\F x=F n:=by
    refine Classical.byContradiction fun z=>a ?_;rw[all_eq_true];intro x hx;exact decide_eq_true fun y=>z ⟨x,mem_range.mp hx,y⟩
   obtain⟨x,hx,ex⟩:=hex;obtain⟨p,hp,ep⟩:=pL F n x hx;have hany:(((jW F n).map fun p=>(F p,mem F n (F p))).any fun e=>decide (e.1=F n))=true:=by
    rw[any_eq_true];exact⟨(F p,mem F n (F p)),mem_map.mpr ⟨p,hp,rfl⟩,decide_eq_true (ep.trans ex)⟩
   rw[if_neg a,hany,if_pos rfl,map_map];refine map_congr_left fun q hq=>?_;show (if F q=F n then (F q,mem F n (F q)++[(n:Int)]) else (F q,mem F n (F q)))=(F q,mem F (n+1) (F q))
   rw[tE]
   by_cases c:F q=F n
   ·rw[if_pos c,if_pos c.symm]
   ·rw[if_neg c,if_neg (fun z=>c z.symm)]
section
variable (u:Nat->Rat)
def fw (d:RD)(h:Nat):Rat:=match d.1 with
 | .pc=>(u d.2.1.toNat - u d.2.2.1.toNat)*(1 / Mq.val d.2.2.2)
 | .pu=>0
 | .ho=>u h
def nt:Nat->List RD->Nat->Rat
 |_,[],_=>0
 |h,d :: ds,p=>fw u d h*dl d.2.1.toNat d.2.2.1.toNat p+nt (h+iQ d.1) ds p
def eg:Nat->List RD->Rat
 |_,[]=>0
 |h,d :: ds=>fw u d h*(u d.2.1.toNat - u d.2.2.1.toNat)+eg (h+iQ d.1) ds
end
section
variable {u:Nat->Rat} {m N:Nat}
theorem Vb (F:Nat->Rat){n s g:Nat}(hs:s < n)(hg:g < n):Mq.rs n (fun p=>F p*dl s g p)=F s - F g:=by
 have e:∀p,F p*dl s g p=(if s=p then F p else 0) + - (if g=p then F p else 0):=fun p=>by
  unfold dl
  by_cases a:s=p<;>by_cases b:g=p<;>simp only[a,b,if_true,if_false]<;>grind
 rw[aT fun p _=>e p,eY,Mq.qQ,Mp,Mp,if_pos hs,if_pos hg];grind
theorem Uv:∀(ds:List RD) (h:Nat),(∀d∈ds,fR (m:Int) d.2.1 d.2.2.1)->Mq.rs m (fun p=>u p*nt u h ds p)=eg u h ds
 | [],h,_=>by
  have:∀p,u p*nt u h [] p=0:=fun p=>by show u p*(0:Rat)=0;grind
  rw[aT fun p _=>this p,eG];rfl
 |d :: ds,h,pt=>by
  have ih:=Uv ds (h+iQ d.1) (fun e he=>pt e (mem_cons_of_mem _ he));obtain⟨a,b,c,e⟩:=pt d (by simp);have base:=Vb u (n:=m) (s:=d.2.1.toNat) (g:=d.2.2.1.toNat) (by lia) (by lia);have:∀p,u p*nt u h (d :: ds) p=fw u d h*(u p*dl d.2.1.toNat d.2.2.1.toNat p)+u p*nt u (h+iQ d.1) ds p:=fun p=>by
   show u p*(fw u d h*dl d.2.1.toNat d.2.2.1.toNat p+nt u (h+iQ d.1) ds p)=_;grind
  rw[aT fun p _=>this p,eY,fV,base,ih];rfl
theorem qc5 (x:Rat):0<=x*x:=by
 rcases Rat.le_total (a:=0) (b:=x) with h | h
 ·exact Rat.mul_nonneg h h
 ·have:0<=(-x)*(-x):=Rat.mul_nonneg (by grind) (by grind);grind
theorem Qg {a:Rat}(h:0 < a):0 < 1 / a:=by
 rw[Rat.div_def,Rat.one_mul];exact Rat.inv_pos.mpr h
theorem Uy:∀(ds:List RD) (h:Nat),(∀d∈ds,d.1=.pc->0 < Mq.val d.2.2.2)->(∀d∈ds,d.1=.ho->u d.2.1.toNat=u d.2.2.1.toNat)->0<=eg u h ds/\(eg u h ds=0->∀d∈ds,d.1=.pc->u d.2.1.toNat=u d.2.2.1.toNat)
 | [],_,_,_=>⟨Rat.le_refl,fun _ d hd=>by cases hd⟩
 |e :: ds,h,pos,ho=>by
  obtain⟨i1,i2⟩:=Uy ds (h+iQ e.1) (fun d hd=>pos d (mem_cons_of_mem _ hd)) (fun d hd=>ho d (mem_cons_of_mem _ hd));have eq:eg u h (e :: ds)=fw u e h*(u e.2.1.toNat - u e.2.2.1.toNat)+eg u (h+iQ e.1) ds:=rfl;rw[eq];generalize eg u (h+iQ e.1) ds=r at i1 i2;have t:0<=fw u e h*(u e.2.1.toNat - u e.2.2.1.toNat)/\(e.1=.pc->fw u e h*(u e.2.1.toNat - u e.2.2.1.toNat)=0->u e.2.1.toNat=u e.2.2.1.toNat):=by
   unfold fw
   cases hk:e.1 with
   |pu=>exact⟨by grind,fun z=>by cases z⟩
   |ho=>exact⟨by rw[ho e (by simp) hk];grind,fun z=>by cases z⟩
   |pc=>
    dsimp only;have p:=Qg (pos e (by simp) hk);generalize 1 / Mq.val e.2.2.2=q at p;generalize u e.2.1.toNat=a;generalize u e.2.2.1.toNat=b;have e2:(a - b)*q*(a - b)=q*((a - b)*(a - b)):=by grind
    rw[e2];refine⟨Rat.mul_nonneg (Rat.le_of_lt p) (qc5 _),fun _ z=>?_⟩;have q0:q≠0:=fun z=>by rw[z] at p;exact absurd p (by decide)
    have:(a - b)*(a - b)=0:=by grind
    have:a - b=0:=by grind
    grind
  obtain⟨t1,t2⟩:=t;generalize fw u e h*(u e.2.1.toNat - u e.2.2.1.toNat)=x at t1 t2;refine⟨by grind,fun z d hd hk=>?_⟩;have x0:x=0:=by grind
  have r0:r=0:=by grind
  rcases mem_cons.mp hd with rfl | hd
  ·exact t2 hk x0
  ·exact i2 r0 d hd hk
end
inductive Gd (H0 H:Hp):List (Key × V)->List (Int × List Int)->List Addr->Prop where
 |nil:Gd H0 H [] [] []
 |cons {a:Addr} {k:Int} {ps:List Int} {kvs:List (Key × V)} {G:List (Int × List Int)} {as:List Addr} (n:H0 a=none) (h:H a=some (.lst (ps.map V.int))) (r:Gd H0 H kvs G as):Gd H0 H ((Sum.inl k,.ref a) :: kvs) ((k,ps) :: G) (a :: as)
section
variable {H0 H H':Hp} {kvs:List (Key × V)} {G:List (Int × List Int)} {as:List Addr}
theorem Gd.out (g:Gd H0 H kvs G as)(e:∀a∈as,H' a=H a):Gd H0 H' kvs G as:=by
 induction g with
 |nil=>exact .nil
 |cons n h r ih=>exact .cons n ((e _ (mem_cons_self ..)).trans h) (ih fun a ha=>e a (mem_cons_of_mem _ ha))
theorem Gd.new (g:Gd H0 H kvs G as):∀a∈as,H0 a=none/\∃xs,H a=some (.lst xs):=by
 induction g with
 |nil=>intro a h;cases h
 |cons n h r ih=>
  intro a ha;rcases mem_cons.mp ha with rfl | z
  ·exact⟨n,_,h⟩
  ·exact ih a z
theorem Gd.lens (g:Gd H0 H kvs G as):kvs.length=G.length:=by
 induction g with
 |nil=>rfl
 |cons n h r ih=>rw[length_cons,length_cons,ih]
theorem Gd.app {a:Addr}{k:Int}{ps:List Int}(g:Gd H0 H kvs G as)(n:H0 a=none)(h:H a=some (.lst (ps.map V.int))):Gd H0 H (kvs++[(Sum.inl k,.ref a)]) (G++[(k,ps)]) (as++[a]):=by
 induction g with
 |nil=>exact .cons n h .nil
 |cons n' h' r ih=>exact .cons n' h' ih
theorem Gd.keys (g:Gd H0 H kvs G as)(k:Int):(kvs.any fun kv=>decide (kv.1=Sum.inl k))=G.any fun e=>decide (e.1=k):=by
 induction g with
 |nil=>rfl
 |cons n h r ih=>
  rw[any_cons,any_cons,ih];congr 1;exact decide_eq_decide.mpr ⟨fun z=>Sum.inl.inj z,fun z=>congrArg Sum.inl z⟩
theorem Gk {k p:Int}:∀{G:List (Int × List Int)},k∉G.map (·.1)->G.map (fun e=>if e.1=k then (e.1,e.2++[p]) else e)=G
 | [],_=>rfl
 |e :: G,h=>by
  rw[map_cons,mem_cons,not_or] at h;rw[map_cons,if_neg (fun z=>h.1 z.symm),Gk h.2]
theorem Gd.find {k:Int}(g:Gd H0 H kvs G as):as.Nodup->(G.map (·.1)).Nodup->∀{v:V},jY kvs (Sum.inl k)=some v->∃(a:Addr) (ps:List Int),v=.ref a/\a∈as/\H0 a=none/\H a=some (.lst (ps.map V.int))/\(G.any fun e=>decide (e.1=k))=true/\(∃e∈G,e.2=ps)/\
  ∀p:Int,Gd H0 (upd H a (.lst (ps.map V.int++[V.int p]))) kvs (G.map (fun e=>if e.1=k then (e.1,e.2++[p]) else e)) as:=by
 induction g with
 |nil=>intro _ _ v h;cases h
 | @cons a' k' ps' kvs' G' as' n h r ih=>
  intro nd nk v hv;obtain⟨na,nd'⟩:=nodup_cons.mp nd;rw[map_cons] at nk;obtain⟨nk1,nk'⟩:=nodup_cons.mp nk
  by_cases c:k'=k
  ·subst c;rw[uP rfl] at hv
   cases hv
   refine⟨a',ps',rfl,mem_cons_self ..,n,h,?_,⟨_,mem_cons_self ..,rfl⟩,fun p=>?_⟩
   ·rw[any_cons];simp
   ·rw[map_cons,if_pos rfl,Gk nk1];refine .cons n ?_ (r.out fun b hb=>aM fun z=>na (z ▸ hb));rw[aB,map_append];rfl
  ·rw[sS (fun z=>c (Sum.inl.inj z))] at hv;obtain⟨a,ps,ev,ma,na0,ea,hany,⟨e,he,hp⟩,q⟩:=ih nd' nk' hv;refine⟨a,ps,ev,mem_cons_of_mem _ ma,na0,ea,?_,⟨e,mem_cons_of_mem _ he,hp⟩,fun p=>?_⟩
   ·rw[any_cons,hany,Bool.or_true]
   ·rw[map_cons,if_neg c];have ne:a'≠a:=fun z=>na (z ▸ ma);exact .cons n (by rw[aM ne];exact h) (q p)
theorem Im {κ:Type}[DecidableEq κ]{kvs:List (κ × V)}{k:κ}(h:jY kvs k=none):(kvs.any fun kv=>decide (kv.1=k))=false:=by
 unfold jY at h;rw[Option.map_eq_none_iff,find?_eq_none] at h;rw[any_eq_false];intro x hx;exact h x hx
end
theorem Jz {G:List (Int × List Int)}{k p:Int}(h:(G.map (·.1)).Nodup):((pO G k p).map (·.1)).Nodup:=by
 unfold pO
 by_cases c:(G.any fun e=>decide (e.1=k))=true
 ·rw[if_pos c,map_map];have e:G.map ((·.1) ∘ fun e:Int × List Int=>if e.1=k then (e.1,e.2++[p]) else e)=G.map (·.1):=map_congr_left fun x _=>by
   show (if x.1=k then (x.1,x.2++[p]) else x).1=x.1;split<;>rfl
  rw[e];exact h
 ·rw[if_neg c,map_append];refine nodup_append.mpr ⟨h,by simp,?_⟩;intro x hx y hy z;rw[map_cons,map_nil,mem_singleton] at hy;obtain⟨e,he,rfl⟩:=mem_map.mp hx;exact c (any_eq_true.mpr ⟨e,he,decide_eq_true (z.trans hy)⟩)
theorem tX (F:Nat->Int):∀n,((grp F n).map (·.1)).Nodup
 |0=>nodup_nil
 |n+1=>Jz (tX F n)
theorem Kz (G:List (Int × List Int))(k p:Int):(pO G k p).length<=G.length+1:=by
 unfold pO;split
 ·rw[length_map];lia
 ·rw[List.length_append];exact Nat.le_refl _
theorem Fp (F:Nat->Int):∀n,(grp F n).length<=n
 |0=>Nat.le_refl _
 |n+1=>by
  have h1:=Kz (grp F n) (F n) (n:Int);have h2:=Fp F n;show (pO (grp F n) (F n) (n:Int)).length<=n+1;lia
theorem Di {G:List (Int × List Int)}{k p:Int}{n:Nat}(h:∀e∈G,e.2.length<=n):∀e∈pO G k p,e.2.length<=n+1:=by
 intro e he;unfold pO at he;split at he
 ·obtain⟨x,hx,rfl⟩:=mem_map.mp he;have:=h x hx;split
  ·rw[List.length_append];simp only[length_cons,length_nil];lia
  ·lia
 ·rcases mem_append.mp he with z | z
  ·have:=h e z;lia
  ·rw[mem_singleton] at z;rw[z];simp
theorem wU (F:Nat->Int):∀n,∀e∈grp F n,e.2.length<=n
 |0=>fun e h=>by cases h
 |n+1=>Di (wU F n)
structure Ils (H0 H:Hp) (us:List V) (X:List (List Int)):Prop where
 l:us.length=X.length
 r:∀(i:Nat) (x:V) (ps:List Int),us[i]?=some x->X[i]?=some ps->∃a:Addr,x=.ref a/\H0 a=none/\H a=some (.lst (ps.map V.int))
theorem Ils.from0 {H0 H0' H:Hp}{us:List V}{X:List (List Int)}(f:Ils H0 H us X)(h:∀a,H0 a=none->H0' a=none):Ils H0' H us X:=⟨f.l,fun i x ps h1 h2=>let ⟨a,e,n,r⟩:=f.r i x ps h1 h2;⟨a,e,h a n,r⟩⟩
theorem Gd.ils {H0 H:Hp}{kvs:List (Key × V)}{G:List (Int × List Int)}{as:List Addr}(g:Gd H0 H kvs G as):Ils H0 H (kvs.map (·.2)) (G.map (·.2)):=by
 refine⟨by rw[length_map,length_map,g.lens],?_⟩
 induction g with
 |nil=>intro i x ps h;cases h
 |cons n h r ih=>
  intro i x ps h1 h2
  cases i with
  |zero=>cases h1;cases h2;exact⟨_,rfl,n,h⟩
  |succ j=>exact ih j x ps h1 h2
theorem Gd.vals {H0 H:Hp}{kvs:List (Key × V)}{G:List (Int × List Int)}{as:List Addr}(g:Gd H0 H kvs G as):∀x∈kvs.map (·.2),∃a∈as,x=.ref a:=by
 induction g with
 |nil=>intro x h;cases h
 |cons n h r ih=>
  intro x hx;rw[map_cons,mem_cons] at hx;rcases hx with rfl | z
  ·exact⟨_,mem_cons_self ..,rfl⟩
  ·obtain⟨a,ha,e⟩:=ih x z;exact⟨a,mem_cons_of_mem _ ha,e⟩
abbrev Stp:=Nat × Int
abbrev Br:=Nat × Nat × Nat
abbrev WS:=List (Nat × List Stp)
abbrev Sk:=Kd × Nat × Nat
abbrev RS:=List Br × List (Nat × List Stp)
end L2
namespace Shp
open PySem L2
theorem Hk {m w:Nat}{R0:List (List Int)}(hl:R0.length=m)(hw:∀i,i < m->(R0.getD i []).length=w)(hmw:m<=w){Pr:List (List Int)->Prop}(h0:Pr R0)(st:Stp m w (Mq.at2 R0) Pr):∀col,col<=m->∃R r d sg,SI m w (Mq.at2 R0) R r col d sg/\Pr R
 |0,_=>⟨R0,0,1,1,.start hl hw,h0⟩
 |col+1,hc=>by
  obtain⟨R,r,d,sg,S,p⟩:=Hk hl hw hmw h0 st col (by lia)
  by_cases hz:∀i,r<=i->i < m->ent R i col=0
  ·exact⟨R,r,d,sg,S.skip hz,p⟩
  ·obtain⟨i,hi⟩:=Classical.not_forall.mp hz;obtain⟨h1,hi⟩:=Classical.not_imp.mp hi;obtain⟨h2,ne⟩:=Classical.not_imp.mp hi
   by_cases e:i=r
   ·subst e;exact⟨_,_,_,_,S.clear h2 (by lia) ne,st.cl R i col d sg S h2 (by lia) ne p⟩
   ·have hlt:r < i:=by lia
    have S2:=S.swap hlt h2;have p2:=st.sw R r col d sg i S hlt h2 p;have ne2:ent (dZ R i r) r col≠0:=by
     have:=yQ (R:=R) (p:=i) (r:=r) (by rw[S.len];lia) (by rw[S.len];lia) r;unfold ent at ne ⊢;rw[this,show Mq.sw i r r=i by unfold Mq.sw;simp];exact ne
    exact⟨_,_,_,_,S2.clear (by lia) (by lia) ne2,st.cl _ r col d (-sg) S2 (by lia) (by lia) ne2 p2⟩
theorem Rp {X:List (List Mq.Q2)}(xP:dS X)(hw:∀row∈X,row.length=X.length)(m1:1<=X.length)(hz:wgt X=0):∃v:Nat->Rat,(∃j,j < X.length/\v j≠0)/\∀x,x < X.length->(Mq.rs X.length fun j=>v j*kK X j x)=0:=by
 obtain⟨R,r,d,sg,S,L⟩:=Hk (m:=X.length) (w:=X.length+X.length) (R0:=jL X) (Kl X) (fun i hi=>by rw[tK hi,An,hw _ (mem_of_getElem? (vF hi))]) (by lia) (Tq xP hw) Xz X.length (Nat.le_refl _);have wr:=Pj xP (Rc fun i j hi hj=>wP xP hw hi hj) S;have hr:r < X.length:=by
  rcases wr with z | z
  ·exact z.1
  ·exact absurd hz z.2
 obtain⟨⟨k0,hk0,nk0⟩,hsum⟩:=L.lame S hr;refine⟨fun k=>Mq.at2 R (X.length - 1) (X.length+k),⟨k0,hk0,fun z=>?_⟩,hsum⟩;exact nk0 (Rat.intCast_inj.mp (by unfold Mq.at2 at z;simpa using z))
def xX (K:Frag):Sp:=fun vs H Q _=>∃(l D:Addr) (zs:List V) (R:List (List Int)) (m c w n:Nat) (Pr:List (List Int)->Prop),vs=[.ref l,.int (c:Int)]/\SqL K H l zs/\Imx D H zs R/\R.length=m/\(∀i,i < m->(R.getD i []).length=w)/\m<=w/\w<=100/\BdR n R/\1<=n/\bw n m<=9000/\m<=31/\Pr R/\Stp m w (Mq.at2 R) Pr/\c<=m/\
 ∀d l' zs' R' rank pivot sign H',aK H H'->H d=none->H l'=none->H' d=some (Hr l' rank pivot sign)->H' l'=some (.lst zs')->Imx l' H' zs' R'->SI m w (Mq.at2 R) R' rank c pivot sign->BdR (bw n m) R'->Mq.B (bw n m) pivot->Pr R'->Q (.ref d) H'
theorem No {P:Program}{w:World}{K:Frag}{mg:Str->Option Value}{base:Heap}{CX:CXT}{g:Addr}{gd:FuncData}{k:Nat}{ps:List Str}(F:aJ P w K mg base CX k g gd ps (xX K)):aJ P w K mg base CX k g gd ps (Hs K):=
 F.weak fun vs H Q E h=>by
  obtain⟨l,D0,zs,R,m,w',n,Pr,e,hS,hI,hm,hw,hmw,hw100,hB,hn1,hn,hm31,hPr,hSt,q⟩:=h;exact⟨l,D0,zs,R,m,m,w',n,Pr,e,hS,hI,hm,hw,hmw,hw100,hB,hn1,hn,hm31,hPr,hSt,Nat.le_refl _,q⟩
end Shp
namespace L2
open PySem PySem.Spec PyProof.Rows
def Kk (K:Frag):V->List V->Hp->VK->Prop:=fun x vs H Q=>∃(p:Addr) (ns:List Int) (k:Int),x=.ref p/\vs=[.int k]/\SqL K H p (ns.map V.int)/\k∈ns/\(PyData.list (ns.map PyData.int)).layable0=true/\Q (.int (ns.idxOf k:Nat)) H
theorem zZ:∀{ns:List Int} {us:List Value},bL (ns.map V.int) us->IntsAre us ns
 | [],_,.nil=>.nil
 |n :: ns,_,.cons ⟨t,e⟩ q=>by subst e;exact .cons _ _ (zZ q)
theorem Ou {X:Cx}:MtR X "list.index" (Kk X.K):=by
 intro pins s σ H x xs v us Q I rx rv h;obtain⟨p,ns,k,rfl,rfl,hq,hk,hl,q⟩:=h
 cases rx
 obtain⟨u,rfl,t,rfl⟩:=mL rv;obtain⟨its,r,pl,hz⟩:=I.list hq;refine index_list_ints pl.isList (zZ r) hl hk ⟨.int _,H,I.tok _,⟨_,rfl⟩,q⟩
theorem Jk {X:Cx}{K:Frag}(h:X.K=K):MtR X "list.index" (Kk K):=by subst h;exact Ou
theorem rC:∀{ns:List Int},(∀n∈ns,n.natAbs < 32)->PyData.weightAll (ns.map PyData.int)<=6*ns.length
 | [],_=>by rw[map_nil,PyData.weightAll.eq_1];exact Nat.zero_le _
 |n :: ns,h=>by
  have ih:=rC fun x hx=>h x (mem_cons_of_mem _ hx);have hn:=h n (by simp);rw[map_cons,PyData.weightAll.eq_2,PyData.weight.eq_5,length_cons];have:(if (n == 0)=true then 0 else n.natAbs.log2+1)<=5:=by
   split
   ·lia
   ·rename_i c
    have n0:n.natAbs≠0:=fun z=>c (by have:n=0:=(by lia);rw[this];rfl);have:=(Nat.log2_lt n0 (k:=5)).mpr (by lia);lia
  lia
theorem xZ {ns:List Int}(h:∀n∈ns,n.natAbs < 32)(hl:ns.length<=100):(PyData.list (ns.map PyData.int)).layable0=true:=by
 have w:=rC h;have d:=nI ns;have l:=pK ns;unfold PyData.layable0;rw[show (PyData.list (ns.map PyData.int)).canLay0=true from l,PyData.weight.eq_2];have d2:(PyData.list (ns.map PyData.int)).depth<=64:=by simp only[PyData.depth];lia
 have w2:PyData.weightAll (ns.map PyData.int)<=2 ^ 20:=by
  have:(2:Nat) ^ 20=1048576:=by decide
  lia
 rw[decide_eq_true d2,decide_eq_true w2];rfl
section
variable {X:Cx}
def qf7 (K:Frag):List V->Hp->VK->Prop:=fun xs H Q=>∃(p:Addr) (bs:List Bool),xs=[.ref p]/\SqL K H p (bs.map V.bl)/\Q (.bl (bs.any id)) H
theorem Oc (hc:X.calm=true):fK X (.builtin "any") (qf7 X.K):=by
 intro pins s σ H xs us Q I r h;obtain⟨p,bs,rfl,hq,q⟩:=h;obtain⟨u,rfl,rx⟩:=mL r
 cases rx
 obtain⟨its,rv,pl,hz⟩:=I.list hq;have hlen:its.toArray.size=bs.length:=by rw[size_toArray,<- rv.length,length_map]
 have hne:p≠s.heap.objs.size:=by
  obtain⟨o,e,_⟩:=pl.isList;exact Nat.ne_of_lt (Heap.lt_size e)
 refine call_any_walk (wpAny_pyIter_list pl.isList ?_);refine⟨s.heap.objs.size,_,_,_,_,_,fun i=>bs.getD i false,rfl,Walks.list (by exact I.ok.hd hc) s.heap.objs.size p hne its.toArray,⟨⟨_,Heap.get?_push_size _ rfl,rfl,rfl⟩,?_⟩,?_,?_⟩
 ·obtain⟨o,e,c⟩:=pl.isList;exact⟨o,Heap.get?_push_of_some _ e,c⟩
 ·intro i v s' Q' E' hv q';have hv':its[i]?=some v:=by simpa using hv
  have hi:i < its.length:=(List.getElem?_eq_some_iff.mp hv').1;have hb:(bs.map V.bl)[i]?=some (.bl (bs.getD i false)):=by
   rw[getElem?_map,getElem?_eq_getElem (by rw[<- hlen];simpa using hi)];simp[getD,getElem?_eq_getElem (show i < bs.length by rw[<- hlen];simpa using hi)]
  obtain⟨u,hu,ru⟩:=rv.get hb;have e:u=v:=by rw[hv'] at hu;cases hu;rfl
  subst e
  cases ru
  exact wpAny_truthy_bool q'
 ·intro h' tk kk;have e:(List.range its.toArray.size).any (fun i=>bs.getD i false)=bs.any id:=by
   rw[hlen,Bool.eq_iff_iff,any_eq_true,any_eq_true];constructor
   ·rintro ⟨i,hi,z⟩;have hi':=mem_range.mp hi;exact⟨bs[i],getElem_mem hi',by simpa[getD,getElem?_eq_getElem hi'] using z⟩
   ·rintro ⟨x,hb,z⟩;obtain⟨i,hi,rfl⟩:=getElem_of_mem hb;exact⟨i,mem_range.mpr hi,by simpa[getD,getElem?_eq_getElem hi] using z⟩
  rw[e];refine⟨.bl _,H,I.kept (t':=tk) fun b o hb=>?_,rfl,q⟩;have hb2:b≠s.heap.objs.size:=Nat.ne_of_lt (Heap.lt_size hb);exact kk b o (by simpa using hb2) (Heap.get?_push_of_some _ hb)
theorem Fs:∀{ns:List Int} {its:List Value},bL (ns.map V.int) its->IntsAre its ns
 | [],_,.nil=>.nil
 |n :: ns,_,.cons h r=>by
  obtain⟨t,rfl⟩:=h;exact .cons n t (Fs r)
theorem Si {ns:List Int}{its:List Value}(h:IntsAre its ns):bL (ns.map V.int) its:=by
 induction h with
 |nil=>exact .nil
 |cons n t _ ih=>exact .cons ⟨t,rfl⟩ ih
def Sw (K:Frag):List V->Hp->VK->Prop:=fun xs H Q=>∃(p:Addr) (ns:List Int),xs=[.ref p]/\SqL K H p (ns.map V.int)/\ns.length < 64/\∀(l:Addr) (ns':List Int),H l=none->ns'.Perm ns->ns'.Pairwise (·<=·)->Q (.ref l) (upd H l (.lst (ns'.map V.int)))
theorem Ak:fK X (.builtin "sorted") (Sw X.K):=by
 intro pins s σ H xs us Q I r h;obtain⟨p,ns,rfl,hq,h64,q⟩:=h;obtain⟨u,rfl,rx⟩:=mL r
 cases rx
 obtain⟨its,rv,pl,hz⟩:=I.list hq;have hlen:its.length=ns.length:=by rw[<- rv.length,length_map]
 refine sorted_ints pl.isList (Fs rv) (by lia) fun out ns' a1 a2 a3=>?_;obtain⟨e,he⟩:=sortedAll_at s.heap its out;have lo:=a2.length_eq;have rl:=Si a1;have zl:(ns'.map V.int).length<=sizeLine:=by rw[length_map,lo,sizeLine_eq];lia
 refine⟨.ref (s.heap.objs.size+1),_,I.laid (a:=s.heap.objs.size+1) (o:=.lst (ns'.map V.int)) (t':=s.toks) (fun _ _=>sortedAll_old) (Nat.le_succ _) ⟨zl,out.toList,e,rl,?_⟩,rfl,q _ ns' (I.hok.fresh (Nat.le_succ _)) a2 a3⟩;rw[Array.toArray_toList];exact he
end
section
variable {P:Program} {w:World} {A:Around} {E:Value->Shared->Prop} {s:Shared} {b:Bool}
section
variable {R:Result->Shared->Prop} {I:Addr} {fp wr:List Addr} {G:Array GenState->Array GenState->Prop} {n:Nat} {Pv:Nat->Value->Prop} {St:Nat->Shared->Prop}
theorem uY {K:Type}[DecidableEq K]{knd:PySem.KeyKind P w K}{h:Heap}{a:Addr}{S S':K->Bool}{n n':Nat}(q:h.SetOf knd a S n)(e:S=S')(en:n=n'):h.SetOf knd a S' n':=by subst e en;exact q
end
end
abbrev emp (g:Bool):Obj:={ cls:=.type "set",dict:=none,data:=.set #[] 0 (.fresh 0 0 g) }
theorem Om:bootBuiltins "set"=some (.type "set"):=by decide +kernel
variable {X:Cx}
theorem qf2 {ns:List Int}{its:List Value}(rv:bL (ns.map V.int) its){i:Nat}{p:Int}(h:ns[i]?=some p):∃t,its[i]?=some (.int p t):=by
 obtain⟨u,hu,ru⟩:=rv.get (show (ns.map V.int)[i]?=some (.int p) by rw[getElem?_map,h];rfl);obtain⟨t,rfl⟩:=(show ∃t,u=Value.int p t from ru)
 exact⟨t,hu⟩
def qe8 (acc:List Int)(x:Int):List Int:=if x∈acc then acc else acc++[x]
def ddl (ns:List Int):List Int:=ns.foldl qe8 []
theorem oK (ns:List Int)(x:Int):ddl (ns++[x])=if x∈ddl ns then ddl ns else ddl ns++[x]:=by
 unfold ddl;rw[foldl_append];rfl
theorem tI {P:List Int->Prop}(h0:P [])(h1:∀l x,P l->P (l++[x]))(l:List Int):P l:=by
 have:∀n (l:List Int),l.length=n->P l:=by
  intro n
  induction n with
  |zero=>intro l h;rw[length_eq_zero_iff.mp h];exact h0
  |succ n ih=>
   intro l h;have hn:l≠[]:=by intro z;rw[z] at h;cases h
   rw[<- dropLast_concat_getLast hn];exact h1 _ _ (ih _ (by rw[length_dropLast,h];rfl))
 exact this _ l rfl
theorem rZ (ns:List Int):∀x,x∈ddl ns↔x∈ns:=by
 refine tI (P:=fun ns=>∀x,x∈ddl ns↔x∈ns) (fun x=>Iff.rfl) (fun l y ih x=>?_) ns;rw[oK,mem_append];split
 ·rename_i h
  rw[ih];refine⟨.inl,fun z=>z.elim id fun z=>?_⟩;have:x=y:=by simpa using z
  rw[this];exact(ih y).mp h
 ·rw[mem_append,ih]
theorem uF (ns:List Int):(ddl ns).length<=ns.length:=by
 refine tI (P:=fun ns=>(ddl ns).length<=ns.length) (Nat.le_refl _) (fun l y ih=>?_) ns;rw[oK,List.length_append];split
 ·lia
 ·rw[List.length_append];lia
section
variable {P:Program} {w:World} {A:Around} {E:Value->Shared->Prop} {s:Shared}
section
variable {R:Result->Shared->Prop} {I:Addr} {fp wr:List Addr} {G:Array GenState->Array GenState->Prop} {n:Nat} {Pv:Nat->Value->Prop} {St:Nat->Shared->Prop}
theorem Ti (W:WalksS P w A.in1 I fp wr G n Pv St)(T:Addr)(hT:T∉fp){ns:List Int}(hn:n=ns.length)(hn9:ns.length<=1000)(hv:∀i v,Pv i v->∃z t,ns[i]?=some z/\v=.int z t):∀(k i:Nat) (s:Shared),n - i=k->i<=n->St i s->s.heap.SetOf (intKind P w) T (fun z=>decide (z∈ns.take i)) (ddl (ns.take i)).length->
   (∀s',Moved (T :: wr) G s s'->s'.heap.SetOf (intKind P w) T (fun z=>decide (z∈ns.take n)) (ddl (ns.take n)).length->R (.ok (.ret .none)) s')->codeAny (model P w) A (.builtin "set.update.loop" ⟨[.ref T,.ref I],[]⟩) R s:=by
 have hTw:T∉wr:=fun h=>hT (W.sub _ h);have up:∀x∈wr,x∈T :: wr:=fun x hx=>mem_cons_of_mem _ hx;intro k
 induction k with
 |zero=>
  intro i s hk hi st hS hR;obtain rfl:i=n:=by lia
  refine codeAny_builtin PyProof.Rows.F.entry_set_update_loop ?_;rw[Around.under_plainId PyProof.Rows.F.plain_set_update_loop _];refine wpAny_bind (m:=pyNext (.ref I)) (W.done s _ _ st fun s' mv=>?_);refine wpAny_pure (hR s' (mv.mono up) ?_);obtain⟨o,es,ep,t,ho,q⟩:=hS;exact⟨o,es,ep,t,mv.heap T _ hTw ho,q⟩
 |succ k ih=>
  intro i s hk hi st hS hR;have lt:i < n:=by lia
  refine codeAny_builtin PyProof.Rows.F.entry_set_update_loop ?_;rw[Around.under_plainId PyProof.Rows.F.plain_set_update_loop _];refine wpAny_bind (m:=pyNext (.ref I)) (W.item i s _ _ lt st fun v s' hp st' mv=>?_);obtain⟨z,tz,hz,rfl⟩:=hv i v hp;have hS1:s'.heap.SetOf (intKind P w) T (fun z=>decide (z∈ns.take i)) (ddl (ns.take i)).length:=by
   obtain⟨o,es,ep,t,ho,q⟩:=hS;exact⟨o,es,ep,t,mv.heap T _ hTw ho,q⟩
  refine wpAny_bind (m:=holding [Value.int z tz] (setAdd T (.int z tz))) (wpAny_holding ?_);unfold setAdd;refine wpAny_holding (wpAny_bind ((intKind P w).pyHash (k:=z) (intKind_is _ _ _ _) ?_));refine wpAny_setAddHashed_of (knd:=intKind P w) (k:=z) (s:={ s' with toks:=s'.toks+1 }) (intKind_is _ _ _ _) rfl hS1 (by have:=uF (ns.take i);rw[length_take] at this;unfold scanBound;lia) fun h' sb hS2=>?_;have et:ns.take (i+1)=ns.take i++[z]:=by rw[take_add_one,hz];rfl
  have hS3:h'.SetOf (intKind P w) T (fun z=>decide (z∈ns.take (i+1))) (ddl (ns.take (i+1))).length:=by
   refine uY hS2 (by funext u;rw[et];simp) ?_;rw[et,oK]
   by_cases h0:z∈ns.take i
   ·rw[if_pos (by simpa using h0),if_pos ((rZ _ z).mpr h0)]
   ·rw[if_neg (by simpa using h0),if_neg (fun y=>h0 ((rZ _ z).mp y)),List.length_append];rfl
  refine wpAny_pure ⟨plainId_quiet PyProof.Rows.F.plain_set_update_loop _,ih (i+1) _ (by lia) lt (W.frame _ s' _ _ st' (Nat.le_succ _) fun x hx o e=>?_) hS3 fun s2 mv2 q=>?_⟩
  ·rw[sb.2 x (fun z=>hT (by rw[<- z];exact hx))];exact e
  ·refine hR s2 (Moved.trans W.gtrans ((mv.mono up).then_heap (Nat.le_succ _) fun x o hx e=>?_) mv2) q;rw[sb.2 x (fun z=>hx (by rw[z];exact mem_cons_self))];exact e
end
def Ze (P:Program)(w:World)(ns:List Int)(s:Shared)(h':Heap):Prop:=
 h'.SetOf (intKind P w) s.heap.objs.size (fun z=>decide (z∈ns)) (ddl ns).length/\∀x o,x < s.heap.objs.size->s.heap.get? x=some o->h'.get? x=some o
theorem Kc {l:Addr}{ns:List Int}{its:Array Value}{Q:Value->Shared->Prop}(hh:A.handled=none)(hl:s.heap.IsList l its)(hn9:ns.length<=1000)(hsz:its.size=ns.length)(hi:∀(i:Nat) (v:Value),its[i]?=some v->∃z t,ns[i]?=some z/\v=.int z t)(h:∀(h':Heap) (tk:Nat),Ze P w ns s h'->Q (.ref s.heap.objs.size) { s with heap:=h',toks:=tk }):wpAny (model P w) A (call (.type "set") [.ref l]) Q E s:=by
 obtain⟨c,tl,mro⟩:=PySem.F.called_set.mro;have made:=PySem.F.called_set.made;have sub:=PySem.F.called_set.sub;have nt:=PySem.F.called_set.notType;have cc:=PySem.F.called_set.canCreate;have tc:=PySem.F.typeCall_set_1 (.ref l);refine wpAny_call (codeAny_of_tree (show wpAny _ _ (callAny (.type "set") _) _ _ _ from wpAny_pure ⟨Code.quiet_builtin _ (by decide +kernel),codeAny_builtin PySem.F.entry_type_call ?_⟩));rw[Around.under_plain (weight_type_call_type "set" [.ref l] []) rfl]
 repeat (any_goals (first | assumption | wp_step))
 refine codeAny_mono (code_set_new_1 (.ref l) (E:=E) (Q₁:=fun x t=>∃g:Bool,x=.ref s.heap.objs.size/\t={ s with heap:=s.heap.push (emp g) }) fun g=>⟨g,rfl,rfl⟩) fun r t hr=>?_
 cases r with
 |error e=>exact hr
 |ok fl=>
  cases fl with
  |ret x=>
   obtain⟨g,rfl,rfl⟩:=hr;have hS:(s.heap.push (emp g)).get? s.heap.objs.size=some (emp g):=Heap.get?_push_size _ rfl;have hT:Shared.TypeIs { s with heap:=s.heap.push (emp g) } (.ref s.heap.objs.size) "set":=⟨_,hS,rfl⟩
   have li:=PySem.F.called_set.init.lookup;have bi:=PySem.F.called_set.init.bind (.ref s.heap.objs.size)
   repeat (any_goals (first | assumption | wp_step))
   refine codeAny_mono (codeAny_call_builtin (R:=wants (fun r t=>r=.none/\∃h' tk,t={ s with heap:=h',toks:=tk }/\Ze P w ns s h') E) PySem.F.called_set.init.plain PySem.F.entry_set_init (check_set_init_1 hT ?_)) fun r t hr=>?_
   ·obtain⟨ol,hol,hc,m,hd⟩:=hl;obtain⟨cls,dict,data,sls⟩:=ol;simp only at hc hd;subst hc hd;have hol':(s.heap.push (emp g)).get? l=some ⟨.type "list",dict,.seq its m,sls⟩:=Heap.get?_push_of_some _ hol;have n1:=PySem.F.sub_list_set;have n2:=PySem.F.sub_list_frozenset;have n3:(Value.type "list" == Value.type "dict")=false:=rfl;have hl1:(s.heap.push (emp g)).IsList l its:=⟨_,hol',rfl,m,rfl⟩
    unfold Builtin.«set.__init__» noKeywords Builtin.Frozenset.updateFrom;generalize hPI:pyIter=PI
    wp_walk
    subst hPI;refine wpAny_pyIter_list hl1 (wpAny_bind (wpAny_runValue ?_));have lts:l < s.heap.objs.size:=Heap.lt_size hol;have h3:A.in1.in1.in1.handled=none:=by simp[hh]
    have sz:(s.heap.push (emp g)).objs.size=s.heap.objs.size+1:=Heap.size_push ..;have ne1:l≠(s.heap.push (emp g)).objs.size:=by rw[sz];exact Nat.ne_of_lt (Nat.lt_succ_of_lt lts)
    have ne2:s.heap.objs.size∉[(s.heap.push (emp g)).objs.size,l]:=by rw[sz];simp only[mem_cons,not_mem_nil,or_false,not_or];exact⟨Nat.ne_of_lt (Nat.lt_succ_self _),Nat.ne_of_gt lts⟩
    refine Ti ((Walks.list h3 _ l ne1 its).toS) s.heap.objs.size ne2 (ns:=ns) hsz hn9 hi (its.size - 0) 0 _ rfl (Nat.zero_le _) ⟨⟨_,Heap.get?_push_size _ rfl,rfl,rfl⟩,hl1.push _⟩ ?s0 ?sR
    case s0=>
     exact uY ((setObjOf_fresh (knd:=intKind P w) g).setOf (Heap.get?_push_of_some _ hS) (by unfold scanBound;lia)) rfl rfl
    case sR=>
     intro s' mv hS';obtain⟨h',g',d',tk',os'⟩:=s';have eg:g'=s.gens:=mv.gens;have ed:d'=s.drawn:=mv.drawn;have eo:os'=s.os:=mv.os;subst eg ed eo;refine wpAny_pure (show wpAny _ _ (ret Value.none) _ _ _ from wpAny_pure ⟨rfl,h',tk',rfl,uY hS' (by rw[hsz,take_length]) (by rw[hsz,take_length]),fun x o hx e=>?_⟩);refine mv.heap x o ?_ (Heap.get?_push_of_some _ (Heap.get?_push_of_some _ e));rw[sz];simp only[mem_cons,not_mem_nil,or_false,not_or];exact⟨Nat.ne_of_lt hx,Nat.ne_of_lt (Nat.lt_succ_of_lt hx)⟩
   ·cases r with
    |error e=>exact hr
    |ok fl=>
     cases fl with
     |ret r=>
      obtain⟨rfl,h',tk,rfl,q⟩:=hr
      repeat (any_goals (first | assumption | wp_step))
      exact h _ _ q
     |_=>exact hr.elim
  |_=>exact hr.elim
end
section
variable {X:Cx}
def Lc (K:Frag)(ta:TE):TE:=fun σ H Q=>Uz ta Sy σ H fun vs H1=>∃p ns,vs=[.ref p]/\SqL K H1 p (ns.map V.int)/\ns.length<=1000/\Q (.int ((ddl ns).length:Nat)) H1
theorem Eo {e:Expr}{ta:TE}{p p2 pos pos2:Pos}(hc:X.calm=true)(hgl:Gl X "len")(hml:X.mg "len"=none)(hgs:Gl X "set")(hms:X.mg "set"=none)(ha:PE X e ta)(hs:starEach [e] X.env=(false,eval e X.env) :: starEach [] X.env:=by rfl)(hs2:starEach [.Call (.Name "set" p2) [e] [] pos2] X.env=(false,eval (.Call (.Name "set" p2) [e] [] pos2) X.env) :: starEach [] X.env:=by rfl) :
  PE X (.Call (.Name "len" p) [.Call (.Name "set" p2) [e] [] pos2] [] pos) (Lc X.K ta):=by
 intro pins s σ H Q I h;refine wpAny_Call_Name_kw (gJ I hgl hml PySem.boot_len (PyProof.Rows.callWith_builtin1 ?_ hs2 rfl));rw[hs2];show wpAny _ _ (spliced ((false,eval (.Call (.Name "set" p2) [e] [] pos2) X.env) :: backTo pos (starEach [] X.env))) _ _ s;refine Calls.spliced_cons (wpAny_Call_Name_kw (gJ I hgs hms Om (PyProof.Rows.callWith_type1 ?_ hs rfl)));refine thn (aA ha aC hs pos2 pins s σ H _ I h) fun us s1 ⟨vs,H1,I1,r1,pq,ns,e1,hq,hn9,q⟩=>?_
 cases e1
 obtain⟨u,rfl,rx⟩:=mL r1
 cases rx
 obtain⟨its,rv,pl,hz⟩:=I1.list hq;have hlen:its.toArray.size=ns.length:=by rw[size_toArray,<- rv.length,length_map]
 refine Kc (ns:=ns) (I1.ok.hd hc) pl.isList hn9 hlen (fun i v hv=>?_) fun h' tk ⟨⟨o,es,ep,t,ho,ex,hd,_,_,hbd,hf,hn⟩,kp⟩=>?_
 ·have hv':its[i]?=some v:=by simpa using hv
  have hi:i < its.length:=(List.getElem?_eq_some_iff.mp hv').1;have hi':i < ns.length:=by rw[<- hlen];simpa using hi
  obtain⟨t,ht⟩:=qf2 rv (getElem?_eq_getElem hi');rw[hv'] at ht
  cases ht
  exact⟨_,t,getElem?_eq_getElem hi',rfl⟩
 ·refine Calls.spliced_nil ?_;have le:=uF ns;refine call_len_set ho ex hd hf (by rw[hn];lia) ?_;rw[hn];exact⟨.int ((ddl ns).length:Nat),H1,I1.kept (t':=_) fun x o e=>kp x o (Heap.lt_size e) e,⟨_,rfl⟩,q⟩
end
def apt (es:List Int)(g:List Int):Bool:=!(g.any fun x=>decide (x∈es))
def lsG (F:Nat->Int)(m:Nat)(es:List Int)(i:Nat):List Int:=((((grp F m).map (·.2)).take i).filter (apt es)).flatten
def lsP (F:Nat->Int)(m:Nat)(es:List Nat):List Nat:=(List.range m).filter fun p=>es.all fun e=>decide (F e≠F p)
theorem sY {F:Nat->Int}{m:Nat}{e:Int × List Int}(h:e∈grp F m):e.2=mem F m e.1:=by
 rw[xU] at h;obtain⟨p,hp,rfl⟩:=mem_map.mp h;rfl
theorem jN {F:Nat->Int}{m:Nat}{k c:Int}:c∈mem F m k↔∃q:Nat,q < m/\F q=k/\c=(q:Int):=by
 unfold mem;refine⟨fun h=>?_,fun ⟨q,h1,h2,h3⟩=>?_⟩
 ·obtain⟨q,hq,rfl⟩:=mem_map.mp h;have:=mem_filter.mp hq;exact⟨q,mem_range.mp this.1,of_decide_eq_true this.2,rfl⟩
 ·exact mem_map.mpr ⟨q,mem_filter.mpr ⟨mem_range.mpr h1,decide_eq_true h2⟩,h3.symm⟩
theorem Vs (F:Nat->Int)(m:Nat)(k:Int):(mem F m k).Nodup:=by
 unfold mem;refine pairwise_map.mpr ((Pairwise.filter _ (nodup_range (n:=m))).imp fun {a b} h z=>h ?_);lia
theorem qd5 (F:Nat->Int)(m:Nat):((grp F m).map (·.2)).flatten.Nodup:=by
 refine pairwise_flatten.mpr ⟨fun l hl=>?_,?_⟩
 ·obtain⟨e,he,rfl⟩:=mem_map.mp hl;rw[sY he];exact Vs F m _
 ·refine pairwise_map.mpr ?_;have k:=pairwise_map.mp (tX F m);refine Pairwise.imp_of_mem (fun {a b} ha hb hab=>?_) k;intro x hx y hy z;rw[sY ha] at hx;rw[sY hb] at hy;obtain⟨q,_,h1,rfl⟩:=jN.mp hx;obtain⟨q',_,h2,e⟩:=jN.mp hy;have:q=q':=by lia
  subst this;exact hab (h1.symm.trans h2)
theorem Mc (F:Nat->Int)(m:Nat)(es:List Int)(i:Nat):(lsG F m es i).Nodup:=by
 unfold lsG;have h:=pairwise_flatten.mp (qd5 F m);exact pairwise_flatten.mpr ⟨fun l hl=>h.1 l (mem_of_mem_take (mem_filter.mp hl).1),h.2.sublist ((filter_sublist).trans (take_sublist i _))⟩
theorem Rn {F:Nat->Int}{m:Nat}{es:List Int}{i:Nat}{x:Int}(h:x∈lsG F m es i):∃q:Nat,q < m/\x=(q:Int):=by
 unfold lsG at h;obtain⟨g,hg,hx⟩:=mem_flatten.mp h;have hg:=mem_of_mem_take (mem_filter.mp hg).1;obtain⟨e,he,rfl⟩:=mem_map.mp hg;rw[sY he] at hx;obtain⟨q,h1,_,h2⟩:=jN.mp hx;exact⟨q,h1,h2⟩
theorem Hd (F:Nat->Int)(m:Nat)(es:List Int)(i:Nat):(lsG F m es i).length<=m:=by
 have:=(Mc F m es i).length_le_of_subset (l₂:=(List.range m).map fun (q:Nat)=>(q:Int)) fun x hx=>by
  obtain⟨q,h,rfl⟩:=Rn hx;exact mem_map.mpr ⟨q,mem_range.mpr h,rfl⟩
 rwa [length_map,length_range] at this
theorem Be {F:Nat->Int}{m:Nat}{es:List Int}{i:Nat}{g:List Int}(h:((grp F m).map (·.2))[i]?=some g):lsG F m es (i+1)=lsG F m es i++if apt es g=true then g else []:=by
 unfold lsG;rw[take_add_one,h,filter_append,flatten_append]
 cases c:apt es g with
 |true=>simp[c]
 |false=>simp[c]
theorem kA {F:Nat->Int}{m:Nat}{es:List Nat}{q:Nat}:q∈lsP F m es↔q < m/\∀e∈es,F e≠F q:=by
 unfold lsP;simp
theorem Tx {F:Nat->Int}{m:Nat}{es:List Nat}(hes:∀e∈es,e < m){ns:List Int}(pm:ns.Perm (lsG F m (es.map fun (i:Nat)=>(i:Int)) ((grp F m).map (·.2)).length))(st:ns.Pairwise (·<=·)):ns=(lsP F m es).map fun (i:Nat)=>(i:Int):=by
 have st2:((lsP F m es).map fun (i:Nat)=>(i:Int)).Pairwise (·<=·):=by
  unfold lsP;refine pairwise_map.mpr ((Pairwise.filter _ pairwise_lt_range).imp fun {a b} h=>?_);lia
 have nd2:((lsP F m es).map fun (i:Nat)=>(i:Int)).Nodup:=by
  unfold lsP;refine pairwise_map.mpr ((Pairwise.filter _ (nodup_range (n:=m))).imp fun {a b} h z=>h ?_);lia
 refine Perm.eq_of_pairwise (fun a b _ _ h1 h2=>by lia) st st2 (pm.trans ((perm_ext_iff_of_nodup (Mc F m _ _) nd2).mpr fun x=>?_));refine⟨fun h=>?_,fun h=>?_⟩
 ·unfold lsG at h;rw[take_length] at h;obtain⟨g,hg,hx⟩:=mem_flatten.mp h;obtain⟨hg,ha⟩:=mem_filter.mp hg;obtain⟨e,he,rfl⟩:=mem_map.mp hg;rw[sY he] at hx ha;obtain⟨q,h1,h2,rfl⟩:=jN.mp hx;refine mem_map.mpr ⟨q,kA.mpr ⟨h1,fun e' he' z=>?_⟩,rfl⟩;unfold apt at ha;have:(mem F m e.1).any (fun x=>decide (x∈es.map fun (i:Nat)=>(i:Int)))=true:=any_eq_true.mpr ⟨(e':Int),jN.mpr ⟨e',hes e' he',z.trans h2,rfl⟩,decide_eq_true (mem_map.mpr ⟨e',he',rfl⟩)⟩;rw[this] at ha
  cases ha
 ·obtain⟨q,hq,rfl⟩:=mem_map.mp h;obtain⟨h1,h2⟩:=kA.mp hq;obtain⟨p,hp,ep⟩:=pL F m q h1;unfold lsG;rw[take_length];refine mem_flatten.mpr ⟨mem F m (F p),mem_filter.mpr ⟨?_,?_⟩,jN.mpr ⟨q,h1,ep.symm,rfl⟩⟩
  ·rw[xU,map_map];exact mem_map.mpr ⟨p,hp,rfl⟩
  ·unfold apt
   cases c:(mem F m (F p)).any (fun x=>decide (x∈es.map fun (i:Nat)=>(i:Int))) with
   |false=>rfl
   |true=>
    obtain⟨x,hx,hd⟩:=any_eq_true.mp c;obtain⟨q',a1,a2,rfl⟩:=jN.mp hx;obtain⟨e,he,ee⟩:=mem_map.mp (of_decide_eq_true hd);have:e=q':=by lia
    subst this;exact absurd (a2.trans ep) (h2 e he)
end L2
namespace Mq
theorem My {p:Q2}(l:Low p){a L:Int}(hL:1<=L)(h:val p=(a:Rat) / (L:Rat)):p.2 ∣ L/\p.1.natAbs<=a.natAbs:=by
 have h2:((p.2:Int):Rat)≠0:=by have:=l.pos;exact_mod_cast (show p.2≠0 by lia)
 have hl:((L:Int):Rat)≠0:=by exact_mod_cast (show L≠0 by lia)
 have e:p.1*L=a*p.2:=by
  unfold val at h;have:((p.1:Int):Rat)*(L:Rat)=(a:Rat)*((p.2:Int):Rat):=by grind
  exact_mod_cast this
 have d:p.2 ∣ L:=by
  have c:Int.gcd p.2 p.1=1:=by
   have:=l.one;unfold gc at this;rw[Int.gcd_comm];exact_mod_cast this
  have c':Nat.Coprime p.2.natAbs p.1.natAbs:=c;have dv:p.2.natAbs ∣ p.1.natAbs*L.natAbs:=by
   rw[<- Int.natAbs_mul,e,Int.natAbs_mul];exact Nat.dvd_mul_left ..
  exact Int.natAbs_dvd_natAbs.mp (c'.dvd_of_dvd_mul_left dv)
 obtain⟨t,ht⟩:=d;have t1:t≠0:=fun z=>by rw[z,Int.mul_zero] at ht;lia
 have e2:p.1*t=a:=by
  have:p.2*(p.1*t)=p.2*a:=by
   rw[Int.mul_comm p.2 a,<- e,ht,<- Int.mul_assoc,<- Int.mul_assoc,Int.mul_comm p.2 p.1]
  exact Int.eq_of_mul_eq_mul_left (by have:=l.pos;lia) this
 refine⟨⟨t,ht⟩,?_⟩;rw[<- e2,Int.natAbs_mul];exact Nat.le_mul_of_pos_right _ (by lia)
end Mq
namespace L2
open PySem PySem.Spec PyProof.Rows Shp
theorem Qk {p:Mq.Q2}(l:Low p){a L:Int}{b:Nat}(hL:1<=L)(LB:Mq.B b L)(ab:Mq.B b a)(h:Mq.val p=(a:Rat) / (L:Rat)):Bd b p/\p.2 ∣ L:=by
 obtain⟨d,t⟩:=Mq.My l hL h;refine⟨⟨ab.le t,LB.le ?_⟩,d⟩;have:=Int.le_of_dvd (by lia) d;have:=l.pos;lia
end L2
namespace Mq
def Fr (L:Int)(M:Nat)(x:Rat):Prop:=∃a:Int,x=(a:Rat) / (L:Rat)/\a.natAbs<=M*L.natAbs
section
variable {L K:Int} {M N:Nat} {x y:Rat}
theorem Al (h:1<=L):((L:Int):Rat)≠0:=by exact_mod_cast (show L≠0 by lia)
theorem Fr.mono (h:Fr L M x)(l:M<=N):Fr L N x:=by
 obtain⟨a,e,b⟩:=h;exact⟨a,e,Nat.le_trans b (Nat.mul_le_mul_right _ l)⟩
theorem Fr.zero:Fr L 0 0:=⟨0,by rw[show ((0:Int):Rat)=0 by rfl,Rat.div_def];grind,by simp⟩
theorem Fr.one (h:1<=L):Fr L 1 1:=⟨L,by have:=Al h;grind,by lia⟩
theorem Fr.add (h:Fr L M x)(g:Fr L N y):Fr L (M+N) (x+y):=by
 obtain⟨a,ea,ba⟩:=h;obtain⟨b,eb,bb⟩:=g;refine⟨a+b,?_,?_⟩
 ·rw[ea,eb,Rat.intCast_add,Rat.div_def,Rat.div_def,Rat.div_def];grind
 ·rw[Nat.add_mul];have:=Int.natAbs_add_le a b;lia
theorem Fr.neg (h:Fr L M x):Fr L M (-x):=by
 obtain⟨a,ea,ba⟩:=h;refine⟨-a,?_,by rw[Int.natAbs_neg];exact ba⟩;rw[ea,Rat.intCast_neg,Rat.div_def,Rat.div_def];grind
theorem Fr.mul (hL:1<=L)(hK:1<=K)(h:Fr L M x)(g:Fr K N y):Fr (L*K) (M*N) (x*y):=by
 obtain⟨a,ea,ba⟩:=h;obtain⟨b,eb,bb⟩:=g;refine⟨a*b,?_,?_⟩
 ·have:=Al hL;have:=Al hK;rw[ea,eb,Rat.intCast_mul,Rat.intCast_mul];grind
 ·rw[Int.natAbs_mul,Int.natAbs_mul];have:=Nat.mul_le_mul ba bb;rw[show M*N*(L.natAbs*K.natAbs)=M*L.natAbs*(N*K.natAbs) by rw[Nat.mul_assoc,Nat.mul_assoc,Nat.mul_left_comm N]];exact this
theorem Fr.lift (hL:1<=L)(hK:1<=K)(h:Fr L M x):Fr (L*K) M x:=by
 have:=Fr.mul hL hK h (Fr.one hK)
 rwa [Nat.mul_one,Rat.mul_one] at this
theorem Fr.of (hL:1<=L){t b:Int}(hb:1<=b)(d:b ∣ L)(ht:t.natAbs<=M):Fr L M ((t:Rat) / (b:Rat)):=by
 obtain⟨k,rfl⟩:=d;have k1:1<=k:=by
  rcases Int.lt_or_le k 1 with z | z
  ·have:=Int.mul_nonpos_of_nonneg_of_nonpos (show 0<=b by lia) (show k<=0 by lia);lia
  ·exact z
 refine⟨t*k,?_,?_⟩
 ·have:=Al hb;have:=Al k1;rw[Rat.intCast_mul,Rat.intCast_mul];grind
 ·rw[Int.natAbs_mul,Int.natAbs_mul];refine Nat.mul_le_mul ht (Nat.le_mul_of_pos_left _ (by lia))
end
end Mq
namespace L2
theorem Nw (s g x:Nat):dl s g x=1\/dl s g x=0\/dl s g x=-1:=by
 unfold dl
 by_cases a:s=x<;>by_cases b:g=x<;>simp only[a,b,if_true,if_false]
 ·exact .inr (.inl (by grind))
 ·exact .inl (by grind)
 ·exact .inr (.inr (by grind))
 ·exact .inr (.inl (by grind))
theorem Pd {L:Int}{M:Nat}{y:Rat}(h:Mq.Fr L M y)(s g x:Nat):Mq.Fr L M (dl s g x*y):=by
 rcases Nw s g x with e | e | e
 ·rw[e,Rat.one_mul];exact h
 ·rw[e,Rat.zero_mul];exact Mq.Fr.zero.mono (Nat.zero_le _)
 ·rw[e,show (-1:Rat)*y=-y by grind];exact h.neg
open PySem PySem.Spec PyProof.Rows Shp
abbrev Ent:=Option Nat × RD × Mq.Q2
abbrev qh4 (E:List Ent):List Nat:=E.filterMap (·.1)
section
variable {m u j:Nat} {hs:List Mq.Q2} {par:Nat->Nat} {E:List Ent}
abbrev qh5 (E:List Ent)(C:List RD):List RD:=E.map (·.2.1)++C
end
section
variable {X:Cx}
theorem vY:OpR X (compareOp .IsNot) (fun x y H Q=>∃i b,x=.int i/\y=.bl b/\Q (.bl true) H):=by
 intro pins s σ H x y v u Q I rx ry h;obtain⟨i,b,rfl,rfl,q⟩:=h;obtain⟨t,rfl⟩:=rx
 cases ry
 unfold compareOp;exact wpAny_pure ⟨.bl true,H,I,rfl,q⟩
end
open PySem.W
theorem Qc {q:Program}{loose:List Str}{XP:(Str->Option Value)->Heap->Prop}{K:Params->Frag}{bs:List Addr}{n t:Nat}{r:RowW}{d:DefRec}{kwd:List (Str × Expr)}{run:Value->List Value->Sem Value}(e:∀P,bs=(K P).map (·.1))(h:WalkO q loose XP (fun w h=>(K w.params).In h) r d kwd run):WalkX q loose XP (W.X.obsZ bs) (W.X.valZ K n t) r d kwd run:=
 fun w s₀ s₁ mg mb G y a o pm cd doc dV kV h1 h2 h3 h4 h5 h6 args vals as' L=>h w s₀ s₁ mg mb G (InK.keeps w _ _ (W.X.z_facts e y).2.1 L.keeps) a o pm cd doc dV kV h1 h2 h3 h4 h5 h6 args vals as'
section
variable {K:Frag} {x qual:Str} {st:Stmt} {dV:Value} {f:Addr} {fd:FuncData}
theorem aU.b1 (a:Str)(F:aU K x qual st dV f fd)(h:∀(kV doc pm:Value) (an:Option Addr) (cdv ct u:Value),bindArgs (W.fnOf x qual (eU st) (dU st) (aH st) dV kV doc pm an cdv ct) ⟨[u],[]⟩=pure [(a,u)]):aP K fd [a] []:=
 F.binds fun k d p n c t us hl=>match us,hl with | [_],_=>h k d p n c t _
theorem aU.b2 (a b:Str)(F:aU K x qual st dV f fd)(h:∀(kV doc pm:Value) (an:Option Addr) (cdv ct u v:Value),bindArgs (W.fnOf x qual (eU st) (dU st) (aH st) dV kV doc pm an cdv ct) ⟨[u,v],[]⟩=pure [(a,u),(b,v)]):aP K fd [a,b] []:=
 F.binds fun k d p n c t us hl=>match us,hl with | [_,_],_=>h k d p n c t _ _
theorem aU.b3 (a b c:Str)(F:aU K x qual st dV f fd)(h:∀(kV doc pm:Value) (an:Option Addr) (cdv ct u v w:Value),bindArgs (W.fnOf x qual (eU st) (dU st) (aH st) dV kV doc pm an cdv ct) ⟨[u,v,w],[]⟩=pure [(a,u),(b,v),(c,w)]):aP K fd [a,b,c] []:=
 F.binds fun k d p n c t us hl=>match us,hl with | [_,_,_],_=>h k d p n c t _ _ _
theorem aU.b4 (a b c e:Str)(F:aU K x qual st dV f fd)(h:∀(kV doc pm:Value) (an:Option Addr) (cdv ct u v w z:Value),bindArgs (W.fnOf x qual (eU st) (dU st) (aH st) dV kV doc pm an cdv ct) ⟨[u,v,w,z],[]⟩=pure [(a,u),(b,v),(c,w),(e,z)]):aP K fd [a,b,c,e] []:=
 F.binds fun k d p n c t us hl=>match us,hl with | [_,_,_,_],_=>h k d p n c t _ _ _ _
end
end L2
namespace K58
open PySem L2
def top (i:Nat):Stmt:=PySem.Challenge.pw_ohmyard_k58_tables_refused.main.body.getD i (.Pass ⟨0,0,0,0⟩)
section
variable {P:Program} {w:World} {K:Frag} {mg:Str->Option Value} {base:Heap} {f g1 g2 g3 g4 g5 g6 g7 g8:Addr} {fd gd1 gd2 gd3 gd4 gd5 gd6 gd7 gd8:FuncData} {CX:CXT}
abbrev Cz:Stmt:=top 15
theorem Re:aQ ["thing"] ["thing"] (aH Cz):=sK9 rfl rfl rfl rfl (by decide +kernel)
theorem Pm {dV:Value}(F:aU K "is_whole" "is_whole" Cz dV f fd)(b:Bl mg):aJ P w K mg base CX 1 f fd ["thing"] (oS K):=by
 refine F.ok Re (fun vs H Q E h=>?_) fun cdv A outer s H vs Q E hr h=>?_
 ·obtain⟨_,rfl,_⟩:=h;rfl
 obtain⟨x,rfl,h⟩:=h;refine⟨_,aF (aX (jZ (fG (i:=0) rfl (Or.inl rfl) b.isi b.int rfl rfl PyProof.Rows.boot_int) (nY (Xd (fG (i:=0) rfl (Or.inl rfl) b.isi b.bool rfl rfl PyProof.Rows.boot_bool))))),?_⟩;rcases h with ⟨i,rfl,q⟩ | ⟨t,ty,nw,q⟩
 ·exact⟨_,_,_,rfl,.of (.int i),rfl,_,rfl,cT ⟨_,_,false,rfl,.of (.int i),(by with_unfolding_all rfl),_,rfl,q⟩⟩
 ·rcases nw with rfl | rfl | rfl | rfl | rfl
  ·exact⟨_,_,true,rfl,.of ty,(by with_unfolding_all rfl),_,rfl,cT ⟨_,_,_,rfl,.of ty,rfl,_,rfl,q⟩⟩
  all_goals exact⟨_,_,false,rfl,.of ty,(by with_unfolding_all rfl),_,rfl,eH q⟩
abbrev sGc:Stmt:=top 17
theorem Qw:aQ ["one","other","rest"] ["one","other"] (aH sGc):=sK9 rfl rfl rfl rfl (by decide +kernel)
theorem qd0 {dV:Value}(F:aU K "greatest_common" "greatest_common" sGc dV f fd)(b:Bl mg):aJ P w K mg base CX 1 f fd ["one","other"] Ry:=by
 refine F.ok Qw (fun vs H Q E h=>?_) fun cdv A outer s H vs Q E hr h=>?_
 ·obtain⟨_,_,rfl,_⟩:=h;rfl
 obtain⟨x,y,rfl,q⟩:=h;refine⟨_,aE (Mz PassesOwn.never (bK wL (pv 1) aG (bN _)) (aE (aV (i:=2) Qw.nd rfl (Or.inl rfl) (aZ jU (pv 0) (pv 1)))
  (aE (aV (i:=0) Qw.nd rfl (Or.inl rfl) (pv 1)) (aF (aV (i:=1) Qw.nd rfl (Or.inl rfl) (pv 2))))))
  (aF (aX (bH Ks rfl b.abs PyProof.Rows.boot_abs (aA (pv 0) aC)))),?_⟩
 refine Py (fun σ H'=>H'=H/\∃u v z,σ=[some (.int u),some (.int v),z]/\gc u v=gc x y) (fun σ _=>match σ with | [_,some (.int v),_]=>v.natAbs | _=>0) ⟨rfl,x,y,none,rfl,rfl⟩ ?_ ?_
 ·rintro σ H' ⟨rfl,u,v,z,rfl,e⟩;refine⟨_,rfl,rfl,_,rfl,?_⟩;refine Ja (fun c=>?_) (fun c=>?_)
  ·have hv:v≠0:=by intro q;subst q;simp at c
   refine⟨_,rfl,_,rfl,_,_,rfl,rfl,hv,_,rfl,_,rfl,⟨rfl,v,Int.fmod u v,_,rfl,(Mq.Sm u v).trans e⟩,Mq.Ip hv⟩
  ·have hv:v=0:=by
    simp at c;exact c
   subst hv;refine⟨_,rfl,_,rfl,?_⟩;rw[<- Mq.Uo,e];exact q
 ·rintro σ H Q Q' m ⟨v,h1,h2,k,h3,h4⟩;exact⟨v,h1,h2,k,h3,m _ _ h4⟩
abbrev Et:Stmt:=top 23
theorem Ta:aQ ["one","other"] ["one","other"] (aH Et):=sK9 rfl rfl rfl rfl (by decide +kernel)
theorem Nh {dV:Value}(F:aU K "under" "under" Et dV f fd):aJ P w K mg base CX 1 f fd ["one","other"] (Fi K):=by
 refine F.ok Ta (fun vs H Q E h=>?_) fun cdv A outer s H vs Q E hr h=>?_
 ·obtain⟨_,_,_,_,_,_,rfl,_⟩:=h;rfl
 obtain⟨a,b,p,q,n,m,rfl,ha,hb,bp,bq,hn,z⟩:=h;refine⟨_,aF (aX (fX wM (aZ cZ (aY bC (pv 0) aG (fun _ _=>rfl)) (aY bC (pv 1) aG (fun _ _=>rfl))) (aZ cZ (aY bC (pv 1) aG (fun _ _=>rfl)) (aY bC (pv 0) aG (fun _ _=>rfl))) (bN _))),?_⟩;exact eX rfl ha (cW rfl hb (dC bp.a bq.b (by lia) (by lia) (eX rfl hb (cW rfl ha (dC bq.a bp.b (by lia) (by lia) ⟨_,_,rfl,rfl,z⟩)))))
abbrev kE:Stmt:=top 18
theorem Ep:aQ ["top","bottom","shared"] ["top","bottom"] (aH kE):=sK9 rfl rfl rfl rfl (by decide +kernel)
theorem Uk {dV:Value}(F:aU K "fraction" "fraction" kE dV f fd)(G1:aJ P w K mg base CX0 1 g1 gd1 ["thing"] (oS K))(b1:aP K gd1 ["thing"] [])(k1:kI9 K g1)(m1:mI9 mg "is_whole" g1)(G2:aJ P w K mg base CX0 1 g2 gd2 ["one","other"] Ry)(b2:aP K gd2 ["one","other"] [])(k2:kI9 K g2)(m2:mI9 mg "greatest_common" g2) :
  aJ P w K mg base CX 2 f fd ["top","bottom"] nU:=by
 refine F.ok Ep (fun vs H Q E h=>?_) fun cdv A outer s H vs Q E hr h=>?_
 ·obtain⟨_,_,_,rfl,_⟩:=h;rfl
 obtain⟨t,b,n,rfl,hb,hB,hn,q⟩:=h;refine⟨_,aE (cS (PW.pt (mX (fA (cY (aI G1 hr rfl m1 k1 b1 .nil aS (aA (pv 0) aC)))) (mX (fA (cY (aI G1 hr rfl m1 k1 b1 .nil aS (aA (pv 1) aC)))) (nJ (bK gQ (pv 1) aG (bN _)))))) Iz bM)
  (aE (aV (i:=2) Ep.nd rfl (Or.inl rfl) (aI G2 hr rfl m2 k2 b2 .nil aS (aA (pv 0) (aA (pv 1) aC))))
  (aE (cS (bK wM (pv 1) aG (bN _)) (aF (aV (i:=2) Ep.nd rfl (Or.inl rfl) (sU nV (pv 2)))) bM)
  (aF (aX (cV (aA (aZ kM (pv 0) (pv 2)) (aA (aZ kM (pv 1) (pv 2)) aC))))))),?_⟩
 have hd:=Mq.vC (t:=t) hb;have hdB:Mq.B n (dvr t b):=hB.le (Lh hb);have c0:decide (V.int b=V.int 0)=false:=decide_eq_false (fun z=>hb (by cases z;rfl));refine⟨_,rfl,_,rfl,.inl ⟨t,rfl,_,rfl,eH ⟨_,rfl,_,rfl,.inl ⟨b,rfl,_,rfl,eH ⟨_,rfl,rfl,_,rfl,?_⟩⟩⟩⟩⟩;rw[c0];refine eH ⟨_,rfl,_,rfl,t,b,rfl,?_⟩;refine⟨_,rfl,_,_,rfl,rfl,_,rfl,?_⟩;refine Ja (fun c=>?_) (fun c=>?_)
 ·have hlt:b < 0:=of_decide_eq_true c;have e:dvr t b=-gc t b:=by unfold dvr;rw[if_pos hlt]
  rw[e] at hd hdB;have q':Pe H Q (t.fdiv (-gc t b),b.fdiv (-gc t b)):=by
   have z:=q;unfold red at z;rw[e] at z;exact z
  refine⟨_,rfl,_,rfl,?_⟩;refine⟨_,rfl,_,rfl,?_⟩;refine iN hd hdB hn ⟨_,rfl,_,rfl,iN hd hdB hn ⟨zl9 2,fun p hp=>?_⟩⟩;exact q' p _ (aD hp _) aB
 ·have hlt:¬b < 0:=fun z=>c (decide_eq_true z);have e:dvr t b=gc t b:=by unfold dvr;rw[if_neg hlt]
  rw[e] at hd hdB;have q':Pe H Q (t.fdiv (gc t b),b.fdiv (gc t b)):=by
   have z:=q;unfold red at z;rw[e] at z;exact z
  refine⟨_,rfl,_,rfl,?_⟩;refine iN hd hdB hn ⟨_,rfl,_,rfl,iN hd hdB hn ⟨zl9 2,fun p hp=>?_⟩⟩;exact q' p _ (aD hp _) aB
abbrev Cs:Stmt:=top 20
theorem Sg:aQ ["one","other"] ["one","other"] (aH Cs):=sK9 rfl rfl rfl rfl (by decide +kernel)
theorem Od {dV:Value}(F:aU K "minus" "minus" Cs dV f fd)(G1:aJ P w K mg base CX0 2 g1 gd1 ["top","bottom"] nU)(b1:aP K gd1 ["top","bottom"] [])(k1:kI9 K g1)(m1:mI9 mg "fraction" g1) :
  aJ P w K mg base CX 3 f fd ["one","other"] (lD K eQ):=by
 refine F.ok Sg (fun vs H Q E h=>?_) fun cdv A outer s H vs Q E hr h=>?_
 ·obtain⟨_,_,_,_,_,_,rfl,_⟩:=h;rfl
 obtain⟨a,b,p,q,n,m,rfl,ha,hb,lp,lq,bp,bq,hn,z⟩:=h;refine⟨_,aF (aX (aI G1 hr rfl m1 k1 b1 .nil aS (aA
  (aZ uJ (aZ cZ (aY bC (pv 0) aG (fun _ _=>rfl)) (aY bC (pv 1) aG (fun _ _=>rfl))) (aZ cZ (aY bC (pv 1) aG (fun _ _=>rfl)) (aY bC (pv 0) aG (fun _ _=>rfl))))
  (aA (aZ cZ (aY bC (pv 0) aG (fun _ _=>rfl)) (aY bC (pv 1) aG (fun _ _=>rfl))) aC)))),?_⟩
 refine eX rfl ha (cW rfl hb (dC bp.a bq.b (by lia) (by lia) (eX rfl hb (cW rfl ha (dC bq.a bp.b (by lia) (by lia) ⟨_,_,rfl,rfl,?_⟩)))));refine cW rfl ha (cW rfl hb (dC bp.b bq.b (by lia) (by lia) ⟨_,_,n+m,rfl,hG lp lq,bp.b.mul bq.b,by lia,z⟩))
abbrev Ms:Stmt:=top 19
theorem Xa:aQ ["one","other"] ["one","other"] (aH Ms):=sK9 rfl rfl rfl rfl (by decide +kernel)
theorem Ss {dV:Value}(F:aU K "plus" "plus" Ms dV f fd)(G1:aJ P w K mg base CX0 2 g1 gd1 ["top","bottom"] nU)(b1:aP K gd1 ["top","bottom"] [])(k1:kI9 K g1)(m1:mI9 mg "fraction" g1) :
  aJ P w K mg base CX 3 f fd ["one","other"] (lD K kI):=by
 refine F.ok Xa (fun vs H Q E h=>?_) fun cdv A outer s H vs Q E hr h=>?_
 ·obtain⟨_,_,_,_,_,_,rfl,_⟩:=h;rfl
 obtain⟨a,b,p,q,n,m,rfl,ha,hb,lp,lq,bp,bq,hn,z⟩:=h;refine⟨_,aF (aX (aI G1 hr rfl m1 k1 b1 .nil aS (aA
  (aZ kW (aZ cZ (aY bC (pv 0) aG (fun _ _=>rfl)) (aY bC (pv 1) aG (fun _ _=>rfl))) (aZ cZ (aY bC (pv 1) aG (fun _ _=>rfl)) (aY bC (pv 0) aG (fun _ _=>rfl))))
  (aA (aZ cZ (aY bC (pv 0) aG (fun _ _=>rfl)) (aY bC (pv 1) aG (fun _ _=>rfl))) aC)))),?_⟩
 refine eX rfl ha (cW rfl hb (dC bp.a bq.b (by lia) (by lia) (eX rfl hb (cW rfl ha (dC bq.a bp.b (by lia) (by lia) ⟨_,_,rfl,rfl,?_⟩)))));refine cW rfl ha (cW rfl hb (dC bp.b bq.b (by lia) (by lia) ⟨_,_,n+m,rfl,hG lp lq,bp.b.mul bq.b,by lia,z⟩))
variable {CR:Addr} {CK:Kd->Addr} {fW fJ fT fS:Kd->Addr} {fdW fdJ fdT fdS:Kd->FuncData}
abbrev Dv:Stmt:=cN (top 30) 0
theorem Tw:aQ ["self","start","goal","size"] ["self","start","goal","size"] (aH Dv):=sK9 rfl rfl rfl rfl (by decide +kernel)
theorem Qb {dV:Value}(F:aU K "__init__" "Row.__init__" Dv dV f fd)(T:RT K mg CR CK):aJ P w K mg base CX 1 f fd ["self","start","goal","size"] (Hy CK):=by
 refine F.ok Tw (fun vs H Q E h=>?_) fun cdv A outer s H vs Q E hr h=>?_
 ·obtain⟨_,_,_,_,_,_,rfl,_⟩:=h;rfl
 obtain⟨x,dx,k,s,g,z,rfl,hx,q⟩:=h;refine⟨_,(aE (lB (pv 0) (pv 1) rfl) (aE (lB (pv 0) (pv 2) rfl) (aF (lB (pv 0) (pv 3) rfl)))),?_⟩;have l1:=eO ("start":Str) s [];have l2:=eO ("goal":Str) g (dG "start" s []);simp only[length_nil] at l1;refine⟨_,rfl,_,rfl,x,CK k,dx,[],rfl,hx,T.cl k,T.nS k,(by show 0 < 1000;decide),?_⟩;refine⟨_,rfl,_,rfl,x,CK k,dx,_,rfl,aB,T.cl k,T.nG k,by lia,?_⟩;refine⟨_,rfl,_,rfl,x,CK k,dx,_,rfl,aB,T.cl k,T.nZ k,by lia,?_⟩;rw[oU,oU];exact q
abbrev uG:Stmt:=cN (top 31) 0
theorem Je:aQ ["self"] ["self"] (aH uG):=sK9 rfl rfl rfl rfl (by decide +kernel)
theorem Ef {dV:Value}(F:aU K "word" "Piece.word" uG dV f fd):aJ P w K mg base CX 1 f fd ["self"] (kU .pc):=by
 refine F.ok Je (fun vs H Q E h=>?_) fun cdv A outer s H vs Q E hr h=>?_
 ·obtain⟨_,rfl,_⟩:=h;rfl
 obtain⟨x,rfl,q⟩:=h;exact⟨_,(aF (aX bV)),q⟩
abbrev tG:Stmt:=cN (top 32) 0
theorem Ie:aQ ["self"] ["self"] (aH tG):=sK9 rfl rfl rfl rfl (by decide +kernel)
theorem Ev {dV:Value}(F:aU K "word" "Push.word" tG dV f fd):aJ P w K mg base CX 1 f fd ["self"] (kU .pu):=by
 refine F.ok Ie (fun vs H Q E h=>?_) fun cdv A outer s H vs Q E hr h=>?_
 ·obtain⟨_,rfl,_⟩:=h;rfl
 obtain⟨x,rfl,q⟩:=h;exact⟨_,(aF (aX bV)),q⟩
abbrev tU:Stmt:=cN (top 33) 0
theorem Jr:aQ ["self"] ["self"] (aH tU):=sK9 rfl rfl rfl rfl (by decide +kernel)
theorem En {dV:Value}(F:aU K "word" "Hold.word" tU dV f fd):aJ P w K mg base CX 1 f fd ["self"] (kU .ho):=by
 refine F.ok Jr (fun vs H Q E h=>?_) fun cdv A outer s H vs Q E hr h=>?_
 ·obtain⟨_,rfl,_⟩:=h;rfl
 obtain⟨x,rfl,q⟩:=h;exact⟨_,(aF (aX bV)),q⟩
abbrev Dk:Stmt:=cN (top 30) 1
theorem Sz:aQ ["self"] ["self"] (aH Dk):=sK9 rfl rfl rfl rfl (by decide +kernel)
theorem Km {dV:Value}(F:aU K "told" "Row.told" Dk dV f fd)(T:RT K mg CR CK)(GW:∀k,aJ P w K mg base CX0 1 (fW k) (fdW k) ["self"] (kU k))(bW:∀k,aP K (fdW k) ["self"] [])(mW:∀k,iB K (CK k) "word" (fW k)):aJ P w K mg base CX 2 f fd ["self"] (yI CK):=by
 refine F.ok Sz (fun vs H Q E h=>?_) fun cdv A outer s H vs Q E hr h=>?_
 ·obtain⟨_,_,_,_,_,rfl,_⟩:=h;rfl
 obtain⟨x,k,s,g,z,rfl,⟨dx,hx⟩,q⟩:=h;refine⟨_,(aF (aX (cV (aA (jJ (pv 0) T.cl mW GW hr bW .nil aS) (aA (cK (pv 0) rfl) (aA (cK (pv 0) rfl) (aA (cK (pv 0) rfl) aC))))))),?_⟩;refine⟨_,rfl,k,x,dx,_,rfl,hx,(jC _ _ _ (by decide +kernel) (by decide +kernel) (by decide +kernel)),_,rfl,?_⟩;refine⟨_,rfl,x,CK k,dx,_,_,rfl,hx,T.cl k,T.nS k,gP _ _ _,?_⟩;refine⟨_,rfl,x,CK k,dx,_,_,rfl,hx,T.cl k,T.nG k,iG _ _ _,?_⟩;refine⟨_,rfl,x,CK k,dx,_,_,rfl,hx,T.cl k,T.nZ k,jO _ _ _,?_⟩;exact⟨zl9 4,q⟩
abbrev Cw:Stmt:=top 34
theorem Hv:aQ ["told","word"] ["told"] (aH Cw):=sK9 rfl rfl rfl rfl (by decide +kernel)
theorem Np {dV:Value}{gI:Addr}{gdI:FuncData}(F:aU K "row_of" "row_of" Cw dV f fd)(T:RT K mg CR CK)(b:Bl mg)(ms:mg "str"=none)(GI:aJ P w K mg base CX0 1 gI gdI ["self","start","goal","size"] (Hy CK))(bI:aP K gdI ["self","start","goal","size"] [])(MK:∀k,Mk K (CK k) gI):aJ P w K mg base CX 3 f fd ["told"] (oI K CK):=by
 refine F.ok Hv (fun vs H Q E h=>?_) fun cdv A outer s H vs Q E hr h=>?_
 ·obtain⟨_,_,_,_,_,rfl,_⟩:=h;rfl
 obtain⟨t,v,s,g,z,rfl,hT,k,rfl,q⟩:=h;refine⟨_,(aE (aV (i:=1) Hv.nd rfl (Or.inl rfl) (aY bC (pv 0) aG (fun _ _=>rfl)))
  (aE (cS (PW.pt (pS (cY (fG (i:=1) rfl (Or.inl rfl) b.isi ms rfl rfl PyProof.Rows.boot_str)) (lS (bK gQ (pv 1) bV (bN _))))) (aF (aX (lY (MK .pc) GI hr rfl (T.mK .pc) bI .nil aS (aA (aY bC (pv 0) aG (fun _ _=>rfl)) (aA (aY bC (pv 0) aG (fun _ _=>rfl)) (aA (aY bC (pv 0) aG (fun _ _=>rfl)) aC)))))) bM)
  (aE (cS (PW.pt (pS (cY (fG (i:=1) rfl (Or.inl rfl) b.isi ms rfl rfl PyProof.Rows.boot_str)) (lS (bK gQ (pv 1) bV (bN _))))) (aF (aX (lY (MK .pu) GI hr rfl (T.mK .pu) bI .nil aS (aA (aY bC (pv 0) aG (fun _ _=>rfl)) (aA (aY bC (pv 0) aG (fun _ _=>rfl)) (aA (aY bC (pv 0) aG (fun _ _=>rfl)) aC)))))) bM)
  (aE (cS (PW.pt (pS (cY (fG (i:=1) rfl (Or.inl rfl) b.isi ms rfl rfl PyProof.Rows.boot_str)) (lS (bK gQ (pv 1) bV (bN _))))) (aF (aX (lY (MK .ho) GI hr rfl (T.mK .ho) bI .nil aS (aA (aY bC (pv 0) aG (fun _ _=>rfl)) (aA (aY bC (pv 0) aG (fun _ _=>rfl)) (aA (aY bC (pv 0) aG (fun _ _=>rfl)) aC)))))) bM)
  (aF iI))))),?_⟩
 cases k
 ·refine Zh (fun _ _=>False) (fun X _=>?_) (fun _ _ h=>h.elim);refine⟨_,rfl,t,_,0,_,rfl,rfl,hT,rfl,?_⟩;exact⟨_,_,true,rfl,.of (.str _),rfl,_,rfl,cT ⟨_,rfl,rfl,_,rfl,ifT (eS .pc .pc) ⟨_,rfl,t,_,1,s,rfl,rfl,hT,rfl,_,rfl,t,_,2,g,rfl,rfl,hT,rfl,_,rfl,t,_,3,z,rfl,rfl,hT,rfl,fun x dx h1 h2 ne=>⟨x,dx,.pc,s,g,z,rfl,aB,rfl,by rw[oU];exact q x _ (Rw.new h1 h2 ne) h1 ⟨dx,aB⟩⟩⟩⟩⟩
 ·refine qa5 (fun _ _=>False) (fun X _=>?_) (fun _ _ h=>h.elim);refine⟨_,rfl,t,_,0,_,rfl,rfl,hT,rfl,?_⟩;exact⟨_,_,true,rfl,.of (.str _),rfl,_,rfl,cT ⟨_,rfl,rfl,_,rfl,ifF (eS .pu .pc) (⟨_,_,true,rfl,.of (.str _),rfl,_,rfl,cT ⟨_,rfl,rfl,_,rfl,ifT (eS .pu .pu) ⟨_,rfl,t,_,1,s,rfl,rfl,hT,rfl,_,rfl,t,_,2,g,rfl,rfl,hT,rfl,_,rfl,t,_,3,z,rfl,rfl,hT,rfl,fun x dx h1 h2 ne=>⟨x,dx,.pu,s,g,z,rfl,aB,rfl,by rw[oU];exact q x _ (Rw.new h1 h2 ne) h1 ⟨dx,aB⟩⟩⟩⟩⟩)⟩⟩
 ·refine qe9 (fun _ _=>False) (fun X _=>?_) (fun _ _ h=>h.elim);refine⟨_,rfl,t,_,0,_,rfl,rfl,hT,rfl,?_⟩;exact⟨_,_,true,rfl,.of (.str _),rfl,_,rfl,cT ⟨_,rfl,rfl,_,rfl,ifF (eS .ho .pc) (⟨_,_,true,rfl,.of (.str _),rfl,_,rfl,cT ⟨_,rfl,rfl,_,rfl,ifF (eS .ho .pu) (⟨_,_,true,rfl,.of (.str _),rfl,_,rfl,cT ⟨_,rfl,rfl,_,rfl,ifT (eS .ho .ho) ⟨_,rfl,t,_,1,s,rfl,rfl,hT,rfl,_,rfl,t,_,2,g,rfl,rfl,hT,rfl,_,rfl,t,_,3,z,rfl,rfl,hT,rfl,fun x dx h1 h2 ne=>⟨x,dx,.ho,s,g,z,rfl,aB,rfl,by rw[oU];exact q x _ (Rw.new h1 h2 ne) h1 ⟨dx,aB⟩⟩⟩⟩⟩)⟩⟩)⟩⟩
abbrev Wx:Stmt:=top 16
theorem qc3:aQ ["thing"] ["thing"] (aH Wx):=sK9 rfl rfl rfl rfl (by decide +kernel)
theorem Yx {dV:Value}(F:aU K "is_fraction" "is_fraction" Wx dV f fd)(b:Bl mg)(ml:mg "len"=none)(mt:mg "tuple"=none)(G1:aJ P w K mg base CX0 1 g1 gd1 ["thing"] (oS K))(b1:aP K gd1 ["thing"] [])(k1:kI9 K g1)(m1:mI9 mg "is_whole" g1)(G2:aJ P w K mg base CX0 1 g2 gd2 ["one","other"] Ry)(b2:aP K gd2 ["one","other"] [])(k2:kI9 K g2)(m2:mI9 mg "greatest_common" g2) :
  aJ P w K mg base CX 2 f fd ["thing"] (Lm K):=by
 refine F.ok qc3 (fun vs H Q E h=>?_) fun cdv A outer s H vs Q E hr h=>?_
 ·obtain⟨_,_,rfl,_⟩:=h;rfl
 obtain⟨v,o,rfl,hz,q⟩:=h;refine⟨_,(aE (cS (PW.pt (mX (fA (cY (fG (i:=0) rfl (Or.inl rfl) b.isi mt rfl rfl PyProof.Rows.boot_tuple))) (nJ (bK wL (bH bD rfl ml PySem.boot_len (aA (pv 0) aC)) aG (bN _))))) (aF (aX fM)) bM)
  (aE (cS (PW.pt (mX (fA (cY (aI G1 hr rfl m1 k1 b1 .nil aS (aA (aY bC (pv 0) aG (fun _ _=>rfl)) aC)))) (nJ (fA (cY (aI G1 hr rfl m1 k1 b1 .nil aS (aA (aY bC (pv 0) aG (fun _ _=>rfl)) aC))))))) (aF (aX fM)) bM)
  (aF (aX (jZ (fX Oj (aY bC (pv 0) aG (fun _ _=>rfl)) aG (bN _)) (nY (fX gQ (aI G2 hr rfl m2 k2 b2 .nil aS (aA (aY bC (pv 0) aG (fun _ _=>rfl)) (aA (aY bC (pv 0) aG (fun _ _=>rfl)) aC))) aG (bN _)))))))),?_⟩
 cases hz with
 |fr fa hp=>
  refine⟨_,_,true,rfl,.tup fa,rfl,_,rfl,eH ⟨_,rfl,_,_,rfl,.inr fa,rfl,_,rfl,eH ?_⟩⟩;refine eX rfl fa ⟨_,rfl,.inl ⟨_,rfl,_,rfl,eH (cW rfl fa ⟨_,rfl,.inl ⟨_,rfl,_,rfl,eH ?_⟩⟩)⟩⟩;have h1:=hp.pos;refine cW rfl fa ⟨_,_,rfl,rfl,_,rfl,ifT (decide_eq_true (by lia)) (eX rfl fa (cW rfl fa ⟨_,_,rfl,rfl,?_⟩))⟩;rw[hp.one];exact q
 |ty h n=>exact⟨_,_,false,rfl,h,n,_,rfl,cT q⟩
 |len h=>exact⟨_,_,true,rfl,.tup h,rfl,_,rfl,eH ⟨_,rfl,_,_,rfl,.inr h,rfl,_,rfl,cT q⟩⟩
 |n0 h ty n=>
  refine⟨_,_,true,rfl,.tup h,rfl,_,rfl,eH ⟨_,rfl,_,_,rfl,.inr h,rfl,_,rfl,eH ?_⟩⟩;exact⟨_,rfl,_,_,0,_,rfl,rfl,h,rfl,_,rfl,.inr ⟨_,ty,n,_,rfl,cT q⟩⟩
 |n1 h ty n=>
  refine⟨_,_,true,rfl,.tup h,rfl,_,rfl,eH ⟨_,rfl,_,_,rfl,.inr h,rfl,_,rfl,eH ?_⟩⟩;exact⟨_,rfl,_,_,0,_,rfl,rfl,h,rfl,_,rfl,.inl ⟨_,rfl,_,rfl,eH ⟨_,rfl,_,_,1,_,rfl,rfl,h,rfl,_,rfl,.inr ⟨_,ty,n,_,rfl,cT q⟩⟩⟩⟩
 |fb fa c=>
  refine⟨_,_,true,rfl,.tup fa,rfl,_,rfl,eH ⟨_,rfl,_,_,rfl,.inr fa,rfl,_,rfl,eH ?_⟩⟩;refine eX rfl fa ⟨_,rfl,.inl ⟨_,rfl,_,rfl,eH (cW rfl fa ⟨_,rfl,.inl ⟨_,rfl,_,rfl,eH ?_⟩⟩)⟩⟩;rcases c with c | ⟨c,d⟩
  ·exact cW rfl fa ⟨_,_,rfl,rfl,_,rfl,ifF (decide_eq_false (by lia)) q⟩
  ·refine cW rfl fa ⟨_,_,rfl,rfl,_,rfl,ifT (decide_eq_true c) (eX rfl fa (cW rfl fa ⟨_,_,rfl,rfl,?_⟩))⟩;rw[decide_eq_false (fun e=>d (by injection e))];exact q
abbrev sPS:Stmt:=top 35
theorem qg4:aQ ["thing"] ["thing"] (aH sPS):=sK9 rfl rfl rfl rfl (by decide +kernel)
theorem qd4 {dV:Value}(F:aU K "is_piece_size" "is_piece_size" sPS dV f fd){aN:Addr}(fN:∀H,Fq K H aN (0,1))(mNO:mI9 mg "NOUGHT" aN)(G1:aJ P w K mg base CX0 2 g1 gd1 ["thing"] (Lr K))(b1:aP K gd1 ["thing"] [])(k1:kI9 K g1)(m1:mI9 mg "is_fraction" g1)(G2:aJ P w K mg base CX0 1 g2 gd2 ["one","other"] (Fi K))(b2:aP K gd2 ["one","other"] [])(k2:kI9 K g2)(m2:mI9 mg "under" g2) :
  aJ P w K mg base CX 3 f fd ["thing"] (qd3 K):=by
 refine F.ok qg4 (fun vs H Q E h=>?_) fun cdv A outer s H vs Q E hr h=>?_
 ·obtain⟨_,_,_,rfl,_⟩:=h;rfl
 obtain⟨a,p,n,rfl,fa,hp,h0,hb,hn,q⟩:=h;have r1:=hr.mono (show 1<=2 by lia);refine⟨_,(aF (aX (jZ (aI G1 hr rfl m1 k1 b1 .nil aS (aA (pv 0) aC)) (nY (aI G2 r1 rfl m2 k2 b2 .nil aS (aA (eV (v:=.ref aN) rfl mNO rfl) (aA (pv 0) aC))))))),?_⟩;refine⟨_,rfl,a,p,rfl,fa,hp,_,rfl,cT ⟨_,rfl,aN,a,_,p,1,n,rfl,fN _,fa,⟨show (0:Nat) < 2 ^ 1 by decide,show (1:Nat) < 2 ^ 1 by decide⟩,hb,by lia,?_⟩⟩;rw[decide_eq_true (show (0:Int)*p.2 < p.1*1 by lia)];exact q
abbrev sNB:Stmt:=top 40
theorem qe0:aQ ["thing","bound"] ["thing","bound"] (aH sNB):=sK9 rfl rfl rfl rfl (by decide +kernel)
abbrev sRS:Stmt:=top 42
theorem qe6:aQ ["word","size"] ["word","size"] (aH sRS):=sK9 rfl rfl rfl rfl (by decide +kernel)
theorem Zf {dV:Value}(F:aU K "refuse_size" "refuse_size" sRS dV f fd)(G1:aJ P w K mg base CX0 2 g1 gd1 ["thing"] (Lr K))(b1:aP K gd1 ["thing"] [])(k1:kI9 K g1)(m1:mI9 mg "is_fraction" g1)(G2:aJ P w K mg base CX0 3 g2 gd2 ["thing"] (qd3 K))(b2:aP K gd2 ["thing"] [])(k2:kI9 K g2)(m2:mI9 mg "is_piece_size" g2) :
  aJ P w K mg base CX 4 f fd ["word","size"] (qd7 K):=by
 refine F.ok qe6 (fun vs H Q E h=>?_) fun cdv A outer s H vs Q E hr h=>?_
 ·obtain⟨_,_,_,rfl,_⟩:=h;rfl
 obtain⟨k,z,p,rfl,fz,hp,h0,hb,q⟩:=h;have r2:=hr.mono (show 2<=3 by lia);refine⟨_,(aE (cS (fA (cY (aI G1 r2 rfl m1 k1 b1 .nil aS (aA (pv 1) aC)))) (aF iI) bM)
  (aF (cS (PW.pt (pS (bK gQ (pv 0) bV (bN _)) (lS (fA (cY (aI G2 hr rfl m2 k2 b2 .nil aS (aA (pv 1) aC))))))) (aF iI) bM))),?_⟩
 refine⟨_,rfl,z,p,rfl,fz,hp,_,rfl,eH ?_⟩
 cases k
 ·exact⟨_,rfl,rfl,_,rfl,ifT (eS .pc .pc) ⟨_,rfl,z,p,_,rfl,fz,hp,h0 rfl,hb,by lia,_,rfl,eH q⟩⟩
 ·exact⟨_,rfl,rfl,_,rfl,ifF (eS .pu .pc) (eH q)⟩
 ·exact⟨_,rfl,rfl,_,rfl,ifF (eS .ho .pc) (eH q)⟩
theorem mY:(["point","many"]:List Str).Nodup:=by decide +kernel
def Zq (K:Frag):Sp:=fun vs H Q _=>∃(l:Addr) (i j m:Int),vs=[.ref l,.int m]/\SqL K H l [.int i,.int j]/\0<=i/\i < m/\0<=j/\j < m/\∀H',aK H H'->Q .non H'
abbrev sRP:Stmt:=top 41
theorem qe1:aQ ["some","many"] ["some","many"] (aH sRP):=sK9 rfl rfl rfl rfl (by decide +kernel)
abbrev Dn:Stmt:=cN (top 39) 0
theorem Te:aQ ["self","many"] ["self","many"] (aH Dn):=sK9 rfl rfl rfl rfl (by decide +kernel)
theorem Mb {dV:Value}{CN:Addr}(F:aU K "__init__" "Net.__init__" Dn dV f fd)(NTx:NT K mg CN){tM:Tok}(mMP:mg "MOST_POINTS"=some (.int 20 tM))(G1:aJ P w K mg base CX0 1 g1 gd1 ["thing"] (oS K))(b1:aP K gd1 ["thing"] [])(k1:kI9 K g1)(m1:mI9 mg "is_whole" g1):aJ P w K mg base CX 2 f fd ["self","many"] (Ft CN):=by
 refine F.ok Te (fun vs H Q E h=>?_) fun cdv A outer s H vs Q E hr h=>?_
 ·obtain⟨_,_,_,rfl,_⟩:=h;rfl
 obtain⟨n,dx,m,rfl,hn,h1,h20,q⟩:=h;refine⟨_,(aE (cS (PW.pt (mX (fA (cY (aI G1 hr rfl m1 k1 b1 .nil aS (aA (pv 1) aC)))) (mX (bK wM (pv 1) aG (bN _)) (nJ (bK Hf (pv 1) (eV (v:=.int 20) rfl mMP ⟨_,rfl⟩) (bN _)))))) (aF iI) bM)
  (aE (lB (pv 0) (pv 1) rfl)
  (aF (lB (pv 0) (cX aC) rfl)))),?_⟩
 refine⟨_,rfl,_,rfl,.inl ⟨m,rfl,_,rfl,eH ⟨_,rfl,_,_,rfl,rfl,_,rfl,ifF (decide_eq_false (by lia)) ⟨_,rfl,_,_,rfl,rfl,_,rfl,ifF (decide_eq_false (by lia)) ?_⟩⟩⟩⟩;refine⟨_,rfl,_,rfl,n,CN,dx,[],rfl,hn,NTx.cl,NTx.nP,(by show 0 < 1000;decide),?_⟩;refine⟨zl9 0,fun l hl=>?_⟩;have nl:n≠l:=fun z=>by subst z;rw[aB] at hl;cases hl
 have hl0:H l=none:=by rw[aM (Ne.symm nl)] at hl;exact hl
 have l1:=eO ("point_count":Str) (.int m) [];simp only[length_nil] at l1;refine⟨_,rfl,n,CN,dx,dG "point_count" (.int m) [],rfl,by rw[aM nl];exact aB,NTx.cl,NTx.nK,by lia,?_⟩;refine q l _ hl0 (fun b o e hb=>?_) aB (by rw[aM (Ne.symm nl)];exact aB);rw[aM hb,aM (bB e hl0),aM hb];exact e
abbrev Nz:Stmt:=cN (top 39) 1
theorem Vw:aQ ["self"] ["self"] (aH Nz):=sK9 rfl rfl rfl rfl (by decide +kernel)
theorem Td {dV:Value}{CN:Addr}(F:aU K "many" "Net.many" Nz dV f fd)(NTx:NT K mg CN):aJ P w K mg base CX 1 f fd ["self"] (sV CN K):=by
 refine F.ok Vw (fun vs H Q E h=>?_) fun cdv A outer s H vs Q E hr h=>?_
 ·obtain⟨_,_,_,_,rfl,_⟩:=h;rfl
 obtain⟨n,l,m,ds,rfl,⟨⟨dx,hn⟩,ts,hl,hr'⟩,q⟩:=h;exact⟨_,(aF (aX (cK (pv 0) rfl))),_,rfl,n,CN,dx,_,_,rfl,hn,NTx.cl,NTx.nP,Bx _ _,q⟩
abbrev qe3:Stmt:=cN (top 39) 2
abbrev Cm:Stmt:=cN (top 39) 6
theorem Tp:aQ ["self"] ["self"] (aH Cm):=sK9 rfl rfl rfl rfl (by decide +kernel)
theorem Qn {dV:Value}{CN:Addr}(F:aU K "told" "Net.told" Cm dV f fd)(NTx:NT K mg CN)(mli:mg "list"=none):aJ P w K mg base CX 1 f fd ["self"] (Gv CN K):=by
 refine F.ok Tp (fun vs H Q E h=>?_) fun cdv A outer s H vs Q E hr h=>?_
 ·obtain⟨_,_,_,_,rfl,_⟩:=h;rfl
 obtain⟨n,l,m,ds,rfl,⟨⟨dx,hn⟩,ts,hl,hr'⟩,q⟩:=h;refine⟨_,(aF (aX (dL cU rfl mli PyProof.Rows.boot_list (aA (cK (pv 0) rfl) aC)))),_,rfl,n,CN,dx,_,_,rfl,hn,NTx.cl,NTx.nK,iH _ _,l,ts,rfl,.inl (SqL.of hl),fun a ha=>?_⟩;have sa:=aD ha (.lst ts);exact q a ts _ sa ha aB (hr'.same sa)
abbrev Wz:Stmt:=cN (top 39) 3
theorem Vh:aQ ["self","row","told"] ["self","row"] (aH Wz):=sK9 rfl rfl rfl rfl (by decide +kernel)
theorem Wc {dV:Value}{CN:Addr}(F:aU K "add" "Net.add" Wz dV f fd)(NTx:NT K mg CN){tR:Tok}(mMR:mg "MOST_ROWS"=some (.int 40 tR))(ml:mg "len"=none){gT:Addr}{gdT:FuncData}(T:RT K mg CR CK)(GT:aJ P w K mg base CX0 2 gT gdT ["self"] (yI CK))(bT:aP K gdT ["self"] [])(mT:∀k,iB K (CK k) "told" gT)(G1:aJ P w K mg base CX0 3 g1 gd1 ["some","many"] (Zq K))(b1:aP K gd1 ["some","many"] [])(k1:kI9 K g1)(m1:mI9 mg "refuse_points" g1)(G2:aJ P w K mg base CX0 4 g2 gd2 ["word","size"] (qd7 K))(b2:aP K gd2 ["word","size"] [])(k2:kI9 K g2)(m2:mI9 mg "refuse_size" g2):aJ P w K mg base CX 5 f fd ["self","row"] (Oy CN K CK):=by
 refine F.ok Vh (fun vs H Q E h=>?_) fun cdv A outer s H vs Q E hr h=>?_
 ·obtain⟨_,_,_,_,_,_,_,_,_,_,rfl,_⟩:=h;rfl
 obtain⟨n,l,x,z,m,ds,k,i,j,p,rfl,⟨⟨dx,hn⟩,ts,hl,hR⟩,rw,fz,⟨i0,i1,j0,j1,lp,h0,bp⟩,h40,q⟩:=h;have r2:=hr.mono (show 2<=4 by lia);have r3:=hr.mono (show 3<=4 by lia);refine⟨_,(aE (aV (i:=2) Vh.nd rfl (Or.inl rfl) (jJ (f:=fun _=>gT) (fd:=fun _=>gdT) (sp:=fun _=>yI CK) (pv 1) T.cl mT (fun _=>GT) r2 (fun _=>bT) .nil aS))
  (aE (cG (aI G1 r3 rfl m1 k1 b1 .nil aS (aA (cX (aA (aY bC (pv 2) aG (fun _ _=>rfl)) (aA (aY bC (pv 2) aG (fun _ _=>rfl)) aC))) (aA (cK (pv 0) rfl) aC))))
  (aE (cG (aI G2 hr rfl m2 k2 b2 .nil aS (aA (aY bC (pv 2) aG (fun _ _=>rfl)) (aA (aY bC (pv 2) aG (fun _ _=>rfl)) aC))))
  (aE (cS (bK Oj (bH bD rfl ml PySem.boot_len (aA (cK (pv 0) rfl) aC)) (eV (v:=.int 40) rfl mMR ⟨_,rfl⟩) (bN _)) (aF iI) bM)
  (aE (cG (uV PySem.F.plainAttrs_list PySem.F.slot_list_append PySem.F.type_list_append iC (cK (pv 0) rfl) (aA (pv 2) aC)))
  (aF (aX (aZ uJ (bH bD rfl ml PySem.boot_len (aA (cK (pv 0) rfl) aC)) aG)))))))),?_⟩
 obtain⟨dr,hx⟩:=id rw;have len:=hR.length;refine⟨_,rfl,k,x,dr,_,rfl,hx,(jC _ _ _ (by decide +kernel) (by decide +kernel) (by decide +kernel)),x,k,_,_,_,rfl,rw,fun t ht=>?_⟩;have st:=aD ht (.tup [.str k.wd,.int i,.int j,.ref z]);have et:SqT K (upd H t (.tup [.str k.wd,.int i,.int j,.ref z])) t [.str k.wd,.int i,.int j,.ref z]:=SqT.of aB;generalize upd H t (.tup [.str k.wd,.int i,.int j,.ref z])=H1a at st et ⊢;have hn1:=st _ _ hn;have hl1:=st _ _ hl;refine⟨_,rfl,t,_,1,_,rfl,rfl,et,rfl,_,rfl,t,_,2,_,rfl,rfl,et,rfl,zl9 2,fun lq hlq=>?_⟩;have sq:=aD hlq (.lst [.int i,.int j]);have eq:upd H1a lq (.lst [.int i,.int j]) lq=some (.lst [.int i,.int j]):=aB;generalize upd H1a lq (.lst [.int i,.int j])=H1b at sq eq ⊢;have hnb:=sq _ _ hn1;refine⟨_,rfl,n,CN,dx,_,_,rfl,hnb,NTx.cl,NTx.nP,Bx _ _,lq,i,j,m,rfl,SqL.of eq,i0,i1,j0,j1,fun H1 sc=>?_⟩;have sqc:=sq.trans sc;have st:=st.trans sqc;have et:=sqc.seqT et;have hn1:=sqc _ _ hn1;have hl1:=sqc _ _ hl1;refine⟨_,rfl,t,_,0,_,rfl,rfl,et,rfl,_,rfl,t,_,3,_,rfl,rfl,et,rfl,k,z,p,rfl,st.fq fz,lp,h0,bp,?_⟩;refine⟨_,rfl,n,CN,dx,_,_,rfl,hn1,NTx.cl,NTx.nK,iH _ _,l,ts,rfl,.inl (SqL.of hl1),_,_,rfl,rfl,_,rfl,ifF (decide_eq_false (by lia)) ?_⟩;refine⟨_,rfl,n,CN,dx,_,_,rfl,hn1,NTx.cl,NTx.nK,iH _ _,.inl ⟨rfl,_,SqL.of hl1⟩,_,rfl,l,ts,.ref t,rfl,rfl,hl1,aW (by lia),?_⟩;have nn:n≠l:=kN hn1 hl1 (fun z=>by cases z);have hn2:upd H1 l (.lst (ts++[.ref t])) n=some (.ins CN dx (oW m l)):=by rw[aM nn];exact hn1
 have hl2:upd H1 l (.lst (ts++[.ref t])) l=some (.lst (ts++[.ref t])):=aB;refine⟨_,rfl,n,CN,dx,_,_,rfl,hn2,NTx.cl,NTx.nK,iH _ _,l,_,rfl,.inl (SqL.of hl2),_,_,rfl,rfl,?_⟩;show Q (.int (((ts++[V.ref t]).length:Int) - 1)) _;rw[List.length_append,length_singleton,len,show (((ds.length+1:Nat):Int) - 1)=(ds.length:Int) by lia];refine q _ (st.x.write) ⟨⟨dx,hn2⟩,_,hl2,Rts.upd hl1 ((hR.same st).app (.cons et (st.fq fz) .nil))⟩
theorem Ts:(["told"]:List Str).Nodup:=by decide +kernel
abbrev Mw:Stmt:=cN (top 39) 5
theorem Wd:aQ ["self"] ["self"] (aH Mw):=sK9 rfl rfl rfl rfl (by decide +kernel)
theorem Tj {dV:Value}{CN:Addr}(F:aU K "rows" "Net.rows" Mw dV f fd)(NTx:NT K mg CN)(G1:aJ P w K mg base CX0 3 g1 gd1 ["told"] (oI K CK))(b1:aP K gd1 ["told"] [])(k1:kI9 K g1)(m1:mI9 mg "row_of" g1):aJ P w K mg base CX 4 f fd ["self"] (yU CN K CK):=by
 refine F.ok Wd (fun vs H Q E h=>?_) fun cdv A outer s H vs Q E hr h=>?_
 ·obtain⟨_,_,_,_,rfl,_⟩:=h;rfl
 obtain⟨n,l,m,ds,rfl,⟨⟨dx,hn⟩,ts,hl,hR⟩,h100,q⟩:=h;refine⟨_,(aF (aX (cL (nl:=1) (fr:=[]) (Nc:=["told"]) (cl:=[]) rfl ⟨rfl,rfl,by decide +kernel,by decide +kernel,fun x c h=>(by cases h),cC rfl,rfl,fun i n h=>(by simp at h)⟩
    (bO (cK (pv 0) rfl)) (fun C s3 H3 fp pins=>(aR (i:=0) Ts rfl (Or.inl rfl))) (fun C s3 H3 fp pins=>cA)
    (fun C s3 H3 fp pins=>(aI G1 hr rfl m1 k1 b1 .nil aS (aA (pv 0) aC)))))),?_⟩
 have len:=hR.length;refine⟨_,rfl,n,CN,dx,_,_,rfl,hn,NTx.cl,NTx.nK,iH _ _,l,rfl,⟨_,SqL.of hl⟩,fun D hD=>?_⟩;have sD:=aD hD (.lst []);refine bX (xs:=ts) (fun i zs H'=>aK H H'/\H' D=some (.lst zs)/\gZ CK K H' zs (ds.take i)) ⟨sD,aB,.nil⟩ (fun i zs H' h=>h.2.1) (fun i zs H' _ h=>h.1.seq (SqL.of hl)) ?_ ?_
 ·rintro i zs x H1 hx ⟨s1,e1,R1⟩ C hC;have hi:i < ds.length:=by
   have:=(List.getElem?_eq_some_iff.mp hx).1;lia
  obtain⟨⟨k,u,v,p⟩,hd⟩:∃d,ds[i]?=some d:=⟨_,getElem?_eq_getElem hi⟩
  obtain⟨t,z,et,ht,fz⟩:=hR.at hd;have ex:x=.ref t:=by rw[et] at hx;exact(Option.some.inj hx).symm
  subst ex;have lz:=R1.length;rw[length_take] at lz;refine⟨bU.1,bU.2,cT ?_⟩;refine⟨_,rfl,t,_,_,_,_,rfl,s1.seqT ht,k,rfl,fun y H2 s2 ny rw=>?_⟩;have e2:=s2 _ _ e1;refine⟨e2,aW (by lia),hC _ _ ⟨(s1.trans s2).change hD,aB,?_⟩⟩;rw[take_add_one,hd];exact gZ.upd e2 ((R1.same s2).app (.cons rw ((s1.trans s2).fq fz) .nil))
 ·rintro zs H1 ⟨s1,e1,R1⟩;rw[len,take_length] at R1;exact q D zs H1 s1 hD e1 R1
theorem Ae {g:Addr}{gd:FuncData}(F:aJ P w K mg base CX0 2 g gd ["thing"] (Lm K)):aJ P w K mg base CX0 2 g gd ["thing"] (Lr K):=
 F.weak fun vs H Q E h=>by
  obtain⟨a,p,rfl,f,l,q⟩:=h;exact⟨_,some p,rfl,.fr f l,q⟩
theorem Fg {X:Cx}{K:Frag}{e:Expr}{f:Str}{pos:Pos}{ta:TE}(h:X.K=K)(he:PE X e ta)(hb:attributeBase e f X.env (eval e X.env)=eval e X.env):PE X (.Attribute e f pos) (Zs K ta f):=by subst h;exact cK he hb
abbrev Dr:Stmt:=top 21
theorem Qx:aQ ["one","other"] ["one","other"] (aH Dr):=sK9 rfl rfl rfl rfl (by decide +kernel)
theorem On {dV:Value}(F:aU K "times" "times" Dr dV f fd)(G1:aJ P w K mg base CX0 2 g1 gd1 ["top","bottom"] nU)(b1:aP K gd1 ["top","bottom"] [])(k1:kI9 K g1)(m1:mI9 mg "fraction" g1) :
  aJ P w K mg base CX 3 f fd ["one","other"] (lD K rD):=by
 refine F.ok Qx (fun vs H Q E h=>?_) fun cdv A outer s H vs Q E hr h=>?_
 ·obtain⟨_,_,_,_,_,_,rfl,_⟩:=h;rfl
 obtain⟨a,b,p,q,n,m,rfl,ha,hb,lp,lq,bp,bq,hn,z⟩:=h;refine⟨_,aF (aX (aI G1 hr rfl m1 k1 b1 .nil aS (aA
  (aZ cZ (aY bC (pv 0) aG (fun _ _=>rfl)) (aY bC (pv 1) aG (fun _ _=>rfl)))
  (aA (aZ cZ (aY bC (pv 0) aG (fun _ _=>rfl)) (aY bC (pv 1) aG (fun _ _=>rfl))) aC)))),?_⟩
 refine eX rfl ha (eX rfl hb (dC bp.a bq.a (by lia) (by lia) ?_));refine cW rfl ha (cW rfl hb (dC bp.b bq.b (by lia) (by lia) ⟨_,_,n+m,rfl,hG lp lq,bp.b.mul bq.b,by lia,z⟩))
abbrev Ko:Stmt:=top 22
theorem Yi:aQ ["one","other"] ["one","other"] (aH Ko):=sK9 rfl rfl rfl rfl (by decide +kernel)
theorem Sj {dV:Value}(F:aU K "over" "over" Ko dV f fd)(G1:aJ P w K mg base CX0 2 g1 gd1 ["top","bottom"] nU)(b1:aP K gd1 ["top","bottom"] [])(k1:kI9 K g1)(m1:mI9 mg "fraction" g1) :
  aJ P w K mg base CX 3 f fd ["one","other"] (Mo K):=by
 refine F.ok Yi (fun vs H Q E h=>?_) fun cdv A outer s H vs Q E hr h=>?_
 ·obtain⟨_,_,_,_,_,_,rfl,_⟩:=h;rfl
 obtain⟨a,b,p,q,n,m,rfl,ha,hb,lp,lq,h0,bp,bq,hn,z⟩:=h;refine⟨_,(aE (cS (bK gQ (aY bC (pv 1) aG (fun _ _=>rfl)) aG (bN _)) (aF iI) bM)
  (aF (aX (aI G1 hr rfl m1 k1 b1 .nil aS (aA (aZ cZ (aY bC (pv 0) aG (fun _ _=>rfl)) (aY bC (pv 1) aG (fun _ _=>rfl))) (aA (aZ cZ (aY bC (pv 0) aG (fun _ _=>rfl)) (aY bC (pv 1) aG (fun _ _=>rfl))) aC)))))),?_⟩
 refine eX rfl hb ⟨rfl,_,rfl,?_⟩;rw[decide_eq_false (fun e=>absurd (show q.1=0 by injection e) (by lia))];refine eH ?_;refine eX rfl ha (cW rfl hb (dC bp.a bq.b (by lia) (by lia) ?_));exact cW rfl ha (eX rfl hb (dC bp.b bq.a (by lia) (by lia) ⟨_,_,n+m,rfl,Mq.sI lp (by lia),bp.b.mul bq.a,by lia,z⟩))
abbrev Eb:Stmt:=top 24
theorem rY:aQ ["some","so_far","one"] ["some"] (aH Eb):=sK9 rfl rfl rfl rfl (by decide +kernel)
theorem Nb {dV:Value}{aN:Addr}(F:aU K "total" "total" Eb dV f fd)(fN:∀H,Fq K H aN (0,1))(mNO:mI9 mg "NOUGHT" aN)(G2:aJ P w K mg base CX0 3 g2 gd2 ["one","other"] (lD K kI))(b2:aP K gd2 ["one","other"] [])(k2:kI9 K g2)(m2:mI9 mg "plus" g2) :
  aJ P w K mg base CX 4 f fd ["some"] (Oo K):=by
 refine F.ok rY (fun vs H Q E h=>?_) fun cdv A outer s H vs Q E hr h=>?_
 ·obtain⟨_,_,_,_,rfl,_⟩:=h;rfl
 obtain⟨a,xs,ps,w0,rfl,hS,hF,hP,hW,hn,z⟩:=h;refine⟨_,aE (aV (i:=1) rY.nd rfl (Or.inl rfl) (eV (v:=.ref aN) rfl mNO rfl))
  (aE (dP PassesOwn.never rfl (bO (pv 0)) (aR (i:=2) rY.nd rfl (Or.inl rfl)) (aF (aV (i:=1) rY.nd rfl (Or.inl rfl) (aI G2 hr rfl m2 k2 b2 .nil aS (aA (pv 1) (aA (pv 2) aC))))))
  (aF (aX (pv 1)))),?_⟩
 have hl:=hF.length;refine⟨_,rfl,a,rfl,⟨_,hS⟩,?_⟩;refine dW (xs:=xs) (fun i σ H'=>aK H H'/\∃r y,σ=[some (.ref a),some (.ref r),y]/\Fq K H' r (tot (ps.take i))) ⟨aK.refl H,aN,none,rfl,fN H⟩ (fun i σ H' _ h=>h.1.seq hS) ?_ ?_
 ·rintro i x σ H' hx ⟨sH,r,y,rfl,er⟩;obtain⟨ap,p,rfl,hp,fp⟩:=hF.get hx;have hi:i < ps.length:=(List.getElem?_eq_some_iff.mp hp).1;have mem:p∈ps:=mem_of_getElem? hp;have pt:Mq.Pos (ps.take i):=fun f hf=>hP f (mem_of_mem_take hf);obtain⟨w',n,hw',bn,hle⟩:=hW.at hp;have bt:=hw'.tot pt;refine⟨_,rfl,_,rfl,r,ap,tot (ps.take i),p,_,n,rfl,er,sH.fq fp,(Hg pt).pos,hP p mem,bt,bn,by lia,fun a1 H1 s1 e1=>?_⟩;refine⟨sH.trans s1,a1,_,rfl,?_⟩;have ee:ps.take (i+1)=ps.take i++[p]:=by rw[take_add_one,hp];rfl
  have et:tot (ps.take (i+1))=kI (tot (ps.take i)) p:=by
   rw[ee];unfold tot;rw[foldl_append];rfl
  rw[et];exact Fq.of e1
 ·rintro σ H' ⟨sH,r,y,rfl,er⟩;refine⟨_,rfl,?_⟩;refine z r H' sH ?_;rw[hl,take_length] at er;exact er
abbrev Ck:Stmt:=top 59
theorem Sr:aQ ["line","column","amount"] ["line","column","amount"] (aH Ck):=sK9 rfl rfl rfl rfl (by decide +kernel)
theorem Lv {dV:Value}(F:aU K "raise_at" "raise_at" Ck dV f fd)(G1:aJ P w K mg base CX0 3 g1 gd1 ["one","other"] (lD K kI))(b1:aP K gd1 ["one","other"] [])(k1:kI9 K g1)(m1:mI9 mg "plus" g1) :
  aJ P w K mg base CX 4 f fd ["line","column","amount"] (yS K):=by
 refine F.ok Sr (fun vs H Q E h=>?_) fun cdv A outer s H vs Q E hr h=>?_
 ·obtain⟨_,_,_,_,_,_,_,_,rfl,_⟩:=h;rfl
 obtain⟨l,z,j,xs,ps,a,n,m,rfl,hl,hF,hj,p1,bp,fz,a1,ba,hn,q⟩:=h;refine⟨_,(aF (uR (aI G1 hr rfl m1 k1 b1 .nil aS (aA (aY cF (pv 0) (pv 1) (fun _ _=>rfl)) (aA (pv 2) aC))) (tY (pv 0) (pv 1) kY))),?_⟩;have lx:=hF.length;obtain⟨u,eu,fu⟩:=hF.at (Pq hj);refine⟨_,rfl,_,rfl,l,xs,_,_,rfl,rfl,SqL.of hl,cH eu,_,rfl,u,z,_,a,n,m,rfl,fu,fz,p1,a1,bp,ba,hn,fun v H1 s1 e1=>?_⟩;exact⟨_,rfl,_,rfl,l,xs,_,j,rfl,rfl,s1 _ _ hl,pH (by lia),q v H1 s1 (Fq.of e1)⟩
abbrev Dz:Stmt:=top 58
theorem Sc:aQ ["matrix","row","column","amount"] ["matrix","row","column","amount"] (aH Dz):=sK9 rfl rfl rfl rfl (by decide +kernel)
theorem Oi {dV:Value}(F:aU K "enter_stream" "enter_stream" Dz dV f fd)(T:RT K mg CR CK){aN:Addr}(fN:∀H,Fq K H aN (0,1))(mNO:mI9 mg "NOUGHT" aN)(G1:aJ P w K mg base CX0 4 g1 gd1 ["line","column","amount"] (yS K))(b1:aP K gd1 ["line","column","amount"] [])(k1:kI9 K g1)(m1:mI9 mg "raise_at" g1)(G2:aJ P w K mg base CX0 3 g2 gd2 ["one","other"] (lD K eQ))(b2:aP K gd2 ["one","other"] [])(k2:kI9 K g2)(m2:mI9 mg "minus" g2) :
  aJ P w K mg base CX 5 f fd ["matrix","row","column","amount"] (Gn K CK):=by
 refine F.ok Sc (fun vs H Q E h=>?_) fun cdv A outer s H vs Q E hr h=>?_
 ·obtain⟨_,_,_,_,_,_,_,_,_,_,_,_,rfl,_⟩:=h;rfl
 obtain⟨D,x,z,zz,as,M,⟨k0,u,v,p⟩,w,n,k,c,a,rfl,mx,mb,rw,pt,hc,fz,la,ba,hn,q⟩:=h;have r3:=hr.mono (show 3<=4 by lia);refine⟨_,(aE (cG (aI G1 hr rfl m1 k1 b1 .nil aS (aA (aY cF (pv 0) (cK (pv 1) rfl) (fun _ _=>rfl)) (aA (pv 2) (aA (pv 3) aC)))))
  (aF (cG (aI G1 hr rfl m1 k1 b1 .nil aS (aA (aY cF (pv 0) (cK (pv 1) rfl) (fun _ _=>rfl)) (aA (pv 2) (aA (aI G2 r3 rfl m2 k2 b2 .nil aS (aA (eV (v:=.ref aN) rfl mNO rfl) (aA (pv 3) aC))) aC))))))),?_⟩
 obtain⟨i0,i1,j0,j1⟩:fR (w:Int) u v:=pt;obtain⟨uN,rfl⟩:∃uN:Nat,u=(uN:Int):=⟨u.toNat,by lia⟩
 obtain⟨vN,rfl⟩:∃vN:Nat,v=(vN:Int):=⟨v.toNat,by lia⟩
 have hu':uN < w:=by lia
 have hv':vN < w:=by lia
 obtain⟨ln,bn,_⟩:=qN la ba;obtain⟨dx,hx⟩:=id rw;obtain⟨e1,m1,w1⟩:=mb.row hu';obtain⟨e2,l2,b2⟩:=mb.at hu' hc;have lam:=mx.la;obtain⟨a1,ha1⟩:∃a1,as[uN]?=some a1:=⟨_,getElem?_eq_getElem (by rw[lam,mb.h];exact hu')⟩
 obtain⟨xs,hxs,hF⟩:=mx.r uN a1 _ ha1 e1;have at1:atI (as.map V.ref) (uN:Int)=some (.ref a1):=cH (by rw[getElem?_map,ha1];rfl);refine⟨_,rfl,_,rfl,x,CK _,_,_,_,rfl,hx,T.cl _,T.nS _,gP _ _ _,D,_,_,_,rfl,rfl,SqL.of mx.d,at1,_,rfl,_,rfl,a1,z,c,xs,_,a,n,k,rfl,hxs,hF,by rw[w1];exact hc,l2.pos,b2,fz,la.pos,ba,by lia,fun v1 H1 s1 f1=>?_⟩;obtain⟨mx2,sx2⟩:=mx.set (j:=c) ha1 e1 hxs hF s1 f1;have mb2:=mb.rz hu' hc la ba;generalize upd H1 a1 (.lst (xs.set c (.ref v1)))=H2 at mx2 sx2 ⊢;have mx2:Mx K H2 D as (rz M uN c a):=mx2;have ls:=mx.lsts;have fz2:Fq K H2 z a:=sx2.seqT ls fz;obtain⟨dx2,hx2⟩:=id (sx2.rw ls rw);obtain⟨e3,m3,w3⟩:=mb2.row hv';obtain⟨e4,l4,b4⟩:=mb2.at hv' hc;obtain⟨a2,ha2⟩:∃a2,as[vN]?=some a2:=⟨_,getElem?_eq_getElem (by rw[lam,mb.h];exact hv')⟩
 obtain⟨xs2,hxs2,hF2⟩:=mx2.r vN a2 _ ha2 e3;have at2:atI (as.map V.ref) (vN:Int)=some (.ref a2):=cH (by rw[getElem?_map,ha2];rfl);have b01:Bd 1 (0,1):=⟨show (0:Nat) < 2 ^ 1 by decide,show (1:Nat) < 2 ^ 1 by decide⟩
 refine⟨_,rfl,_,rfl,x,CK _,_,_,_,rfl,hx2,T.cl _,T.nG _,iG _ _ _,D,_,_,_,rfl,rfl,SqL.of mx2.d,at2,_,rfl,_,rfl,aN,z,(0,1),a,1,k,rfl,fN _,fz2,by decide,la.pos,b01,ba,by lia,fun v3 H3 s3 e5=>?_⟩;refine⟨a2,v3,c,xs2,_,_,n+k+1,k+2,rfl,s3 _ _ hxs2,hF2.same s3,by rw[w3];exact hc,l4.pos,b4,Fq.of e5,ln.pos,bn,by lia,fun v4 H4 s4 f4=>?_⟩;obtain⟨mx3,sx3⟩:=(mx2.same s3).set (j:=c) ha2 e3 (s3 _ _ hxs2) (hF2.same s3) s4 f4;exact q _ (sx2.trans (s3.sx.trans sx3)) mx3
abbrev yG:Stmt:=top 56
theorem Cf:aQ ["matrix","row","share"] ["matrix","row"] (aH yG):=sK9 rfl rfl rfl rfl (by decide +kernel)
theorem Jh {dV:Value}(F:aU K "enter_piece" "enter_piece" yG dV f fd)(T:RT K mg CR CK){aN aO:Addr}(fN:∀H,Fq K H aN (0,1))(mNO:mI9 mg "NOUGHT" aN)(fO:∀H,Fq K H aO (1,1))(mON:mI9 mg "ONE" aO)(G1:aJ P w K mg base CX0 3 g1 gd1 ["one","other"] (Mo K))(b1:aP K gd1 ["one","other"] [])(k1:kI9 K g1)(m1:mI9 mg "over" g1)(G2:aJ P w K mg base CX0 5 g2 gd2 ["matrix","row","column","amount"] (Gn K CK))(b2:aP K gd2 ["matrix","row","column","amount"] [])(k2:kI9 K g2)(m2:mI9 mg "enter_stream" g2)(G3:aJ P w K mg base CX0 3 g3 gd3 ["one","other"] (lD K eQ))(b3:aP K gd3 ["one","other"] [])(k3:kI9 K g3)(m3:mI9 mg "minus" g3) :
  aJ P w K mg base CX 6 f fd ["matrix","row"] (Ar K CK):=by
 refine F.ok Cf (fun vs H Q E h=>?_) fun cdv A outer s H vs Q E hr h=>?_
 ·obtain⟨_,_,_,_,_,_,_,_,_,rfl,_⟩:=h;rfl
 obtain⟨D,x,zz,as,M,⟨k0,u,v,p⟩,w,n,k,rfl,mx,mb,rw,fp,pt,lp,p0,bp,hn,q⟩:=h;have r3:=hr.mono (show 3<=5 by lia);refine⟨_,(aE (aV (i:=2) Cf.nd rfl (Or.inl rfl) (aI G1 r3 rfl m1 k1 b1 .nil aS (aA (eV (v:=.ref aO) rfl mON rfl) (aA (cK (pv 1) rfl) aC))))
  (aE (cG (aI G2 hr rfl m2 k2 b2 .nil aS (aA (pv 0) (aA (pv 1) (aA (cK (pv 1) rfl) (aA (pv 2) aC))))))
  (aF (cG (aI G2 hr rfl m2 k2 b2 .nil aS (aA (pv 0) (aA (pv 1) (aA (cK (pv 1) rfl) (aA (aI G3 r3 rfl m3 k3 b3 .nil aS (aA (eV (v:=.ref aN) rfl mNO rfl) (aA (pv 2) aC))) aC))))))))),?_⟩
 have lp:Low p:=lp;have p0:0 < p.1:=p0;have bp:Bd k p:=bp;have fp:Fq K H zz p:=fp;obtain⟨i0,i1,j0,j1⟩:fR (w:Int) u v:=pt;obtain⟨uN,rfl⟩:∃uN:Nat,u=(uN:Int):=⟨u.toNat,by lia⟩
 obtain⟨vN,rfl⟩:∃vN:Nat,v=(vN:Int):=⟨v.toNat,by lia⟩
 obtain⟨ls,bs,_⟩:=Aw lp p0 bp;obtain⟨ln,bn,_⟩:=qN ls bs;have pt':fR (w:Int) (uN:Int) (vN:Int):=⟨i0,i1,j0,j1⟩
 obtain⟨dx,hx⟩:=id rw;refine⟨_,rfl,x,CK _,_,_,_,rfl,hx,T.cl _,T.nZ _,jO _ _ _,aO,zz,(1,1),p,1,k,rfl,fO _,fp,h11,lp.pos,p0,Lq,bp,by lia,fun s' H1 s1 e1=>?_⟩;have fs:Fq K H1 s' (rG (1,1) p):=Fq.of e1;have rw1:=rw.same s1;obtain⟨dx1,hx1⟩:=id rw1;have mx1:=mx.same s1;refine⟨_,rfl,_,rfl,_,rfl,x,CK _,_,_,_,rfl,hx1,T.cl _,T.nS _,gP _ _ _,_,rfl,D,x,s',_,as,M,(k0,(uN:Int),(vN:Int),p),w,n,k+1,uN,_,rfl,mx1,mb,rw1,pt',by lia,fs,ls,bs,by lia,fun H2 sx2 mx2=>?_⟩;have lst:=mx1.lsts;have fs2:Fq K H2 s' (rG (1,1) p):=sx2.seqT lst fs;have rw2:=sx2.rw lst rw1;obtain⟨dx2,hx2⟩:=id rw2;obtain⟨mb2,_⟩:=Kn (d:=(k0,(uN:Int),(vN:Int),p)) mb pt' (c:=uN) (by lia) ls bs;have b01:Bd 1 (0,1):=⟨show (0:Nat) < 2 ^ 1 by decide,show (1:Nat) < 2 ^ 1 by decide⟩
 refine⟨_,rfl,_,rfl,_,rfl,x,CK _,_,_,_,rfl,hx2,T.cl _,T.nG _,iG _ _ _,_,rfl,aN,s',(0,1),_,1,k+1,rfl,fN _,fs2,by decide,ls.pos,b01,bs,by lia,fun v3 H3 s3 e3=>?_⟩;refine⟨D,x,v3,_,as,_,(k0,(uN:Int),(vN:Int),p),w,n+2*(k+1)+4,k+3,vN,_,rfl,mx2.same s3,mb2,rw2.same s3,pt',by lia,Fq.of e3,ln,bn,by lia,fun H4 sx4 mx4=>?_⟩;exact q H4 (s1.sx.trans (sx2.trans (s3.sx.trans sx4))) mx4
abbrev zF:Stmt:=top 57
theorem La:aQ ["right","row"] ["right","row"] (aH zF):=sK9 rfl rfl rfl rfl (by decide +kernel)
theorem Jl {dV:Value}(F:aU K "enter_push" "enter_push" zF dV f fd)(T:RT K mg CR CK){aN:Addr}(fN:∀H,Fq K H aN (0,1))(mNO:mI9 mg "NOUGHT" aN)(G1:aJ P w K mg base CX0 4 g1 gd1 ["line","column","amount"] (yS K))(b1:aP K gd1 ["line","column","amount"] [])(k1:kI9 K g1)(m1:mI9 mg "raise_at" g1)(G2:aJ P w K mg base CX0 3 g2 gd2 ["one","other"] (lD K eQ))(b2:aP K gd2 ["one","other"] [])(k2:kI9 K g2)(m2:mI9 mg "minus" g2) :
  aJ P w K mg base CX 5 f fd ["right","row"] (Bq K CK):=by
 refine F.ok La (fun vs H Q E h=>?_) fun cdv A outer s H vs Q E hr h=>?_
 ·obtain⟨_,_,_,_,_,_,_,_,_,rfl,_⟩:=h;rfl
 obtain⟨R,x,zz,ys,rs,⟨k0,u,v,p⟩,w,n,k,rfl,eR,hF,lb,rw,fp,pt,lp,bp,hn,q⟩:=h;have r3:=hr.mono (show 3<=4 by lia);refine⟨_,(aE (cG (aI G1 hr rfl m1 k1 b1 .nil aS (aA (pv 0) (aA (cK (pv 1) rfl) (aA (aI G2 r3 rfl m2 k2 b2 .nil aS (aA (eV (v:=.ref aN) rfl mNO rfl) (aA (cK (pv 1) rfl) aC))) aC)))))
  (aF (cG (aI G1 hr rfl m1 k1 b1 .nil aS (aA (pv 0) (aA (cK (pv 1) rfl) (aA (cK (pv 1) rfl) aC))))))),?_⟩
 have lp:Low p:=lp;have bp:Bd k p:=bp;have fp:Fq K H zz p:=fp;obtain⟨i0,i1,j0,j1⟩:fR (w:Int) u v:=pt;obtain⟨uN,rfl⟩:∃uN:Nat,u=(uN:Int):=⟨u.toNat,by lia⟩
 obtain⟨vN,rfl⟩:∃vN:Nat,v=(vN:Int):=⟨v.toNat,by lia⟩
 obtain⟨ln,bn,_⟩:=qN lp bp;obtain⟨dx,hx⟩:=id rw;obtain⟨_,l1,b1⟩:=lb.at (j:=uN) (by lia);have b01:Bd 1 (0,1):=⟨show (0:Nat) < 2 ^ 1 by decide,show (1:Nat) < 2 ^ 1 by decide⟩
 refine⟨_,rfl,_,rfl,x,CK _,_,_,_,rfl,hx,T.cl _,T.nS _,gP _ _ _,_,rfl,x,CK _,_,_,_,rfl,hx,T.cl _,T.nZ _,jO _ _ _,aN,zz,(0,1),p,1,k,rfl,fN _,fp,by decide,lp.pos,b01,bp,by lia,fun v1 H1 s1 e1=>?_⟩;refine⟨R,v1,uN,ys,rs,_,n,k+2,rfl,s1 _ _ eR,hF.same s1,by rw[lb.w];lia,l1.pos,b1,Fq.of e1,ln.pos,bn,by lia,fun v2 H2 s2 f2=>?_⟩;have s12:=s1.trans s2;have eR2:=s12 _ _ eR;have F3:=(Fqs.set f2 uN (hF.same s12)).upd (o:=.lst (ys.set uN (.ref v2))) eR2;have e3:upd H2 R (.lst (ys.set uN (.ref v2))) R=some (.lst (ys.set uN (.ref v2))):=aB;have sx3:SX [R] H (upd H2 R (.lst (ys.set uN (.ref v2)))):=s12.sx.write (by simp);have fp3:Fq K (upd H2 R (.lst (ys.set uN (.ref v2)))) zz p:=SqT.upd (s12.fq fp) eR2;have rw3:=(rw.same s12).upd (o:=.lst (ys.set uN (.ref v2))) eR2;generalize upd H2 R (.lst (ys.set uN (.ref v2)))=H3 at F3 e3 sx3 fp3 rw3 ⊢;have lb3:=lb.rz (j:=uN) (by lia) ln bn;have F3:Fqs K H3 (ys.set uN (.ref v2)) (rzl rs uN (eQ (0,1) p)):=F3;obtain⟨_,l4,b4⟩:=lb3.at (j:=vN) (by lia);obtain⟨dx3,hx3⟩:=id rw3;refine⟨_,rfl,_,rfl,x,CK _,_,_,_,rfl,hx3,T.cl _,T.nG _,iG _ _ _,_,rfl,x,CK _,_,_,_,rfl,hx3,T.cl _,T.nZ _,jO _ _ _,R,zz,vN,_,_,p,n+(k+2)+1,k,rfl,e3,F3,by rw[lb3.w];lia,l4.pos,b4,fp3,lp.pos,bp,by lia,fun v5 H5 s5 f5=>?_⟩;refine q _ _ (sx3.trans (s5.sx.write (by simp))) aB ?_;exact(Fqs.set f5 vN (F3.same s5)).upd (s5 _ _ e3)
end
open Shp
section
variable {P:Program} {w:World} {K:Frag} {mg:Str->Option Value} {base:Heap} {f g1 g2 g3 g4 g5 g6 g7 g8:Addr} {fd gd1 gd2 gd3 gd4 gd5 gd6 gd7 gd8:FuncData} {CX:CXT}
variable {CR:Addr} {CK:Kd->Addr} {fW fJ fT fS:Kd->Addr} {fdW fdJ fdT fdS:Kd->FuncData}
theorem vK:(["one","bottom"]:List Str).Nodup:=by decide +kernel
abbrev sIW:Stmt:=top 47
theorem Tn:aQ ["some","bottom","one"] ["some"] (aH sIW):=sK9 rfl rfl rfl rfl (by decide +kernel)
theorem qa8 {dV:Value}(F:aU K "in_wholes" "in_wholes" sIW dV f fd)(G1:aJ P w K mg base CX0 1 g1 gd1 ["one","other"] Ry)(b1:aP K gd1 ["one","other"] [])(k1:kI9 K g1)(m1:mI9 mg "greatest_common" g1) :
  aJ P w K mg base CX 2 f fd ["some"] (Pw K):=by
 refine F.ok Tn (fun vs H Q E h=>?_) fun cdv A outer s H vs Q E hr h=>?_
 ·obtain⟨_,_,_,_,rfl,_⟩:=h;rfl
 obtain⟨a,xs,ps,n,rfl,hS,hF,hP,hB,h100,hn,q⟩:=h;refine⟨_,(aE (aV (i:=1) Tn.nd rfl (Or.inr rfl) aG)
  (aE (dP PassesOwn.never rfl (bO (pv 0)) (aR (i:=2) Tn.nd rfl (Or.inl rfl))
   (aF (aV (i:=1) Tn.nd rfl (Or.inr rfl) (aZ cZ (aZ kM (pv 1) (aI G1 hr rfl m1 k1 b1 .nil aS (aA (pv 1) (aA (aY bC (pv 2) aG (fun _ _=>rfl)) aC)))) (aY bC (pv 2) aG (fun _ _=>rfl))))))
  (aF (aX (cV (aA (cL (nl:=1) (fr:=[1]) (Nc:=["one","bottom"]) (cl:=[("bottom",s.heap.objs.size+1)]) rfl ⟨rfl,rfl,by decide +kernel,by decide +kernel,fun x c h=>h,cC rfl,rfl,fun i n h=>match i,h with | 0,h=>by cases h;exact⟨1,rfl,rfl,rfl,rfl,.inl rfl⟩ | k+1,h=>by rw[show 1+(k+1)=k+2 by lia] at h;cases h⟩
    (bO (pv 0)) (fun C s3 H3 fp pins=>(aR (i:=0) vK rfl (Or.inl rfl))) (fun C s3 H3 fp pins=>cA)
    (fun C s3 H3 fp pins=>(aZ cZ (aY (lU (K:=K) rfl) (pv 0) aG (fun _ _=>rfl)) (aZ kM (pv 1) (aY (lU (K:=K) rfl) (pv 0) aG (fun _ _=>rfl)))))) (aA (pv 1) aC))))))),?_⟩
 have lx:=hF.length;refine⟨_,rfl,a,rfl,⟨_,hS⟩,?_⟩;refine dW (xs:=xs) (fun i σ H'=>H'=H/\i<=ps.length/\∃z,σ=[some (.ref a),some (.int (cO (ps.take i))),z]) ⟨rfl,Nat.zero_le _,none,rfl⟩ (fun i σ H' _ h=>by rw[h.1];exact hS) ?_ ?_
 ·rintro i x σ H' hx ⟨rfl,hi,z,rfl⟩;obtain⟨u,p,rfl,ep,fu⟩:=hF.get hx;have hi':i < ps.length:=(List.getElem?_eq_some_iff.mp ep).1;obtain⟨f1,f2,_⟩:=mZ hP hB i hi;have mono:=Nat.mul_le_mul_left n hi;have hp:=hP p (mem_of_getElem? ep);have pb:=(hB p (mem_of_getElem? ep)).b;have g0:gc (cO (ps.take i)) p.2≠0:=by have:=Mq.uK (a:=cO (ps.take i)) (show p.2≠0 by lia);lia
  have gb:Mq.B n (gc (cO (ps.take i)) p.2):=by
   have:=Lh (t:=cO (ps.take i)) (show p.2≠0 by lia);rw[Rl (by lia)] at this;exact pb.le this
  have qb:Mq.B (1+n*i) (Int.fdiv (cO (ps.take i)) (gc (cO (ps.take i)) p.2)):=by
   have d1:gc (cO (ps.take i)) p.2 ∣ cO (ps.take i):=by unfold gc;exact Int.gcd_dvd_left ..
   obtain⟨k,hk⟩:=d1;have:=Mq.iM g0 hk;rw[dQ g0 hk];exact f2.le this
  refine⟨_,rfl,_,rfl,cW rfl fu ⟨_,_,rfl,iN g0 gb (by lia) (cW rfl fu (dC qb pb (by lia) (by lia) ?_))⟩⟩;refine⟨rfl,hi',some (.ref u),?_⟩;rw[Mq.lQ ep];rfl
 rintro σ H' ⟨rfl,_,z,rfl⟩;rw[lx,take_length];obtain⟨f1,f2,f3⟩:=mZ hP hB ps.length (Nat.le_refl _);rw[take_length] at f1 f2 f3;refine⟨_,rfl,a,rfl,⟨_,hS⟩,fun D hD=>?_⟩;have sD:=aD hD (.lst []);refine bX (xs:=xs) (fun i zs H1=>aK H' H1/\H1 D=some (.lst zs)/\zs=((ps.take i).map (Dx (cO ps))).map V.int) ⟨sD,aB,rfl⟩ (fun i zs H1 h=>h.2.1) (fun i zs H1 _ h=>h.1.seq hS) ?_ ?_
 ·rintro i zs x H1 hx ⟨s1,e1,rfl⟩ C hC;obtain⟨u,p,rfl,ep,fu⟩:=hF.get hx;have hi':i < ps.length:=(List.getElem?_eq_some_iff.mp ep).1;have mem:=mem_of_getElem? ep;have hp:=hP p mem;obtain⟨k,hk⟩:=f3 p mem;have fu1:=s1.fq fu;have kb:Mq.B (1+n*ps.length) (Int.fdiv (cO ps) p.2):=by
   have e:=dQ (show p.2≠0 by lia) (show cO ps=p.2*k by rw[hk,Int.mul_comm]);rw[e];refine f2.le ?_;rw[hk,Int.natAbs_mul];exact Nat.le_mul_of_pos_right _ (by lia)
  refine⟨bU.1,bU.2,cT ?_⟩;refine eX rfl fu1 ⟨_,rfl,cW rfl fu1 (iN (show p.2≠0 by lia) (hB p mem).b (by lia) (dC (hB p mem).a kb (by lia) (by lia) ?_))⟩;refine⟨e1,aW (by rw[length_map,length_map,length_take];lia),hC _ _ ⟨s1.change hD,aB,?_⟩⟩;rw[take_add_one,ep,map_append,map_append];rfl
 rintro zs H1 ⟨s1,e1,rfl⟩;rw[lx,take_length] at e1;refine⟨_,rfl,zl9 2,fun t ht=>?_⟩;have s2:=aD ht (.tup [.ref D,.int (cO ps)]);exact q t D _ (s1.trans s2) hD (SqT.of aB) (s2 _ _ e1)
theorem zA:(["top","pivot"]:List Str).Nodup:=by decide +kernel
abbrev Ct:Stmt:=top 49
theorem Qu:aQ ["tops","pivot"] ["tops","pivot"] (aH Ct):=sK9 rfl rfl rfl rfl (by decide +kernel)
theorem Oa {dV:Value}(F:aU K "over_pivot" "over_pivot" Ct dV f fd)(G1:aJ P w K mg base CX0 2 g1 gd1 ["top","bottom"] nU)(b1:aP K gd1 ["top","bottom"] [])(k1:kI9 K g1)(m1:mI9 mg "fraction" g1) :
  aJ P w K mg base CX 3 f fd ["tops","pivot"] (Qf K):=by
 refine F.ok Qu (fun vs H Q E h=>?_) fun cdv A outer s H vs Q E hr h=>?_
 ·obtain⟨_,_,_,_,rfl,_⟩:=h;rfl
 obtain⟨l,ts,pq,n,rfl,hS,h100,h0,bP,hn,q⟩:=h;refine⟨_,(aF (aX (cL (nl:=1) (fr:=[1]) (Nc:=["top","pivot"]) (cl:=[("pivot",s.heap.objs.size+1)]) rfl ⟨rfl,rfl,by decide +kernel,by decide +kernel,fun x c h=>h,cC rfl,rfl,fun i n h=>match i,h with | 0,h=>by cases h;exact⟨1,rfl,rfl,rfl,rfl,.inl rfl⟩ | k+1,h=>by rw[show 1+(k+1)=k+2 by lia] at h;cases h⟩
    (bO (pv 0)) (fun C s3 H3 fp pins=>(aR (i:=0) zA rfl (Or.inl rfl))) (fun C s3 H3 fp pins=>cA)
    (fun C s3 H3 fp pins=>(aI G1 hr rfl m1 k1 b1 .nil aS (aA (pv 0) (aA (pv 1) aC))))))),?_⟩
 refine⟨_,rfl,l,rfl,⟨_,hS⟩,fun D hD=>?_⟩;have sD:=aD hD (.lst []);refine bX (xs:=ts.map V.int) (fun i zs H'=>aK H H'/\H' D=some (.lst zs)/\Fqs K H' zs ((ts.map fun t=>red t pq).take i)) ⟨sD,aB,.nil⟩ (fun i zs H' h=>h.2.1) (fun i zs H' _ h=>h.1.seq hS) ?_ ?_
 ·rintro i zs x H1 hx ⟨s1,e1,F1⟩ C hC;have hi:i < ts.length:=by have:=(List.getElem?_eq_some_iff.mp hx).1;simpa using this
  have ex:x=.int (ts.getD i 0):=by rw[iU hi] at hx;cases hx;rfl
  subst ex;have lz:=F1.length;rw[length_take,length_map] at lz;refine⟨bU.1,bU.2,cT ?_⟩;refine⟨_,rfl,_,rfl,_,_,n,rfl,h0,bP,by lia,fun r H2 s2 e2=>?_⟩;have eA:=s2 _ _ e1;refine⟨eA,aW (by lia),hC _ _ ⟨(s1.trans s2).change hD,aB,?_⟩⟩;rw[take_add_one,getElem?_map,jH hi];exact((F1.same s2).app (.cons (Fq.of e2) .nil)).upd eA
 rintro zs H1 ⟨s1,e1,F1⟩;rw[length_map,take_of_length_le (by simp)] at F1;exact q D zs H1 s1 hD e1 F1
abbrev Yn:Stmt:=top 51
theorem Vl:aQ ["rows","rank","column","place"] ["rows","rank","column"] (aH Yn):=sK9 rfl rfl rfl rfl (by decide +kernel)
theorem Ww {dV:Value}(F:aU K "pivot_place" "pivot_place" Yn dV f fd)(ml:mg "len"=none)(mr:mg "range"=none) :
  aJ P w K mg base CX 1 f fd ["rows","rank","column"] (Vf K):=by
 refine F.ok Vl (fun vs H Q E h=>?_) fun cdv A outer s H vs Q E hr h=>?_
 ·obtain⟨_,_,_,_,_,_,_,_,rfl,_⟩:=h;rfl
 obtain⟨l,D,zs,R,r,c,m,w',rfl,hS,hI,hm,hw,hc,hr',h100,q1,q2⟩:=h;refine⟨_,(aE (dP PassesOwn.never rfl (Kf rfl mr (aA (pv 1) (aA (bH bD rfl ml PySem.boot_len (aA (pv 0) aC)) aC))) (aR (i:=3) Vl.nd rfl (Or.inl rfl))
   (aF (cS (bK wL (aY cF (aY cF (pv 0) (pv 3) (fun _ _=>rfl)) (pv 2) (fun _ _=>rfl)) aG (bN _)) (aF (aX (pv 3))) bM)))
  (aF (aX yT))),?_⟩
 have lz:=hI.length;obtain⟨k,hk⟩:∃k,m=r+k:=⟨m - r,by lia⟩
 refine⟨_,rfl,_,rfl,l,zs,rfl,.inl hS,(r:Int),(zs.length:Int),rfl,⟨by lia,by lia,by lia,by lia⟩,?_⟩;rw[show ((zs.length:Int) - (r:Int)).toNat=k by lia];refine qD (lo:=(r:Int)) (n:=k) (fun i σ H'=>H'=H/\(∀j,r<=j->j < r+i->ent R j c=0)/\∃z,σ=[some (.ref l),some (.int (r:Int)),some (.int (c:Int)),z]) ⟨rfl,fun j h1 h2=>absurd h1 (by lia),none,rfl⟩ ?_ ?_
 ·rintro i σ H' hi ⟨rfl,hz,z,rfl⟩;obtain⟨u,eu,nu,hu⟩:=hI.at (i:=r+i) (by lia);have eu':atI zs ((r:Int)+(i:Int))=some (.ref u):=by have:=cH eu;rwa [Int.natCast_add] at this
  have ec:=cH (iU (l:=R.getD (r+i) []) (i:=c) (by rw[hw _ (by lia)];exact hc));refine⟨_,rfl,_,rfl,l,zs,_,_,rfl,rfl,hS,eu',_,rfl,u,_,_,_,rfl,rfl,SqL.of hu,ec,rfl,_,rfl,Ja (fun e=>?_) (fun e=>?_)⟩
  ·refine⟨_,rfl,?_⟩;have ne:ent R (r+i) c≠0:=fun z=>by
    have z':(R.getD (r+i) []).getD c 0=0:=z;rw[z'] at e;simp at e
   have:=q1 (r+i) (by lia) (by lia) ne
   rwa [Int.natCast_add] at this
  ·refine⟨rfl,fun j h1 h2=>?_,_,rfl⟩
   by_cases hj:j=r+i
   ·rw[hj];simp at e;exact e
   ·exact hz j h1 (by lia)
 ·rintro σ H' ⟨rfl,hz,z,rfl⟩;exact q2 fun i h1 h2=>hz i h1 (by lia)
theorem dI:(["here","above","own","other","divisor"]:List Str).Nodup:=by decide +kernel
abbrev Wj:Stmt:=top 53
theorem Li:aQ ["row","upper","column","divisor","own","other"] ["row","upper","column","divisor"] (aH Wj):=sK9 rfl rfl rfl rfl (by decide +kernel)
theorem Vq {dV:Value}(F:aU K "cleared" "cleared" Wj dV f fd)(mz:mg "zip"=none) :
  aJ P w K mg base CX 1 f fd ["row","upper","column","divisor"] (vP K):=by
 refine F.ok Li (fun vs H Q E h=>?_) fun cdv A outer s H vs Q E hr h=>?_
 ·obtain⟨_,_,_,_,_,_,_,rfl,_⟩:=h;rfl
 obtain⟨u,v,row,upper,c,n,dv,rfl,hu,hv,hl,h100,hc,hd,b1,b2,bd,hn,q⟩:=h;refine⟨_,(aE (aV (i:=4) Li.nd rfl (Or.inr rfl) (aY cF (pv 1) (pv 2) (fun _ _=>rfl)))
  (aE (aV (i:=5) Li.nd rfl (Or.inr rfl) (aY cF (pv 0) (pv 2) (fun _ _=>rfl)))
  (aF (aX (cL (nl:=2) (fr:=[4,5,3]) (Nc:=["here","above","own","other","divisor"]) (cl:=[("own",s.heap.objs.size+2),("other",s.heap.objs.size+3),("divisor",s.heap.objs.size+1)]) (g:=(Aa K 2 (iF (gD 0) (iF (gD 1) Ch)))) rfl ⟨rfl,rfl,by decide +kernel,by decide +kernel,(bG rfl (bG rfl (bG rfl (dA)))),cC rfl,rfl,fun i n h=>match i,h with | 0,h=>by cases h;exact⟨4,rfl,rfl,rfl,rfl,.inl rfl⟩ | 1,h=>by cases h;exact⟨5,rfl,rfl,rfl,rfl,.inl rfl⟩ | 2,h=>by cases h;exact⟨3,rfl,rfl,rfl,rfl,.inl rfl⟩ | k+3,h=>by rw[show 2+(k+3)=k+5 by lia] at h;cases h⟩
    (lK rfl mz rfl (aA (pv 0) (aA (pv 1) aC))) (fun C s3 H3 fp pins=>(gW rfl (bQ (aR (i:=0) dI rfl (Or.inl rfl)) (bQ (aR (i:=1) dI rfl (Or.inl rfl)) fE)))) (fun C s3 H3 fp pins=>cA)
    (fun C s3 H3 fp pins=>(aZ kM (aZ uJ (aZ cZ (pv 2) (pv 0)) (aZ cZ (pv 3) (pv 1))) (pv 4)))))))),?_⟩
 have e1:=cH (iU (l:=upper) (i:=c) (by lia));have e2:=cH (iU (l:=row) (i:=c) (by lia));refine⟨_,rfl,_,rfl,v,_,_,_,rfl,rfl,hv,e1,?_⟩;refine⟨_,rfl,_,rfl,u,_,_,_,rfl,rfl,hu,e2,?_⟩;refine⟨_,rfl,_,rfl,u,v,rfl,⟨_,hu⟩,⟨_,hv⟩,fun D hD=>?_⟩;have sD:=aD hD (.lst []);refine jA (xs:=row.map V.int) (ys:=upper.map V.int) (fun i zs H'=>aK H H'/\H' D=some (.lst zs)/\zs=((fZ upper row c dv).take i).map V.int) ⟨sD,aB,rfl⟩ (fun i zs H' h=>h.2.1) (fun i zs H' _ h=>⟨h.1.seq hu,h.1.seq hv⟩) ?_ ?_
 ·rintro i zs x y H1 T1 ex ey ⟨s1,e1',rfl⟩ hT C hC;have hi:i < row.length:=by have:=(List.getElem?_eq_some_iff.mp ex).1;simpa using this
  have ex':x=.int (row.getD i 0):=by rw[iU hi] at ex;cases ex;rfl
  have ey':y=.int (upper.getD i 0):=by rw[iU (by lia)] at ey;cases ey;rfl
  subst ex' ey';have sT:=aD hT (.tup [.int (row.getD i 0),.int (upper.getD i 0)]);refine⟨T1,_,rfl,SqT.of aB,rfl,_,_,rfl,_,_,rfl,rfl,iT.1,iT.2,cT ?_⟩;have mm:Mq.B (n+n+1) (upper.getD c 0*row.getD i 0 - row.getD c 0*upper.getD i 0):=Mq.B.sub ((b2 c).mul (b1 i)) ((b1 c).mul (b2 i));refine⟨_,rfl,_,rfl,dC (b2 c) (b1 i) (by lia) (by lia) ⟨_,rfl,_,rfl,dC (b1 c) (b2 i) (by lia) (by lia) ⟨_,_,rfl,rfl,_,rfl,iN hd bd (by lia) ?_⟩⟩⟩;have ll:(fZ upper row c dv).length=row.length:=by unfold fZ;rw[length_zipWith];lia
  have eA:=sT _ _ e1';refine⟨eA,aW (by rw[length_map,length_take];lia),hC _ _ ⟨(s1.trans sT).change hD,aB,?_⟩⟩;have eg:(fZ upper row c dv)[i]?=some (Int.fdiv (upper.getD c 0*row.getD i 0 - row.getD c 0*upper.getD i 0) dv):=by
   unfold fZ;rw[getElem?_zipWith,jH hi,jH (show i < upper.length by lia)]
  rw[take_add_one,eg,map_append];rfl
 rintro zs H1 ⟨s1,e1',rfl⟩;have ll:(fZ upper row c dv).length=row.length:=by unfold fZ;rw[length_zipWith];lia
 rw[length_map,length_map,take_of_length_le (by rw[ll];lia)] at e1';exact q D H1 s1 hD e1'
theorem cQ:(["place","row","upper","rank","divisor","column"]:List Str).Nodup:=by decide +kernel
abbrev tV:Stmt:=top 52
theorem wC:aQ ["rows","rank","column","divisor","upper"] ["rows","rank","column","divisor"] (aH tV):=sK9 rfl rfl rfl rfl (by decide +kernel)
theorem Dl {dV:Value}(F:aU K "cleared_rows" "cleared_rows" tV dV f fd)(men:mg "enumerate"=none)(G1:aJ P w K mg base CX0 1 g1 gd1 ["row","upper","column","divisor"] (vP K))(b1:aP K gd1 ["row","upper","column","divisor"] [])(k1:kI9 K g1)(m1:mI9 mg "cleared" g1) :
  aJ P w K mg base CX 2 f fd ["rows","rank","column","divisor"] (wI K):=by
 refine F.ok wC (fun vs H Q E h=>?_) fun cdv A outer s H vs Q E hr h=>?_
 ·obtain⟨_,_,_,_,_,_,_,_,_,_,rfl,_⟩:=h;rfl
 obtain⟨l,D0,zs,R,r,c,m,w',n,dv,rfl,hS,hI,hm,hw,hc,hw100,hr',h100,hd,hB,bd,hn,q⟩:=h;refine⟨_,(aE (aV (i:=4) wC.nd rfl (Or.inr rfl) (aY cF (pv 0) (pv 1) (fun _ _=>rfl)))
  (aF (aX (cL (nl:=2) (fr:=[4,1,3,2]) (Nc:=["place","row","upper","rank","divisor","column"]) (cl:=[("upper",s.heap.objs.size+4),("rank",s.heap.objs.size+1),("divisor",s.heap.objs.size+3),("column",s.heap.objs.size+2)]) (g:=(Aa K 2 (iF (gD 0) (iF (gD 1) Ch)))) rfl ⟨rfl,rfl,by decide +kernel,by decide +kernel,(bG rfl (bG rfl (bG rfl (bG rfl (dA))))),cC rfl,rfl,fun i n h=>match i,h with | 0,h=>by cases h;exact⟨4,rfl,rfl,rfl,rfl,.inl rfl⟩ | 1,h=>by cases h;exact⟨1,rfl,rfl,rfl,rfl,.inl rfl⟩ | 2,h=>by cases h;exact⟨3,rfl,rfl,rfl,rfl,.inl rfl⟩ | 3,h=>by cases h;exact⟨2,rfl,rfl,rfl,rfl,.inl rfl⟩ | k+4,h=>by rw[show 2+(k+4)=k+6 by lia] at h;cases h⟩
    (zC rfl men rfl (aA (pv 0) aC)) (fun C s3 H3 fp pins=>(gW rfl (bQ (aR (i:=0) cQ rfl (Or.inl rfl)) (bQ (aR (i:=1) cQ rfl (Or.inl rfl)) fE)))) (fun C s3 H3 fp pins=>cA)
    (fun C s3 H3 fp pins=>(uI (bK gQ (pv 0) (pv 3) (bN _)) (pv 1) (aI G1 hr rfl m1 k1 b1 .nil aS (aA (pv 1) (aA (pv 2) (aA (pv 5) (aA (pv 4) aC))))))))))),?_⟩
 have lz:=hI.length;obtain⟨v,ev,nv,hv⟩:=hI.at (i:=r) (by lia);refine⟨_,rfl,_,rfl,l,zs,_,_,rfl,rfl,hS,cH ev,?_⟩;refine⟨_,rfl,l,rfl,⟨_,hS⟩,fun D hD=>?_⟩;have sD:=aD hD (.lst []);have ll:=Mq.He R r c dv;refine Ic (xs:=zs) (fun i ys H'=>aK H H'/\H' D=some (.lst ys)/\Imx D H' ys ((bZ R r c dv).take i)) ⟨sD,aB,.nil⟩ (fun i ys H' h=>h.2.1) (fun i ys H' _ h=>h.1.seq hS) ?_ ?_
 ·rintro i ys x H1 T1 ex ⟨s1,e1,I1⟩ hT C hC;have hi:i < m:=by have:=(List.getElem?_eq_some_iff.mp ex).1;lia
  obtain⟨u,eu,nu,hu⟩:=hI.at (i:=i) (by lia);have exu:x=.ref u:=by rw[eu] at ex;cases ex;rfl
  subst exu;have lI:=I1.length;rw[length_take] at lI;have cg:=oX (R:=R) (i:=i) (by lia) r c dv;have cs:(bZ R r c dv).take (i+1)=(bZ R r c dv).take i++[(bZ R r c dv).getD i []]:=by
   rw[take_add_one,getD_eq_getElem?_getD,getElem?_eq_getElem (show i < (bZ R r c dv).length by lia)];rfl
  have sT:=aD hT (.tup [.int (i:Int),.ref u]);have uD:∀{x:Addr} {o:HO},H x=some o->x≠D:=fun h z=>by rw[z,hD] at h;cases h
  refine⟨T1,_,rfl,SqT.of aB,rfl,_,_,rfl,_,_,rfl,rfl,iT.1,iT.2,cT ?_⟩;generalize upd H1 T1 (.tup [.int (i:Int),.ref u])=H2 at sT ⊢;have sA:=s1.trans sT;have eA:=sT _ _ e1;refine⟨_,rfl,_,rfl,rfl,_,rfl,Ja (fun e=>?_) (fun e=>?_)⟩
  ·have ei:i=r:=by simp at e;lia
   refine⟨_,rfl,eA,aW (by lia),hC _ _ ⟨sA.change hD,aB,?_⟩⟩;rw[cs,cg,if_pos ei];exact((I1.same sT).app (.cons (uD hu) (sA _ _ hu) .nil)).upd
  ·have ei:i≠r:=by simp at e;lia
   refine⟨_,rfl,_,rfl,_,rfl,_,rfl,u,v,R.getD i [],R.getD r [],c,n,dv,rfl,SqL.of (sA _ _ hu),SqL.of (sA _ _ hv),by rw[hw i hi,hw r hr'],by rw[hw i hi];exact hw100,by rw[hw i hi];exact hc,hd,fun j=>hB i j,fun j=>hB r j,bd,hn,fun l3 H3 s3 n3 e3=>?_⟩;have eB:=s3 _ _ eA;have n3':l3≠D:=fun z=>by rw[z,eA] at n3;cases n3
   refine⟨eB,aW (by lia),hC _ _ ⟨(sA.trans s3).change hD,aB,?_⟩⟩;rw[cs,cg,if_neg ei];exact((I1.same (sT.trans s3)).app (.cons n3' e3 .nil)).upd
 rintro ys H1 ⟨s1,e1,I1⟩;rw[lz,take_of_length_le (by lia)] at I1;exact q D ys H1 s1 hD e1 I1
abbrev Nn:Stmt:=top 50
theorem gY:aQ ["rows","width","rank","pivot","sign","column","place","lifted"] ["rows","width"] (aH Nn):=sK9 rfl rfl rfl rfl (by decide +kernel)
theorem Qy {dV:Value}(F:aU K "eliminated" "eliminated" Nn dV f fd)(mr:mg "range"=none)(mli:mg "list"=none)(G1:aJ P w K mg base CX0 1 g1 gd1 ["rows","rank","column"] (Vf K))(b1:aP K gd1 ["rows","rank","column"] [])(k1:kI9 K g1)(m1:mI9 mg "pivot_place" g1)(G2:aJ P w K mg base CX0 2 g2 gd2 ["rows","rank","column","divisor"] (wI K))(b2:aP K gd2 ["rows","rank","column","divisor"] [])(k2:kI9 K g2)(m2:mI9 mg "cleared_rows" g2) :
  aJ P w K mg base CX 3 f fd ["rows","width"] (xX K):=by
 refine F.ok gY (fun vs H Q E h=>?_) fun cdv A outer s H vs Q E hr h=>?_
 ·obtain⟨_,_,_,_,_,_,_,_,_,rfl,_⟩:=h;rfl
 obtain⟨l,D0,zs,R,m,c,w',n,Pr,rfl,hS,hI,hm,hw,hmw,hw100,hB,hn1,hn,hm31,hPr,hSt,hcm,q⟩:=h;have r1:=hr.mono (show 1<=2 by lia);refine⟨_,(aE (aV (i:=0) gY.nd rfl (Or.inl rfl) (dL cU rfl mli PyProof.Rows.boot_list (aA (pv 0) aC)))
  (aE (aV (i:=2) gY.nd rfl (Or.inl rfl) aG)
  (aE (aV (i:=3) gY.nd rfl (Or.inl rfl) aG)
  (aE (aV (i:=4) gY.nd rfl (Or.inl rfl) aG)
  (aE (dP PassesOwn.never rfl (gF rfl mr (aA (pv 1) aC)) (aR (i:=5) gY.nd rfl (Or.inl rfl))
   (aE (aV (i:=6) gY.nd rfl (Or.inl rfl) (aI G1 r1 rfl m1 k1 b1 .nil aS (aA (pv 0) (aA (pv 2) (aA (pv 5) aC)))))
  (aE (cS (Ws (Xo (pv 6))) (aF zV) bM)
  (aE (cS (bK wL (pv 6) (pv 2) (bN _)) (aE (aV (i:=7) gY.nd rfl (Or.inl rfl) (aY cF (pv 0) (pv 6) (fun _ _=>rfl)))
  (aE (uR (aY cF (pv 0) (pv 2) (fun _ _=>rfl)) (tY (pv 0) (pv 6) kY))
  (aE (uR (pv 7) (tY (pv 0) (pv 2) kY))
  (aF (aV (i:=4) gY.nd rfl (Or.inl rfl) (sU nV (pv 4))))))) bM)
  (aE (aV (i:=0) gY.nd rfl (Or.inl rfl) (aI G2 hr rfl m2 k2 b2 .nil aS (aA (pv 0) (aA (pv 2) (aA (pv 5) (aA (pv 3) aC))))))
  (aE (aV (i:=3) gY.nd rfl (Or.inl rfl) (aY cF (aY cF (pv 0) (pv 2) (fun _ _=>rfl)) (pv 5) (fun _ _=>rfl)))
  (aF (Yp (i:=2) gY.nd rfl (Or.inl rfl) aG Xm))))))))
  (aF (aX (Hn (kQ bV (pv 0) (kQ bV (pv 2) (kQ bV (pv 3) (kQ bV (pv 4) Ha)))) rfl rfl (by simp) (by decide))))))))),?_⟩
 refine⟨_,rfl,l,zs,rfl,.inl hS,fun l0 hl0=>?_⟩;have s0:=aD hl0 (.lst zs);have e0:upd H l0 (.lst zs) l0=some (.lst zs):=aB;generalize upd H l0 (.lst zs)=H0 at s0 e0 ⊢;refine⟨_,rfl,(c:Int),rfl,by lia,by lia,?_⟩;rw[Int.toNat_natCast];have b1:Mq.B n 1:=by
  show 1 < 2 ^ n;exact Nat.one_lt_two_pow (by lia)
 refine qD (lo:=0) (n:=c) (fun i σ H'=>aK H H'/\∃(lR:Addr) (zs':List V) (R':List (List Int)) (rank:Nat) (pivot sign:Int) (z5 z6 z7:Option V),σ=[some (.ref lR),some (.int (c:Int)),some (.int (rank:Int)),some (.int pivot),some (.int sign),z5,z6,z7]/\H lR=none/\H' lR=some (.lst zs')/\Imx lR H' zs' R'/\SI m w' (Mq.at2 R) R' rank i pivot sign/\Mq.SB n m R' rank i pivot/\Pr R') ⟨s0,l0,zs,R,0,1,1,none,none,none,rfl,hl0,e0,(hI.other hl0).same s0,.start hm hw,.start hB,hPr⟩ ?_ ?_
 ·rintro i σ H1 hi ⟨s1,lR,zs',R',rank,pivot,sign,z5,z6,z7,rfl,nR,eR,I1,S1,sb,p1⟩;rw[Int.zero_add];obtain⟨bR,bP⟩:=sb.bd5 S1 hm31;obtain⟨A1,c1,B1,_⟩:=S1.bar;have rm:=B1.rm;have rc:=B1.rc;have dn:pivot≠0:=fun z=>B1.dne (by rw[z];simp);clear B1;refine⟨_,rfl,_,rfl,_,rfl,lR,lR,zs',R',rank,i,m,w',rfl,SqL.of eR,I1,S1.len,S1.wid,by lia,rm,by lia,fun p h1 h2 ne=>?_,fun hz=>?_⟩
  ·refine⟨_,rfl,_,rfl,eH ?_⟩;have hrm:rank < m:=by lia
   refine(fun (hrest:∀(sg:Int) (z:Option V) (Hx:Hp) (zs2:List V) (R2:List (List Int)),aK H Hx->Hx lR=some (.lst zs2)->Imx lR Hx zs2 R2->SI m w' (Mq.at2 R) R2 rank i pivot sg->ent R2 rank i≠0->Mq.SB n m R2 rank i pivot->Pr R2->W.KIN.Hid ((?T:Int->Option V->Hp->Prop) sg z Hx))=>?main) ?rest
   case main=>
    refine⟨_,rfl,_,rfl,rfl,_,rfl,Ja (fun e=>?c1) (fun e=>?c2)⟩
    case c1=>
     have npr:p≠rank:=by simp at e;lia
     obtain⟨up,eup,nup,hup⟩:=I1.at (i:=p) (by rw[S1.len];lia);obtain⟨ur,eur,nur,hur⟩:=I1.at (i:=rank) (by rw[S1.len];lia);have lz:zs'.length=m:=I1.length.trans S1.len;refine⟨_,rfl,_,rfl,lR,zs',_,_,rfl,rfl,SqL.of eR,cH eup,?_⟩;refine⟨_,rfl,_,rfl,lR,zs',_,_,rfl,rfl,SqL.of eR,cH eur,_,rfl,_,rfl,lR,zs',_,p,rfl,rfl,eR,pH (by lia),?_⟩;have e2:upd H1 lR (.lst (zs'.set p (.ref ur))) lR=some (.lst (zs'.set p (.ref ur))):=aB;have I2:=(Imx.set nur hur p I1).upd (o:=.lst (zs'.set p (.ref ur)));have s2:aK H (upd H1 lR (.lst (zs'.set p (.ref ur)))):=s1.change nR;have hup2:upd H1 lR (.lst (zs'.set p (.ref ur))) up=some (.lst ((R'.getD p []).map V.int)):=by rw[aM nup];exact hup
     generalize upd H1 lR (.lst (zs'.set p (.ref ur)))=H2 at e2 I2 s2 hup2 ⊢;refine⟨_,rfl,_,rfl,_,rfl,lR,_,_,rank,rfl,rfl,e2,pH (by rw[length_set];lia),?_⟩;have e3:upd H2 lR (.lst ((zs'.set p (.ref ur)).set rank (.ref up))) lR=some (.lst ((zs'.set p (.ref ur)).set rank (.ref up))):=aB;have I3:=(Imx.set nup hup2 rank I2).upd (o:=.lst ((zs'.set p (.ref ur)).set rank (.ref up)));have s3:aK H (upd H2 lR (.lst ((zs'.set p (.ref ur)).set rank (.ref up)))):=s2.change nR;generalize upd H2 lR (.lst ((zs'.set p (.ref ur)).set rank (.ref up)))=H3 at e3 I3 s3 ⊢;refine⟨_,rfl,_,rfl,?_⟩;show jI _ _ _ [some (.ref lR),some (.int (c:Int)),some (.int (rank:Int)),some (.int pivot),some (.int (-sign)),some (.int (i:Int)),some (.int (p:Int)),some (.ref up)] H3;have S3:=S1.swap (p:=p) (by lia) h2;have bR3:=sb.swap S1 (p:=p) (by lia) h2;have ne3:ent (dZ R' p rank) rank i≠0:=by
      unfold ent;rw[yQ (by rw[S1.len];lia) (by rw[S1.len];lia)];have:Mq.sw p rank rank=p:=by unfold Mq.sw;rw[if_pos rfl]
      rw[this];exact ne
     have I3':Imx lR H3 ((zs'.set p (.ref ur)).set rank (.ref up)) (dZ R' p rank):=I3;clear I3 hup2;have p3:=hSt.sw _ _ _ _ _ _ S1 (show rank < p by lia) h2 p1;generalize -sign=sg at S3 ⊢;generalize some (V.ref up)=zz at ⊢;exact(hrest sg zz H3 _ _ s3 e3 I3' S3 ne3 bR3 p3).out
    case c2=>
     have epr:p=rank:=by simp at e;lia
     show jI _ _ _ [some (.ref lR),some (.int (c:Int)),some (.int (rank:Int)),some (.int pivot),some (.int sign),some (.int (i:Int)),some (.int (p:Int)),z7] H1;exact(hrest sign z7 H1 _ _ s1 eR I1 S1 (by rw[<- epr];exact ne) sb p1).out
   case rest=>
   intro sg z Hx zs2 R2 sx ex Ix Sx nx bx px;refine⟨?_⟩;have bxx:=bx.bd5 Sx hm31;refine⟨_,rfl,_,rfl,_,rfl,_,rfl,lR,lR,zs2,R2,rank,i,m,w',bw n m,pivot,rfl,SqL.of ex,Ix,Sx.len,Sx.wid,by lia,hw100,hrm,by lia,dn,bxx.1,bxx.2,hn,fun l3 zs3 H3 s3 n3 e3 I3=>?_⟩;have S3:=Sx.clear hrm (by lia) nx;have b3:=bx.clear Sx hrm (by lia) nx;obtain⟨u,eu,nu,hu⟩:=I3.at (i:=rank) (by rw[S3.len];lia);have ec:=cH (iU (l:=(bZ R2 rank i pivot).getD rank []) (i:=i) (by rw[S3.wid _ hrm];lia));refine⟨_,rfl,_,rfl,l3,zs3,_,_,rfl,rfl,SqL.of e3,cH eu,_,rfl,u,_,_,_,rfl,rfl,SqL.of hu,ec,?_⟩;refine⟨_,rfl,_,_,rfl,rfl,?_⟩;have ev:((bZ R2 rank i pivot).getD rank []).getD i 0=ent R2 rank i:=by rw[oX (by rw[Sx.len];lia),if_pos rfl];rfl
   refine⟨sx.trans s3,l3,zs3,_,rank+1,ent R2 rank i,sg,some (.int (i:Int)),some (.int (p:Int)),z,?_,sx.free n3,e3,I3,S3,b3,hSt.cl _ _ _ _ _ Sx hrm (by lia) nx px⟩;rw[ev];rfl
  ·refine⟨_,rfl,_,rfl,cT ?_⟩;exact⟨s1,lR,zs',R',rank,pivot,sign,_,_,_,rfl,nR,eR,I1,S1.skip hz,sb.skip hz,p1⟩
 ·rintro σ H1 ⟨s1,lR,zs',R',rank,pivot,sign,z5,z6,z7,rfl,nR,eR,I1,S1,sb,p1⟩;obtain⟨bR,bP⟩:=sb.bd5 S1 hm31;obtain⟨A1,c1,B1,_⟩:=S1.bar;have rm:=B1.rm;intro d hd;have nd:lR≠d:=fun z=>by rw[z,hd] at eR;cases eR
  refine⟨_,rfl,_,rfl,_,rfl,_,rfl,aB,[(.inr "rows",.ref lR),(.inr "rank",.int (rank:Int)),(.inr "pivot",.int pivot),(.inr "sign",.int sign)],rfl,by show 4<=15;decide,?_⟩;have sd:aK H1 (upd (upd H1 d (.dK [])) d (Hr lR rank pivot sign)):=(aD hd _).change hd;exact q d lR zs' R' rank pivot sign _ (s1.trans sd) (s1.free hd) nR aB (sd _ _ eR) (I1.same sd) S1 bR bP p1
theorem rA:(["row","side"]:List Str).Nodup:=by decide +kernel
theorem rL:(["row","many","end"]:List Str).Nodup:=by decide +kernel
abbrev xY:Stmt:=top 45
theorem pI:aQ ["matrix","right","many","rows","end"] ["matrix","right"] (aH xY):=sK9 rfl rfl rfl rfl (by decide +kernel)
theorem Ka {dV:Value}(F:aU K "solved" "solved" xY dV f fd)(ml:mg "len"=none)(mz:mg "zip"=none)(G1:aJ P w K mg base CX0 2 g1 gd1 ["some"] (Pw K))(b1:aP K gd1 ["some"] [])(k1:kI9 K g1)(m1:mI9 mg "in_wholes" g1)(G2:aJ P w K mg base CX0 3 g2 gd2 ["rows","width"] (Hs K))(b2:aP K gd2 ["rows","width"] [])(k2:kI9 K g2)(m2:mI9 mg "eliminated" g2)(G3:aJ P w K mg base CX0 2 g3 gd3 ["top","bottom"] nU)(b3:aP K gd3 ["top","bottom"] [])(k3:kI9 K g3)(m3:mI9 mg "fraction" g3) :
  aJ P w K mg base CX 5 f fd ["matrix","right"] (vX K):=by
 refine F.ok pI (fun vs H Q E h=>?_) fun cdv A outer s H vs Q E hr h=>?_
 ·obtain⟨_,_,_,_,_,_,_,_,_,_,rfl,_⟩:=h;rfl
 obtain⟨g,bR,D0,H00,us,bs,X,qs,k,n,rfl,hU,hX,hB,hQ,ql,qL,qB,xP,xB,x4,hk,hBd,hn1,hnb,hz0,q⟩:=h;have hu:=Qj hr;have r3:=hr.mono (show 3<=4 by lia);have r2:=hr.mono (show 2<=4 by lia);refine⟨_,(aE (aV (i:=2) pI.nd rfl (Or.inr rfl) (bH bD rfl ml PySem.boot_len (aA (pv 0) aC)))
  (aE (hZ (i:=3) (nl:=2) (fr:=[]) (Nc:=["row","side"]) (cl:=[]) (g:=(Aa K 2 (iF (gD 0) (iF (gD 1) Ch)))) pI.nd rfl rfl rfl ⟨rfl,rfl,by decide +kernel,by decide +kernel,fun x c h=>(by cases h),cC rfl,rfl,fun i n h=>(by simp at h)⟩
    (lK rfl mz rfl (aA (pv 0) (aA (pv 1) aC))) (fun C s3 H3 fp pins=>(gW rfl (bQ (aR (i:=0) rA rfl (Or.inl rfl)) (bQ (aR (i:=1) rA rfl (Or.inl rfl)) fE)))) (fun C s3 H3 fp pins=>cA)
    (fun C s3 H3 fp pins=>(aY (lU (K:=K) rfl) (aI G1 r2 rfl m1 k1 b1 .nil aS (aA (aZ nX (pv 0) (cX (aA (pv 1) aC))) aC)) aG (fun _ _=>rfl))) rfl)
  (aE (aV (i:=4) pI.nd rfl (Or.inr rfl) (aI G2 r3 rfl m2 k2 b2 .nil aS (aA (pv 3) (aA (pv 2) aC))))
  (aE (cS (bK wM (oJ hu (pv 4) bV (fun _ _=>rfl)) (pv 2) (bN _)) (aF iI) bM)
  (aF (aX (cL (nl:=1) (fr:=[2,4]) (Nc:=["row","many","end"]) (cl:=[("many",s.heap.objs.size+1),("end",s.heap.objs.size+2)]) rfl ⟨rfl,rfl,by decide +kernel,by decide +kernel,(bG rfl (bG rfl (dA))),cC rfl,rfl,fun i n h=>match i,h with | 0,h=>by cases h;exact⟨2,rfl,rfl,rfl,rfl,.inl rfl⟩ | 1,h=>by cases h;exact⟨4,rfl,rfl,rfl,rfl,.inl rfl⟩ | k+2,h=>by rw[show 1+(k+2)=k+3 by lia] at h;cases h⟩
    (bO (oJ hu (pv 4) bV (fun _ _=>rfl))) (fun C s3 H3 fp pins=>(aR (i:=0) rL rfl (Or.inl rfl))) (fun C s3 H3 fp pins=>cA)
    (fun C s3 H3 fp pins=>(aI G3 r2 rfl m3 k3 b3 .nil aS (aA (aY (fD (K:=K) rfl) (pv 0) (pv 1) (fun _ _=>rfl)) (aA (oJ hu (pv 2) bV (fun _ _=>rfl)) aC))))))))))),?_⟩
 have lu:=hX.length;have lb:=hQ.length;have hw:∀row∈X,row.length=X.length:=fun row h=>(xB row h).2;have qP:=qL.pos;have lA:=Bp ql;refine⟨_,rfl,g,us,rfl,.inl hU,?_⟩;refine⟨_,rfl,_,rfl,g,bR,rfl,⟨_,hU⟩,⟨_,hB⟩,fun D hD=>?_⟩;have sD:=aD hD (.lst []);refine jA (xs:=us) (ys:=bs) (fun i zs H'=>aK H H'/\H' D=some (.lst zs)/\Imx D H' zs ((gR X qs).take i)) ⟨sD,aB,.nil⟩ (fun i zs H' h=>h.2.1) (fun i zs H' _ h=>⟨h.1.seq hU,h.1.seq hB⟩) ?_ ?_
 ·rintro i zs x y H1 T1 ex ey ⟨s1,e1,I1⟩ hT C hC;obtain⟨u,ys,row,rfl,er,_,_,hu',fu⟩:=hX.get ex;obtain⟨v,qv,rfl,eq,fv⟩:=hQ.get ey;have hi:i < X.length:=(List.getElem?_eq_some_iff.mp er).1;have mem:=mem_of_getElem? er;have memq:=mem_of_getElem? eq;obtain⟨rb,rl⟩:=xB row mem;have lys:=fu.length;have sT:=aD hT (.tup [.ref u,.ref v]);refine⟨T1,_,rfl,SqT.of aB,rfl,_,_,rfl,_,_,rfl,rfl,iT.1,iT.2,cT ?_⟩;generalize upd H1 T1 (.tup [.ref u,.ref v])=H2 at sT ⊢;have s2:=s1.trans sT;refine⟨_,rfl,_,rfl,zl9 1,fun lo hlo=>?_⟩;have s3:=aD hlo (.lst [.ref v]);have e3:upd H2 lo (.lst [.ref v]) lo=some (.lst [.ref v]):=aB;generalize upd H2 lo (.lst [.ref v])=H3 at s3 e3 ⊢;have s03:=s2.trans s3;refine⟨u,lo,_,_,rfl,rfl,s03 _ _ hu',e3,Nat.le_of_lt (aW (by simp only[length_cons,length_nil];lia)),fun p hp=>?_⟩;have s4:=aD hp (.lst (ys++[.ref v]));have e4:upd H3 p (.lst (ys++[.ref v])) p=some (.lst (ys++[.ref v])):=aB;generalize upd H3 p (.lst (ys++[.ref v]))=H4 at s4 e4 ⊢;have s04:=s03.trans s4;have s14:=sT.trans (s3.trans s4);refine⟨p,_,row++[qv],k,rfl,SqL.of e4,(fu.same s04).app (.cons (s04.fq fv) .nil),fun z hz=>?_,fun z hz=>?_,by rw[List.length_append];simp only[length_cons,length_nil];lia,by rw[List.length_append,rl];simp only[length_cons,length_nil];rw[show X.length+(0+1)=X.length+1 by lia];lia,fun t l H5 s5 nl ht hl=>?_⟩
  ·rcases mem_append.mp hz with z1 | z1
   ·exact xP row mem z z1
   ·have:z=qv:=by simpa using z1
    rw[this];exact qP qv memq
  ·rcases mem_append.mp hz with z1 | z1
   ·exact rb z z1
   ·have:z=qv:=by simpa using z1
    rw[this];exact qB qv memq
  have s15:=s14.trans s5;have e5:=s15 _ _ e1;have ne:l≠D:=fun z=>by rw[z,s14 _ _ e1] at nl;cases nl
  have lz:=I1.length;rw[length_take,lA] at lz;refine⟨t,_,_,_,rfl,rfl,ht,rfl,e5,aW (by lia),hC _ _ ⟨(s1.trans s15).change hD,aB,?_⟩⟩;have ee:(gR X qs).take (i+1)=(gR X qs).take i++[iw (row++[qv])]:=by
   rw[take_add_one];unfold gR kO;rw[getElem?_map,getElem?_zipWith,er,eq];rfl
  rw[ee];exact((I1.same s15).app (.cons ne hl .nil)).upd
 rintro zs H1 ⟨s1,e1,I1⟩;rw[show min us.length bs.length=(gR X qs).length by lia,take_length] at I1;have bits4:bw n X.length<=9000:=Nat.le_trans hnb (by decide);have wA:∀i,i < X.length->((gR X qs).getD i []).length=X.length+1:=fun i hi=>by
  rw[tZ ql hi,pW,List.length_append,hw _ (mem_of_getElem? (vF hi))];rfl
 refine⟨_,rfl,_,rfl,D,D,zs,gR X qs,X.length,X.length+1,n,fun R=>Mq.KI X.length (Mq.at2 (gR X qs)) R/\Mq.KJ X.length (Mq.at2 (gR X qs)) R,by rw[lu];rfl,SqL.of e1,I1,lA,wA,by lia,by lia,hBd,hn1,by lia,by lia,⟨fun Φ _ hz=>hz,fun Φ _ hz=>hz⟩,Ky,fun d lE zE R' rank pivot sign H2 s2 nd nlE ed el IE SE bE bp LE=>?_⟩;obtain⟨g1',g2',g3',g4'⟩:=oY ed;have s02:=s1.trans s2;have wr:=Lk xP qP ql hw SE;refine⟨_,rfl,d,_,rfl,g2',_,rfl,_,_,rfl,rfl,_,rfl,Ja (fun e=>?_) (fun e=>?_)⟩
 ·-- lame
  have hr':rank < X.length:=by simp at e;lia
  have hz:wgt X=0:=by
   rcases wr with z | z
   ·exact z.2
   ·lia
  exact absurd hz hz0
 ·-- whole
  have hr':rank=X.length:=by
   rcases wr with z | z
   ·simp at e;lia
   ·exact z.1
  have hz:wgt X≠0:=by
   rcases wr with z | z
   ·lia
   ·exact z.2
  subst hr';have dn:=SE.dne;have pn:pivot≠0:=fun z=>dn (by rw[z];simp);have lzE:=IE.length;rw[SE.len] at lzE;refine⟨_,rfl,d,_,rfl,g1',lE,rfl,⟨_,SqL.of el⟩,fun D2 hD2=>?_⟩;have sD2:=aD hD2 (.lst []);refine bX (xs:=zE) (fun i ws H'=>aK H2 H'/\H' D2=some (.lst ws)/\Fqs K H' ws ((List.range i).map fun i=>red (ent R' i X.length) pivot)) ⟨sD2,aB,.nil⟩ (fun i ws H' h=>h.2.1) (fun i ws H' _ h=>h.1.seq (SqL.of el)) ?_ ?_
  ·rintro i ws x H3 hx ⟨s3,e3,F3⟩ C hC;have hi:i < X.length:=by have:=(List.getElem?_eq_some_iff.mp hx).1;lia
   obtain⟨u,eu,nu,hu2⟩:=IE.at (i:=i) (by rw[SE.len];exact hi);have exu:x=.ref u:=by rw[eu] at hx;cases hx;rfl
   subst exu;have wid:=SE.wid i hi;have lz:=F3.length;rw[length_map,length_range] at lz;have ea:=cH (iU (l:=R'.getD i []) (i:=X.length) (by lia));rw[<- lu] at ea;refine⟨bU.1,bU.2,cT ?_⟩;refine⟨_,rfl,_,rfl,u,_,_,_,rfl,rfl,SqL.of (s3 _ _ hu2),ea,?_⟩;rw[lu];refine⟨_,rfl,d,_,rfl,oY (s3 _ _ ed) |>.2.2.1,_,_,bw n X.length,rfl,pn,bp,bits4,fun r H4 s4 e4=>?_⟩;have eD:=s4 _ _ e3;refine⟨eD,aW (by lia),hC _ _ ⟨(s3.trans s4).change hD2,aB,?_⟩⟩;rw[range_succ,map_append];exact((F3.same s4).app (.cons (Fq.of e4) .nil)).upd eD
  rintro ws H3 ⟨s3,e3,F3⟩;rw[lzE] at F3;have gd:∀j,j < X.length->((List.range X.length).map fun i=>red (ent R' i X.length) pivot).getD j Mq.z0=red (ent R' j X.length) pivot:=fun j hj=>by
   rw[getD_eq_getElem?_getD,getElem?_map,getElem?_range hj];rfl
  refine q D2 ws _ H3 (s02.trans s3) (s02.free hD2) e3 F3 ⟨⟨by simp,fun p hp=>?_,fun p hp=>?_,fun i hi=>?_⟩,fun v hv j hj=>?_⟩
  ·obtain⟨i,_,rfl⟩:=mem_map.mp hp;exact jM pn
  ·obtain⟨i,hi,rfl⟩:=mem_map.mp hp;have le:=Mq.tO (t:=ent R' i X.length) pn;exact⟨((bE i X.length).le le.1).mono bits4,(bp.le le.2).mono bits4⟩
  ·rw[<- Vu xP qP ql hw LE.1 SE hi];refine aT fun j hj=>?_;rw[gd j hj,jQ pn];rfl
  ·rw[gd j hj,jQ pn,<- Vx xP qP ql hw LE.2 SE hv hj];rfl
theorem qA (xs:List V)(k:Nat):jR xs (some (k:Int)) none=xs.drop k:=by
 unfold jR;have h1:HT.sIx xs.length xs.length none=xs.length:=rfl;have h2:HT.sIx xs.length 0 (some (k:Int))=min k xs.length:=by simp[HT.sIx];lia
 rw[h1,h2]
 by_cases h:k<=xs.length
 ·rw[Nat.min_eq_left h,take_of_length_le (by simp)]
 ·rw[Nat.min_eq_right (by lia),drop_of_length_le (Nat.le_refl _),drop_of_length_le (by lia)];simp
def RdC (m c w k:Nat)(X:List (List Mq.Q2)):Prop:=X.length=m/\m<=31/\m<=w/\w<=40/\c<=m/\1<=k/\10+k+k*w<=8000/\bw (k+k) m+k<=8900/\∃L:Int,1<=L/\Mq.B k L/\∀row∈X,row.length=w/\∀p∈row,1<=p.2/\Bd k p/\p.2 ∣ L
def Og (K:Frag):Sp:=fun vs H Q _=>∃(g:Addr) (us:List V) (X:List (List Mq.Q2)) (m c w k:Nat),vs=[.ref g,.int (c:Int)]/\SqL K H g us/\Lns K H us X/\RdC m c w k X/\∀l zs Y H',aK H H'->H' l=some (.lst zs)->Lns K H' zs Y->Y.length=m - c->(∀row∈Y,row.length=w - c)->Q (.ref l) H'
theorem Nv:(["row"]:List Str).Nodup:=by decide +kernel
theorem gC:(["left","row","end","count"]:List Str).Nodup:=by decide +kernel
abbrev Vv:Stmt:=top 46
theorem Kq:aQ ["matrix","count","rows","end"] ["matrix","count"] (aH Vv):=sK9 rfl rfl rfl rfl (by decide +kernel)
theorem Yl {dV:Value}(F:aU K "reduced" "reduced" Vv dV f fd)(mz:mg "zip"=none)(G1:aJ P w K mg base CX0 2 g1 gd1 ["some"] (Pw K))(b1:aP K gd1 ["some"] [])(k1:kI9 K g1)(m1:mI9 mg "in_wholes" g1)(G2:aJ P w K mg base CX0 3 g2 gd2 ["rows","width"] (xX K))(b2:aP K gd2 ["rows","width"] [])(k2:kI9 K g2)(m2:mI9 mg "eliminated" g2)(G3:aJ P w K mg base CX0 3 g3 gd3 ["tops","pivot"] (Qf K))(b3:aP K gd3 ["tops","pivot"] [])(k3:kI9 K g3)(m3:mI9 mg "over_pivot" g3) :
  aJ P w K mg base CX 4 f fd ["matrix","count"] (Og K):=by
 refine F.ok Kq (fun vs H Q E h=>?_) fun cdv A outer s H vs Q E hr h=>?_
 ·obtain⟨_,_,_,_,_,_,_,rfl,_⟩:=h;rfl
 obtain⟨g,us,X,m,c,w',n,rfl,hU,hX,⟨hm,m31,hmw,w9,hcm,n1,bits,bits2,LL,L1,LB,hr'⟩,q⟩:=h;have r2:=hr.mono (show 2<=3 by lia);have hu:=Qj hr;refine⟨_,(aE (hZ (i:=2) (nl:=1) (fr:=[]) (Nc:=["row"]) (cl:=[]) Kq.nd rfl rfl rfl ⟨rfl,rfl,by decide +kernel,by decide +kernel,fun x c h=>(by cases h),cC rfl,rfl,fun i n h=>(by simp at h)⟩
    (bO (pv 0)) (fun C s3 H3 fp pins=>(aR (i:=0) Nv rfl (Or.inl rfl))) (fun C s3 H3 fp pins=>cA)
    (fun C s3 H3 fp pins=>(aI G1 r2 rfl m1 k1 b1 .nil aS (aA (pv 0) aC))) rfl)
  (aE (aV (i:=3) Kq.nd rfl (Or.inr rfl) (aI G2 hr rfl m2 k2 b2 .nil aS (aA (cL (nl:=1) (fr:=[]) (Nc:=["row"]) (cl:=[]) rfl ⟨rfl,rfl,by decide +kernel,by decide +kernel,fun x c h=>(by cases h),cC rfl,rfl,fun i n h=>(by simp at h)⟩
    (bO (pv 2)) (fun C s3 H3 fp pins=>(aR (i:=0) Nv rfl (Or.inl rfl))) (fun C s3 H3 fp pins=>cA)
    (fun C s3 H3 fp pins=>(aY (lU (K:=K) rfl) (pv 0) aG (fun _ _=>rfl)))) (aA (pv 1) aC))))
  (aF (aX (cL (nl:=2) (fr:=[3,1]) (Nc:=["left","row","end","count"]) (cl:=[("end",s.heap.objs.size+2),("count",s.heap.objs.size+1)]) (g:=(Aa K 2 (iF (gD 0) (iF (gD 1) Ch)))) rfl ⟨rfl,rfl,by decide +kernel,by decide +kernel,(bG rfl (bG rfl (dA))),cC rfl,rfl,fun i n h=>match i,h with | 0,h=>by cases h;exact⟨3,rfl,rfl,rfl,rfl,.inl rfl⟩ | 1,h=>by cases h;exact⟨1,rfl,rfl,rfl,rfl,.inl rfl⟩ | k+2,h=>by rw[show 2+(k+2)=k+4 by lia] at h;cases h⟩
    (lK rfl mz rfl (aA (gA iV (oJ hu (pv 3) bV (fun _ _=>rfl)) (fY (pv 1)) jS) (aA (gA iV (pv 2) (fY (pv 1)) jS) aC))) (fun C s3 H3 fp pins=>(gW rfl (bQ (aR (i:=0) gC rfl (Or.inl rfl)) (bQ (aR (i:=1) gC rfl (Or.inl rfl)) fE)))) (fun C s3 H3 fp pins=>cA)
    (fun C s3 H3 fp pins=>(aI G3 hr rfl m3 k3 b3 .nil aS (aA (gA (Cb (K:=K) rfl) (pv 0) (fY (pv 3)) jS) (aA (aZ cZ (oJ hu (pv 2) bV (fun _ _=>rfl)) (aY (lU (K:=K) rfl) (pv 1) aG (fun _ _=>rfl))) aC))))))))),?_⟩
 have lu:=hX.l;have rw':∀{i:Nat},i < X.length->(X.getD i []).length=w'/\Mq.Pos (X.getD i [])/\(∀p∈X.getD i [],Bd n p)/\Mq.B n (cO (X.getD i []))/\1<=cO (X.getD i []):=fun {i} hi=>by
  obtain⟨a,b⟩:=hr' _ (mem_of_getElem? (qG hi));have pos:Mq.Pos (X.getD i []):=fun p hp=>(b p hp).1;exact⟨a,pos,fun p hp=>(b p hp).2.1,Mq.Gc pos (fun p hp=>(b p hp).2.2) L1 LB,oC pos⟩
 refine⟨_,rfl,g,rfl,⟨_,hU⟩,fun D1 hD1=>?_⟩;have sD1:=aD hD1 (.lst []);refine bX (xs:=us) (fun i zs H'=>aK H H'/\H' D1=some (.lst zs)/\Wmx K D1 H' zs ((X.take i).map wh)) ⟨sD1,aB,.nil⟩ (fun i zs H' h=>h.2.1) (fun i zs H' _ h=>h.1.seq hU) ?_ ?_
 ·rintro i zs x H1 hx ⟨s1,e1,W1⟩ C hC;have hi:i < X.length:=by have:=(List.getElem?_eq_some_iff.mp hx).1;lia
  have er:=qG hi;obtain⟨u,ys,rfl,hu',fu⟩:=hX.r i x _ hx er;obtain⟨rl,rp,rb,_,_⟩:=rw' hi;have lz:=W1.length;rw[length_map,length_take] at lz;refine⟨bU.1,bU.2,cT ?_⟩;refine⟨_,rfl,u,ys,X.getD i [],n,rfl,s1.seq hu',fu.same s1,rp,rb,by rw[rl];lia,by rw[rl];lia,fun t l H2 s2 nl ht hl=>?_⟩;have e2:=s2 _ _ e1;have ne:l≠D1:=fun z=>by rw[z,e1] at nl;cases nl
  refine⟨e2,aW (by lia),hC _ _ ⟨(s1.trans s2).change hD1,aB,?_⟩⟩;have ee:(X.take (i+1)).map wh=(X.take i).map wh++[wh (X.getD i [])]:=by rw[take_add_one,er,map_append];rfl
  rw[ee];exact((W1.same s2).app (.cons ne ht hl .nil)).upd e2
 rintro zs1 H1 ⟨s1,e1,W1⟩;rw[lu,take_length] at W1;have lz1:=W1.length;rw[length_map] at lz1;refine⟨_,rfl,D1,rfl,⟨_,SqL.of e1⟩,fun D2 hD2=>?_⟩;have sD2:=aD hD2 (.lst []);refine bX (xs:=zs1) (fun i zs H'=>aK H1 H'/\H' D2=some (.lst zs)/\Imx D2 H' zs ((X.map iw).take i)) ⟨sD2,aB,.nil⟩ (fun i zs H' h=>h.2.1) (fun i zs H' _ h=>h.1.seq (SqL.of e1)) ?_ ?_
 ·rintro i zs x H2 hx ⟨s2,e2,J2⟩ C hC;obtain⟨t,l,r,rfl,er,ht,hl⟩:=W1.get hx;obtain⟨row,erow,rfl⟩:∃row,X[i]?=some row/\r=wh row:=by
   rw[getElem?_map] at er
   cases e:X[i]? with
   |none=>rw[e] at er;cases er
   |some row=>rw[e] at er;cases er;exact⟨row,rfl,rfl⟩
  have lz:=J2.length;rw[length_take,length_map] at lz;have ne:l≠D2:=fun z=>by rw[z,hD2] at hl;cases hl
  refine⟨bU.1,bU.2,cT ?_⟩;refine⟨_,rfl,t,_,_,_,rfl,rfl,s2.seqT ht,rfl,?_⟩;refine⟨e2,aW (by lia),hC _ _ ⟨s2.change hD2,aB,?_⟩⟩;have ee:(X.map iw).take (i+1)=(X.map iw).take i++[iw row]:=by rw[take_add_one,getElem?_map,erow];rfl
  rw[ee];exact(J2.app (.cons ne (s2 _ _ hl) .nil)).upd
 rintro zs2 H2 ⟨s2,e2,J2⟩;rw[lz1,show X.length=(X.map iw).length by simp,take_length] at J2;have sA:=s1.trans s2;have bd0:BdR (n+n) (X.map iw):=fun i x=>by
  unfold ent
  by_cases hi:i < X.length
  ·have e:(X.map iw).getD i []=iw (X.getD i []):=by rw[getD_eq_getElem?_getD,getElem?_map,qG hi];rfl
   rw[e];obtain⟨rl,rp,rb,lb,_⟩:=rw' hi;exact Pt rp rb lb x
  ·rw[getD_eq_getElem?_getD (l:=X.map iw),getElem?_eq_none (by rw[length_map];lia)];exact Nat.two_pow_pos _
 have wid:∀i,i < m->((X.map iw).getD i []).length=w':=fun i hi=>by
  have e:(X.map iw).getD i []=iw (X.getD i []):=by rw[getD_eq_getElem?_getD,getElem?_map,qG (show i < X.length by lia)];rfl
  rw[e];unfold iw;rw[length_map];exact(rw' (show i < X.length by lia)).1
 refine⟨_,rfl,D2,D2,zs2,X.map iw,m,c,w',n+n,fun _=>True,rfl,SqL.of e2,J2,by rw[length_map];exact hm,wid,hmw,by lia,bd0,by lia,by lia,m31,trivial,⟨fun _ _ _ _ _ _ _ _ _ _=>trivial,fun _ _ _ _ _ _ _ _ _ _=>trivial⟩,hcm,fun d lE zE R' rank pivot sign H3 s3 _ nlE ed el IE SE bE bP _=>?_⟩;obtain⟨g1',g2',g3',g4'⟩:=oY ed;have sB:=sA.trans s3;have W3:=W1.same (s2.trans s3);have lE':=IE.length;rw[SE.len] at lE';have pn:pivot≠0:=by
  obtain⟨A1,c1,B1,_⟩:=SE.bar;exact fun z=>B1.dne (by rw[z];simp)
 refine⟨_,rfl,d,_,rfl,g1',_,rfl,(c:Int),rfl,lE,zE,rfl,SqL.of el,fun A hA=>?_⟩;rw[qA];have s4:=aD hA (.lst (zE.drop c));have e4:upd H3 A (.lst (zE.drop c)) A=some (.lst (zE.drop c)):=aB;generalize upd H3 A (.lst (zE.drop c))=H4 at s4 e4 ⊢;refine⟨_,rfl,_,rfl,(c:Int),rfl,D1,zs1,rfl,SqL.of (s4 _ _ ((s2.trans s3) _ _ e1)),fun B hB=>?_⟩;rw[qA];have s5:=aD hB (.lst (zs1.drop c));have e5:upd H4 B (.lst (zs1.drop c)) B=some (.lst (zs1.drop c)):=aB;generalize upd H4 B (.lst (zs1.drop c))=H5 at s5 e5 ⊢;have e4':=s5 _ _ e4;have s35:=s4.trans s5;refine⟨A,B,rfl,⟨_,SqL.of e4'⟩,⟨_,SqL.of e5⟩,fun D hD=>?_⟩;have sD:=aD hD (.lst []);refine jA (xs:=zE.drop c) (ys:=zs1.drop c) (fun i zs H'=>aK H5 H'/\H' D=some (.lst zs)/\(∃Y,Lns K H' zs Y/\Y.length=i/\∀row∈Y,row.length=w' - c)/\∀x∈zs,x≠.ref D) ⟨sD,aB,⟨[],.nil,rfl,fun x hx=>by cases hx⟩,fun x hx=>by cases hx⟩ (fun i zs H' h=>h.2.1) (fun i zs H' _ h=>⟨h.1.seq (SqL.of e4'),h.1.seq (SqL.of e5)⟩) ?_ ?_
 ·rintro i zs x y H6 T1 ex ey ⟨s6,e6,⟨Y,F6,yl,yw⟩,n6⟩ hT C hC;rw[getElem?_drop] at ex ey;have hi:c+i < X.length:=by have:=(List.getElem?_eq_some_iff.mp ey).1;lia
  obtain⟨t,l,r,rfl,er,ht,hl⟩:=W3.get ey;have er':r=wh (X.getD (c+i) []):=by
   rw[getElem?_map,qG hi] at er
   cases er;rfl
  subst er';obtain⟨u,r',rfl,eR,_,hu6⟩:=IE.get ex;have eR':r'=R'.getD (c+i) []:=by
   rw[getD_eq_getElem?_getD,eR];rfl
  have sT:=aD hT (.tup [.ref u,.ref t]);refine⟨T1,_,rfl,SqT.of aB,rfl,_,_,rfl,_,_,rfl,rfl,iT.1,iT.2,cT ?_⟩;generalize upd H6 T1 (.tup [.ref u,.ref t])=H7 at sT ⊢;have s37:=(s35.trans s6).trans sT;refine⟨_,rfl,_,rfl,(c:Int),rfl,u,_,rfl,SqL.of (s37 _ _ hu6),fun L hL=>?_⟩;rw[qA,<- map_drop];have sL:=aD hL (.lst ((r'.drop c).map V.int));have eL:upd H7 L (.lst ((r'.drop c).map V.int)) L=some (.lst ((r'.drop c).map V.int)):=aB;generalize upd H7 L (.lst ((r'.drop c).map V.int))=H8 at sL eL ⊢;have s38:=s37.trans sL;obtain⟨_,_,_,lb,l1⟩:=rw' hi;have pB:=bP.mul lb;have ne:pivot*cO (X.getD (c+i) [])≠0:=Int.mul_ne_zero pn (by lia);have rl':r'.length=w':=by
   rw[eR'];exact SE.wid _ (by lia)
  refine⟨_,rfl,d,_,rfl,(oY (s38 _ _ ed)).2.2.1,_,rfl,t,_,_,_,rfl,rfl,s38.seqT ht,rfl,dC bP lb (by lia) (by lia) ?_⟩;refine⟨L,r'.drop c,_,bw (n+n) m+n,rfl,SqL.of eL,by rw[length_drop];lia,ne,pB,by lia,fun l' zs' H9 s9 nl' e9 F9=>?_⟩;have eA:=s9 _ _ (sL _ _ (sT _ _ e6));have lz:=F6.l;have nlD:l'≠D:=fun z=>by rw[z,sL _ _ (sT _ _ e6)] at nl';cases nl'
  refine⟨eA,aW (by lia),hC _ _ ⟨(s6.trans (sT.trans (sL.trans s9))).change hD,aB,⟨Y++[(r'.drop c).map fun t=>red t (pivot*cO (X.getD (c+i) []))],?_,by rw[List.length_append,yl];rfl,fun row hr=>?_⟩,fun z hz=>?_⟩⟩
  rotate_left
  ·rcases mem_append.mp hr with c' | c'
   ·exact yw _ c'
   ·rw[mem_singleton.mp c',length_map,length_drop,rl']
  ·rcases mem_append.mp hz with c' | c'
   ·exact n6 z c'
   ·have:z=.ref l':=by simpa using c'
    rw[this];exact fun c=>nlD (by injection c)
  ·refine((F6.same (sT.trans (sL.trans s9))).snoc (SqL.of e9) F9).upd eA fun z hz=>?_;rcases mem_append.mp hz with c' | c'
   ·exact n6 z c'
   ·have:z=.ref l':=by simpa using c'
    rw[this];exact fun c=>nlD (by injection c)
 rintro zs H6 ⟨s6,e6,⟨Y,F6,yl,yw⟩,n6⟩;rw[length_drop,length_drop,lE',lz1,hm,Nat.min_self] at yl;exact q D zs Y H6 ((sB.trans s35).trans s6) e6 F6 yl yw
theorem vH {X:Cx}{K:Frag}(h:X.K=K):fK X (.type "list") (fun xs H Q=>∃p ys,xs=[.ref p]/\(SqL K H p ys\/SqT K H p ys)/\∀l,H l=none->Q (.ref l) (upd H l (.lst ys))):=by subst h;exact cU
theorem xR:(["line"]:List Str).Nodup:=by decide +kernel
abbrev qh3:Stmt:=cN (top 61) 2
abbrev Eh:Stmt:=cN (top 61) 1
theorem So:aQ ["self"] ["self"] (aH Eh):=sK9 rfl rfl rfl rfl (by decide +kernel)
theorem Ql {dV:Value}{CT:Addr}(F:aU K "ends" "Table.ends" Eh dV f fd)(TBx:TB K mg CT)(mli:mg "list"=none):aJ P w K mg base CX 1 f fd ["self"] (Gf CT K):=by
 refine F.ok So (fun vs H Q E h=>?_) fun cdv A outer s H vs Q E hr h=>?_
 ·obtain⟨_,_,_,_,rfl,_⟩:=h;rfl
 obtain⟨t,es,X,cs,rfl,⟨⟨dx,p,l,a,us,ys,ht,hp,hU,hL0,ha,hC⟩⟩,q⟩:=h;refine⟨_,(aF (aX (dL cU rfl mli PyProof.Rows.boot_list (aA (cK (pv 0) rfl) aC)))),?_⟩;refine⟨_,rfl,t,CT,_,_,_,rfl,ht,TBx.cl,TBx.nP,yL _ _ _,p,_,rfl,.inl hp,fun a' ha'=>?_⟩;exact q a' _ (aD ha' _) ha' aB
abbrev qd8:Stmt:=cN (top 61) 3
abbrev Dj:Stmt:=cN (top 61) 0
theorem Ua:aQ ["self","ends","matrix","comes"] ["self","ends","matrix","comes"] (aH Dj):=sK9 rfl rfl rfl rfl (by decide +kernel)
theorem Oe {dV:Value}{CT:Addr}(F:aU K "__init__" "Table.__init__" Dj dV f fd)(TBx:TB K mg CT)(mli:mg "list"=none):aJ P w K mg base CX 1 f fd ["self","ends","matrix","comes"] (yB CT K):=by
 refine F.ok Ua (fun vs H Q E h=>?_) fun cdv A outer s H vs Q E hr h=>?_
 ·obtain⟨_,_,_,_,_,_,_,_,_,_,rfl,_⟩:=h;rfl
 obtain⟨t,dx,e,g,c,es,us,ys,X,cs,rfl,ht,hE,hU,hL0,h100,hC,hF,q⟩:=h;refine⟨_,(aE (lB (pv 0) (dL cU rfl mli PyProof.Rows.boot_list (aA (pv 1) aC)) rfl)
  (aE (lB (pv 0) (cL (nl:=1) (fr:=[]) (Nc:=["line"]) (cl:=[]) rfl ⟨rfl,rfl,by decide +kernel,by decide +kernel,fun x c h=>(by cases h),cC rfl,rfl,fun i n h=>(by simp at h)⟩
    (bO (pv 2)) (fun C s3 H3 fp pins=>(aR (i:=0) xR rfl (Or.inl rfl))) (fun C s3 H3 fp pins=>cA)
    (fun C s3 H3 fp pins=>(dL (vH (K:=K) rfl) rfl mli PyProof.Rows.boot_list (aA (pv 0) aC)))) rfl)
  (aF (lB (pv 0) (dL cU rfl mli PyProof.Rows.boot_list (aA (pv 3) aC)) rfl)))),?_⟩
 refine⟨_,rfl,e,_,rfl,.inl hE,fun p hp=>?_⟩;have ntp:t≠p:=bB ht hp;have s1:=aD hp (.lst (es.map V.int));have ep:upd H p (.lst (es.map V.int)) p=some (.lst (es.map V.int)):=aB;generalize upd H p (.lst (es.map V.int))=H1 at s1 ep ⊢;refine⟨_,rfl,t,CT,dx,[],rfl,s1 _ _ ht,TBx.cl,TBx.nP,(by show 0 < 1000;decide),?_⟩;have x1:cP t H (upd H1 t (.ins CT dx (dG "places" (.ref p) []))):=fun b o h nb=>by rw[aM nb];exact s1 _ _ h
 have et1:upd H1 t (.ins CT dx (dG "places" (.ref p) [])) t=some (.ins CT dx (dG "places" (.ref p) [])):=aB;have ep1:upd H1 t (.ins CT dx (dG "places" (.ref p) [])) p=some (.lst (es.map V.int)):=by rw[aM (Ne.symm ntp)];exact ep
 generalize upd H1 t (.ins CT dx (dG "places" (.ref p) []))=H2 at x1 et1 ep1 ⊢;have hU2:=cP.seqI ht x1 hU;have hL2:=cP.lnsI ht x1 hL0;have hC2:=cP.seqI ht x1 hC;have hF2:=cP.fqsI ht x1 hF;refine⟨_,rfl,g,rfl,⟨_,hU2⟩,fun D hD=>?_⟩;have hL0:=hL2;have h100':X.length<=100:=by have:=hL0.l;lia
 have sD:=aD hD (.lst []);refine bX (xs:=us) (fun i zs H'=>aK H2 H'/\H' D=some (.lst zs)/\LnH K H' zs (X.take i)/\∀x∈zs,x≠.ref D) ⟨sD,aB,by rw[take_zero];exact .nil,fun x hx=>by cases hx⟩ (fun i zs H' h=>h.2.1) (fun i zs H' _ h=>h.1.seq hU2) ?_ ?_
 ·rintro i zs x H2 hx ⟨s2,e2,G2,n2⟩ C' hC';have hi:i < X.length:=by have:=(List.getElem?_eq_some_iff.mp hx).1;have:=hL0.l;lia
  have hc:X[i]?=some X[i]:=getElem?_eq_getElem hi;obtain⟨ra,rx,rfl,era,Sra⟩:=(hL0.same s2).r i x _ hx hc;have lz:=G2.l;rw[length_take] at lz;refine⟨bU.1,bU.2,cT ?_⟩;refine⟨_,rfl,ra,rx,rfl,.inl era,fun L hL=>?_⟩;have sL:=aD hL (.lst rx);have eL:upd H2 L (.lst rx) L=some (.lst rx):=aB;generalize upd H2 L (.lst rx)=H3' at sL eL ⊢;have e23:=sL _ _ e2;have nLK:L≠D:=Ne.symm (bB e2 hL);refine⟨e23,aW (by lia),hC' _ _ ⟨(s2.trans sL).change hD,aB,?_,fun y hy=>?_⟩⟩
  ·rw[take_add_one,hc];refine((G2.same sL).snoc eL (Sra.same sL)).upd e23 fun y hy=>?_;rcases mem_append.mp hy with z | z
   ·exact n2 y z
   ·have:y=.ref L:=by simpa using z
    rw[this];exact fun z=>nLK (by injection z)
  ·rcases mem_append.mp hy with z | z
   ·exact n2 y z
   ·have:y=.ref L:=by simpa using z
    rw[this];exact fun z=>nLK (by injection z)
 rintro zs HZ ⟨sZ,eZ,GZ,nZ⟩;rw[hL0.l,take_length] at GZ;have etZ:=sZ _ _ et1;have epZ:=sZ _ _ ep1;have ntD:t≠D:=bB et1 hD;have l1:=eO ("places":Str) (.ref p) [];simp only[length_nil] at l1;refine⟨_,rfl,t,CT,dx,dG "places" (.ref p) [],rfl,etZ,TBx.cl,TBx.nL,by lia,?_⟩;have x2:cP t HZ (upd HZ t (.ins CT dx (dG "lines" (.ref D) (dG "places" (.ref p) [])))):=fun b o h nb=>by rw[aM nb];exact h
 have et2:upd HZ t (.ins CT dx (dG "lines" (.ref D) (dG "places" (.ref p) []))) t=some (.ins CT dx (dG "lines" (.ref D) (dG "places" (.ref p) []))):=aB;have hC3:=cP.seqI etZ x2 (sZ.seq hC2);have hF3:=cP.fqsI etZ x2 (hF2.same sZ);have ep3:=x2 _ _ epZ (Ne.symm ntp);have eD3:=x2 _ _ eZ (Ne.symm ntD);have G3:=cP.lnsI etZ x2 GZ.lns;generalize upd HZ t (.ins CT dx (dG "lines" (.ref D) (dG "places" (.ref p) [])))=H4 at x2 et2 hC3 hF3 ep3 eD3 G3 ⊢;refine⟨_,rfl,c,_,rfl,.inl hC3,fun a ha=>?_⟩;have nta:t≠a:=bB et2 ha;have s5:=aD ha (.lst ys);have ea:upd H4 a (.lst ys) a=some (.lst ys):=aB;generalize upd H4 a (.lst ys)=H5 at s5 ea ⊢;have l2:=eO ("lines":Str) (.ref D) (dG "places" (.ref p) []);refine⟨_,rfl,t,CT,dx,dG "lines" (.ref D) (dG "places" (.ref p) []),rfl,s5 _ _ et2,TBx.cl,TBx.nA,by lia,?_⟩;have et5:=s5 _ _ et2;have x3:cP t H5 (upd H5 t (.ins CT dx (mS p D a))):=fun b o h nb=>by rw[aM nb];exact h
 refine q _ (fun b o h nb=>x3 _ _ (s5 _ _ (x2 _ _ (sZ _ _ (x1 _ _ h nb)) nb)) nb) ⟨dx,p,D,a,zs,ys,aB,SqL.of (x3 _ _ (s5 _ _ ep3) (Ne.symm ntp)),SqL.of (x3 _ _ (s5 _ _ eD3) (Ne.symm ntD)),cP.lnsI et5 x3 (G3.same s5),SqL.of (x3 _ _ ea (Ne.symm nta)),cP.fqsI et5 x3 (hF3.same s5)⟩
theorem iY {X:Cx}{K:Frag}(h:X.K=K):OpR X (compareOp .NotIn) (rIn K true):=by subst h;exact yP
theorem Rm (p c:Int):eqV (.int p) (.int c)=decide (p=c):=by unfold eqV;first | rfl | simp
theorem lL (c:Int):∀ps:List Int,inV (.int c) (ps.map V.int)=decide (c∈ps)
 | []=>rfl
 |p :: ps=>by
  have ih:=lL c ps;show (eqV (.int p) (.int c) || inV (.int c) (ps.map V.int))=_;rw[ih,Rm]
  by_cases h:p=c
  ·subst h;simp
  ·have h':c≠p:=fun z=>h z.symm;simp[h,h']
theorem jF:∀ps:List Int,(ps.map V.int).all mP=true
 | []=>rfl
 |p :: ps=>by show (true && (ps.map V.int).all mP)=true;rw[jF ps];rfl
abbrev fH (ks:List Nat):List V:=ks.map fun (i:Nat)=>V.int (i:Int)
def dJ (ks:List Nat)(X:List (List Mq.Q2)):List (List Mq.Q2):=ks.map fun i=>ks.map fun j=>Mq.ix2 X i j
def uA (K:Frag):Sp:=fun vs H Q _=>∃(g l:Addr) (us:List V) (X:List (List Mq.Q2)) (ks:List Nat) (w:Nat),vs=[.ref g,.ref l]/\SqL K H g us/\Lns K H us X/\X.length=w/\(∀row∈X,row.length=w)/\SqL K H l (fH ks)/\(∀k∈ks,k < w)/\ks.length<=100/\∀l' zs H',aK H H'->H' l'=some (.lst zs)->LnH K H' zs (dJ ks X)->Q (.ref l') H'
theorem kG:(["line","places","matrix"]:List Str).Nodup:=by decide +kernel
theorem kH:(["column","matrix","line"]:List Str).Nodup:=by decide +kernel
abbrev Pn:Stmt:=top 64
theorem Wk:aQ ["matrix","places"] ["matrix","places"] (aH Pn):=sK9 rfl rfl rfl rfl (by decide +kernel)
theorem Ra {dV:Value}(F:aU K "picked" "picked" Pn dV f fd) :
  aJ P w K mg base CX 1 f fd ["matrix","places"] (uA K):=by
 refine F.ok Wk (fun vs H Q E h=>?_) fun cdv A outer s H vs Q E hr h=>?_
 ·obtain⟨_,_,_,_,_,_,rfl,_⟩:=h;rfl
 obtain⟨g,l,us,X,ks,w',rfl,hU,hX,lX,wX,hK,hk,h100,q⟩:=h;refine⟨_,(aF (aX (Qa (nl:=1) (fr:=[1,0]) (Nc:=["line","places","matrix"]) (cl:=[("places",s.heap.objs.size+2),("matrix",s.heap.objs.size+1)]) (x0:="line") rfl ⟨rfl,rfl,by decide +kernel,fun _=>rfl,fun _=>rfl,rfl,(bG rfl (bG rfl (dA))),fun _=>cC rfl,rfl,fun i n h=>match i,h with | 0,h=>by cases h;exact⟨1,rfl,rfl,rfl,rfl,.inl rfl⟩ | 1,h=>by cases h;exact⟨0,rfl,rfl,rfl,rfl,.inl rfl⟩ | k+2,h=>by rw[show 1+(k+2)=k+3 by lia] at h;cases h⟩
    (bO (pv 1)) (fun C s3 H3 fp pins=>(aR (i:=0) kG rfl (Or.inr rfl))) (fun C s3 H3 fp pins=>cA)
    (fun C s3 H3 fp pins=>(cL (nl:=1) (fr:=[2,0]) (Nc:=["column","matrix","line"]) (cl:=[("matrix",s.heap.objs.size+1),("line",C+1)]) rfl ⟨rfl,rfl,by decide +kernel,by decide +kernel,(bG rfl (bG rfl (dA))),cC rfl,rfl,fun i n h=>match i,h with | 0,h=>by cases h;exact⟨2,rfl,rfl,rfl,rfl,.inl rfl⟩ | 1,h=>by cases h;exact⟨0,rfl,rfl,rfl,rfl,.inl rfl⟩ | k+2,h=>by rw[show 1+(k+2)=k+3 by lia] at h;cases h⟩
    (Nx (K:=K) rfl (pv 1)) (fun C s3 H3 fp pins=>(aR (i:=0) kH rfl (Or.inl rfl))) (fun C s3 H3 fp pins=>cA)
    (fun C s3 H3 fp pins=>(aY (fD (K:=K) rfl) (aY (fD (K:=K) rfl) (pv 1) (pv 2) (fun _ _=>rfl)) (pv 0) (fun _ _=>rfl)))))))),?_⟩
 have ek:∀i x,(fH ks)[i]?=some x->i < ks.length/\x=.int (ks.getD i 0:Nat)/\ks[i]?=some (ks.getD i 0)/\ks.getD i 0 < w':=fun i x h=>by
  rw[getElem?_map] at h
  cases e:ks[i]? with
  |none=>rw[e] at h;cases h
  |some k=>
   rw[e] at h
   cases h
   have g:ks.getD i 0=k:=by rw[getD_eq_getElem?_getD,e];rfl
   rw[g];exact⟨(List.getElem?_eq_some_iff.mp e).1,rfl,rfl,hk k (mem_of_getElem? e)⟩
 refine⟨_,rfl,l,rfl,⟨_,hK⟩,fun D hD=>?_⟩;have sD:=aD hD (.lst []);refine bX (xs:=fH ks) (fun i zs H'=>aK H H'/\H' D=some (.lst zs)/\LnH K H' zs ((dJ ks X).take i)/\∀x∈zs,x≠.ref D) ⟨sD,aB,by rw[take_zero];exact .nil,fun x hx=>by cases hx⟩ (fun i zs H' h=>h.2.1) (fun i zs H' _ h=>h.1.seq hK) ?_ ?_
 ·rintro i zs x H1 hx ⟨s1,e1,F1,n1⟩ C hC;obtain⟨hi,rfl,ei,li⟩:=ek i x hx;obtain⟨u,xs,eu,hu,fu⟩:=hX.at (qG (show ks.getD i 0 < X.length by lia));have wr:=wX _ (mem_of_getElem? (qG (show ks.getD i 0 < X.length by lia)));have lz:=F1.l;rw[length_take] at lz;have lp:(dJ ks X).length=ks.length:=by unfold dJ;simp
  rw[lp] at lz;refine⟨bU.1,bU.2,cT ?_⟩;refine⟨_,rfl,l,rfl,⟨_,s1.seq hK⟩,fun L hL=>?_⟩;have sL:=aD hL (.lst []);refine bX (xs:=fH ks) (fun j zs' H'=>aK H1 H'/\H' L=some (.lst zs')/\Fqs K H' zs' ((ks.map fun j=>Mq.ix2 X (ks.getD i 0) j).take j)) ⟨sL,aB,.nil⟩ (fun j zs' H' h=>h.2.1) (fun j zs' H' _ h=>h.1.seq (s1.seq hK)) ?_ ?_
  ·rintro j zs' y H2 hy ⟨s2,e2,F2⟩ C' hC';obtain⟨hj,rfl,ej,lj⟩:=ek j y hy;obtain⟨v,ev,fv⟩:=fu.at (gU (show ks.getD j 0 < (X.getD (ks.getD i 0) []).length by lia));have lz':=F2.length;rw[length_take,length_map] at lz';refine⟨bU.1,bU.2,cT ?_⟩;have s02:=s1.trans s2;refine⟨_,rfl,_,rfl,g,us,_,_,rfl,rfl,s02.seq hU,cH eu,_,rfl,u,xs,_,_,rfl,rfl,s02.seq hu,cH ev,?_⟩;refine⟨e2,aW (by lia),hC' _ _ ⟨s2.change hL,aB,?_⟩⟩;rw[take_add_one,getElem?_map,ej];exact(F2.app (.cons (s02.seqT fv) .nil)).upd e2
  rintro zs' H2 ⟨s2,e2,F2⟩;rw[length_map,take_of_length_le (by simp)] at F2;have eA:=s2 _ _ e1;have nLD:L≠D:=fun z=>by rw[z,e1] at hL;cases hL
  refine⟨eA,aW (by lia),hC _ _ ⟨(s1.trans s2).change hD,aB,?_,fun z hz=>?_⟩⟩
  ·have:(dJ ks X)[i]?=some (ks.map fun j=>Mq.ix2 X (ks.getD i 0) j):=by unfold dJ;rw[getElem?_map,ei];rfl
   rw[take_add_one,this];refine((F1.same s2).snoc e2 F2).upd eA fun z hz=>?_;rcases mem_append.mp hz with c | c
   ·exact n1 z c
   ·have:z=.ref L:=by simpa using c
    rw[this];exact fun c=>nLD (by injection c)
  ·rcases mem_append.mp hz with c | c
   ·exact n1 z c
   ·have:z=.ref L:=by simpa using c
    rw[this];exact fun c=>nLD (by injection c)
 rintro zs H1 ⟨s1,e1,F1,n1⟩;rw[length_map,take_of_length_le (by unfold dJ;simp)] at F1;exact q D zs H1 s1 e1 F1
theorem Xi {X:Cx}{K:Frag}(hK:X.K=K){o e:Expr}{es:List Expr}{to:TE}{t:TA}{name:Str}{apos cpos:Pos}{T id:String}{r:V->List V->Hp->VK->Prop}(pa:PySem.PlainAttrs T)(slot:PySem.Slot T name id)(hty:typeOf (.builtin id)=pure (.type "method_descriptor"))(hm:MtR X id r)(ho:PE X o to)(ha:PA X (e :: es) t)(hbase:attributeBase o name X.env (eval o X.env)=eval o X.env:=by rfl)(hfew:((backTo cpos (starEach (e :: es) X.env)).all (fun x=>!x.1) && (backToKw cpos (keywordEach [] X.env)).all (fun x=>x.1.isSome)
   && decide ((e :: es).length+([]:List Keyword).length+(if ([]:List Keyword).isEmpty then 0 else 1) < 30))=true:=by rfl)(hline:(apos.endLine == cpos.line)=true:=by rfl)(hs:starEach (e :: es) X.env=(false,eval e X.env) :: starEach es X.env:=by rfl)(hplain:(backTo cpos (starEach es X.env)).any (·.1)=false:=by rfl) :
  PE X (.Call (.Attribute o name apos) (e :: es) [] cpos) (tBM K T r to t):=by subst hK;exact uV pa slot hty hm ho ha hbase hfew hline hs hplain
theorem Os (xs:List V)(h:1<=xs.length):jR xs none (some (-1))=xs.take (xs.length - 1):=by
 unfold jR;have h1:HT.sIx xs.length 0 none=0:=rfl;have h2:HT.sIx xs.length xs.length (some (-1))=xs.length - 1:=by simp[HT.sIx];lia
 rw[h1,h2];rfl
theorem Qr {xs:List V}{n:Nat}{v:V}(hl:xs.length=n+1)(h:xs[n]?=some v):atI xs (-1)=some v:=by
 have e:xs=xs.take n++[v]:=by
  have:=take_append_drop n xs;have d:xs.drop n=[v]:=by
   refine ext_getElem? fun i=>?_;rw[getElem?_drop]
   cases i with
   |zero=>rw[Nat.add_zero,h];rfl
   |succ j=>rw[getElem?_eq_none (by lia)];simp
  rw[d] at this;exact this.symm
 rw[e];exact Mf _ _
theorem xC {H H':Hp}{x dx:Addr}{C:Addr}(hx:H x=none)(hd:H dx=none)(nd:dx≠x)(s:cP x (upd (upd H dx (.own x)) x (.ins C dx [])) H'):aK H H':=fun b o h=>by
 have n1:b≠x:=fun z=>by rw[z,hx] at h;cases h
 have n2:b≠dx:=fun z=>by rw[z,hd] at h;cases h
 exact s b o (by rw[aM n1,aM n2];exact h) n1
theorem Cd {K:Frag}{H:Hp}{x dx:Addr}{C:Addr}(hx:H x=none)(hd:H dx=none)(nd:dx≠x):aK H (upd (upd H dx (.own x)) x (.ins C dx [])):=fun b o h=>by
 have n1:b≠x:=fun z=>by rw[z,hx] at h;cases h
 have n2:b≠dx:=fun z=>by rw[z,hd] at h;cases h
 rw[aM n1,aM n2];exact h
def iP (m:Nat):List Int:=(List.range m).map fun (i:Nat)=>(i:Int)
theorem Bk (m:Nat):(iP m).length=m:=by unfold iP;rw[length_map,length_range]
theorem yA {m i:Nat}(h:i < m):(iP m)[i]?=some (i:Int):=by unfold iP;rw[getElem?_map,getElem?_range h];rfl
theorem zS {m i:Nat}(h:i < m):(i:Int)∈iP m:=mem_of_getElem? (yA h)
theorem Rk (m:Nat):(iP m).Nodup:=by
 unfold iP;refine pairwise_map.mpr ((nodup_range (n:=m)).imp fun {a b} h z=>h ?_);lia
theorem Nt {m i:Nat}(h:i < m):(iP m).idxOf (i:Int)=i:=by
 have hl:i < (iP m).length:=by rw[Bk];exact h
 have e:=yA h;rw[getElem?_eq_getElem hl] at e;injection e with e
 rw[<- e];exact(Rk m).idxOf_getElem i hl
abbrev ups (es:List Nat):List Int:=es.map fun (i:Nat)=>(i:Int)
theorem gS (es:List Nat):(ups es).map V.int=fH es:=by rw[map_map];rfl
theorem lW {es:List Nat}{i:Nat}:(i:Int)∈ups es↔i∈es:=by
 refine⟨fun h=>?_,fun h=>mem_map.mpr ⟨i,h,rfl⟩⟩;obtain⟨j,hj,e⟩:=mem_map.mp h;have:j=i:=by lia
 rw[<- this];exact hj
def inn (m:Nat)(es:List Nat):List Nat:=(List.range m).filter fun i=>decide (i∉es)
theorem kR (i:Nat)(es:List Nat):inn (i+1) es=inn i es++if i∈es then [] else [i]:=by
 unfold inn;rw[range_succ,filter_append]
 by_cases h:i∈es
 ·simp[h]
 ·simp[h]
theorem gM {m i:Nat}{es:List Nat}:i∈inn m es↔i < m/\i∉es:=by unfold inn;simp
theorem yW (m:Nat)(es:List Nat):(inn m es).length<=m:=by
 have:=length_filter_le (fun i=>decide (i∉es)) (List.range m);rw[length_range] at this;exact this
theorem Rr {m:Nat}:∀{es:List Nat},es.Nodup->(∀e∈es,e < m)->(inn m es).length+es.length=m:=fun {es} nd lt=>by
 have p:(inn m es++es).Nodup:=by
  refine nodup_append.mpr ⟨Pairwise.filter _ nodup_range,nd,fun a ha b hb z=>?_⟩;exact(gM.mp ha).2 (z ▸ hb)
 have a:=p.length_le_of_subset (l₂:=List.range m) fun x hx=>by
  rcases mem_append.mp hx with z | z
  ·exact mem_range.mpr (gM.mp z).1
  ·exact mem_range.mpr (lt x z)
 have b:=Nodup.length_le_of_subset (nodup_range (n:=m)) (l₂:=inn m es++es) fun x hx=>by
  by_cases h:x∈es
  ·exact mem_append.mpr (.inr h)
  ·exact mem_append.mpr (.inl (gM.mpr ⟨mem_range.mp hx,h⟩))
 rw[length_range,List.length_append] at a b;lia
structure TbC (m k:Nat) (X:List (List Mq.Q2)) (cs:List Mq.Q2):Prop where
 m20:m<=20
 k1:1<=k
 lX:X.length=m
 lc:cs.length=m
 bits:10+k+k*(m+1)<=8000
 bits2:bw (k+k) m+k<=8900
 r:∃L:Int,1<=L/\Mq.B k L/\(∀row∈X,row.length=m/\∀p∈row,1<=p.2/\Bd k p/\p.2 ∣ L)/\∀p∈cs,1<=p.2/\Bd k p/\p.2 ∣ L
def znP (od:List Nat)(X:List (List Mq.Q2))(cs:List Mq.Q2):List (List Mq.Q2):=od.map fun i=>(od.map fun j=>Mq.ix2 X i j)++[cs.getD i Mq.z0]
theorem zN {od:List Nat}{X:List (List Mq.Q2)}{cs:List Mq.Q2}:(znP od X cs).length=od.length:=by unfold znP;rw[length_map]
theorem Yj {od:List Nat}{i:Nat}{X:List (List Mq.Q2)}{cs:List Mq.Q2}(h:i < od.length):(znP od X cs)[i]?=some ((od.map fun j=>Mq.ix2 X (od.getD i 0) j)++[cs.getD (od.getD i 0) Mq.z0]):=by
 unfold znP;rw[getElem?_map,getD_eq_getElem?_getD,getElem?_eq_getElem h];rfl
theorem TbC.rd {m k c:Nat}{X:List (List Mq.Q2)}{cs:List Mq.Q2}(h:TbC m k X cs){od:List Nat}(lo:od.length=m)(om:∀i∈od,i < m)(hc:c<=m):RdC m c (m+1) k (znP od X cs):=by
 obtain⟨L,L1,LB,hX,hC⟩:=h.r;refine⟨by rw[zN,lo],by have:=h.m20;lia,by lia,by have:=h.m20;lia,hc,h.k1,h.bits,h.bits2,L,L1,LB,fun row hr=>?_⟩;obtain⟨i,hi,rfl⟩:=mem_map.mp hr;have im:=om i hi;refine⟨by rw[List.length_append,length_map,lo];rfl,fun p hp=>?_⟩;obtain⟨a,b⟩:=hX _ (mem_of_getElem? (qG (show i < X.length by rw[h.lX];exact im)));rcases mem_append.mp hp with z | z
 ·obtain⟨j,hj,rfl⟩:=mem_map.mp z;exact b _ (mem_of_getElem? (gU (show j < (X.getD i []).length by rw[a];exact om j hj)))
 ·rw[mem_singleton.mp z];exact hC _ (mem_of_getElem? (gU (show i < cs.length by rw[h.lc];exact im)))
def Op (CT:Addr)(K:Frag):Sp:=fun vs H Q _=>∃(t b:Addr) (m k:Nat) (es:List Nat) (X:List (List Mq.Q2)) (cs:List Mq.Q2),vs=[.ref t,.ref b]/\iK CT K H t (iP m) X cs/\TbC m k X cs/\H b=some (.lst ((ups es).map V.int))/\es.Nodup/\(∀e∈es,e < m)/\∀x Y ds H',aK H H'->iK CT K H' x (ups es) Y ds->Q (.ref x) H'
theorem Ag:(["end","ends"]:List Str).Nodup:=by decide +kernel
theorem tW:(["point","table"]:List Str).Nodup:=by decide +kernel
theorem hV:(["line","place","table"]:List Str).Nodup:=by decide +kernel
abbrev Yd:Stmt:=top 63
theorem zW:aQ ["table","ends","inner","order","lines","left"] ["table","ends"] (aH Yd):=sK9 rfl rfl rfl rfl (by decide +kernel)
theorem Ym {dV:Value}(F:aU K "narrowed" "narrowed" Yd dV f fd){CT:Addr}(TBx:TB K mg CT)(mz:mg "zip"=none)(ml:mg "len"=none){gTI:Addr}{gdTI:FuncData}(GTI:aJ P w K mg base CX0 1 gTI gdTI ["self","ends","matrix","comes"] (yB CT K))(bTI:aP K gdTI ["self","ends","matrix","comes"] [])(MT:Mk K CT gTI)(G1:aJ P w K mg base CX0 1 g1 gd1 ["matrix","places"] (uA K))(b1:aP K gd1 ["matrix","places"] [])(k1:kI9 K g1)(m1:mI9 mg "picked" g1)(G2:aJ P w K mg base CX0 4 g2 gd2 ["matrix","count"] (Og K))(b2:aP K gd2 ["matrix","count"] [])(k2:kI9 K g2)(m2:mI9 mg "reduced" g2) :
  aJ P w K mg base CX 5 f fd ["table","ends"] (Op CT K):=by
 refine F.ok zW (fun vs H Q E h=>?_) fun cdv A outer s H vs Q E hr h=>?_
 ·obtain⟨_,_,_,_,_,_,_,rfl,_⟩:=h;rfl
 obtain⟨t,b,m,kk,es,X,cs,rfl,TA,SQ,hb,hnd,hlt,q⟩:=h;have r1:=hr.mono (show 1<=4 by lia);have r2:=hr.mono (show 2<=4 by lia);have hu:=Qj hr;refine⟨_,(aE (hZ (i:=2) (nl:=1) (fr:=[1]) (Nc:=["end","ends"]) (cl:=[("ends",s.heap.objs.size+2)]) zW.nd rfl rfl rfl ⟨rfl,rfl,by decide +kernel,by decide +kernel,(bG rfl (dA)),cC rfl,rfl,fun i n h=>match i,h with | 0,h=>by cases h;exact⟨1,rfl,rfl,rfl,rfl,.inl rfl⟩ | k+1,h=>by rw[show 1+(k+1)=k+2 by lia] at h;cases h⟩
    (bO (cK (pv 0) rfl)) (fun C s3 H3 fp pins=>(aR (i:=0) Ag rfl (Or.inl rfl))) (fun C s3 H3 fp pins=>(sG (bK (iY (K:=K) rfl) (pv 0) (pv 1) rfl)))
    (fun C s3 H3 fp pins=>(pv 0)) rfl)
  (aE (hZ (i:=3) (nl:=1) (fr:=[0]) (Nc:=["point","table"]) (cl:=[("table",s.heap.objs.size+1)]) zW.nd rfl rfl rfl ⟨rfl,rfl,by decide +kernel,by decide +kernel,(bG rfl (dA)),cC rfl,rfl,fun i n h=>match i,h with | 0,h=>by cases h;exact⟨0,rfl,rfl,rfl,rfl,.inl rfl⟩ | k+1,h=>by rw[show 1+(k+1)=k+2 by lia] at h;cases h⟩
    (bO (aZ nX (pv 2) (pv 1))) (fun C s3 H3 fp pins=>(aR (i:=0) tW rfl (Or.inl rfl))) (fun C s3 H3 fp pins=>cA)
    (fun C s3 H3 fp pins=>(Xi (K:=K) rfl PySem.F.plainAttrs_list PySem.F.slot_list_index PySem.F.type_list_index (Jk (K:=K) rfl) (Fg (K:=K) rfl (pv 1) rfl) (aA (pv 0) aC))) rfl)
  (aE (hZ (i:=4) (nl:=2) (fr:=[0]) (Nc:=["line","place","table"]) (cl:=[("table",s.heap.objs.size+1)]) (g:=(Aa K 2 (iF (gD 0) (iF (gD 1) Ch)))) zW.nd rfl rfl rfl ⟨rfl,rfl,by decide +kernel,by decide +kernel,(bG rfl (dA)),cC rfl,rfl,fun i n h=>match i,h with | 0,h=>by cases h;exact⟨0,rfl,rfl,rfl,rfl,.inl rfl⟩ | k+1,h=>by rw[show 2+(k+1)=k+3 by lia] at h;cases h⟩
    (lK rfl mz rfl (aA (aI G1 r1 rfl m1 k1 b1 .nil aS (aA (cK (pv 0) rfl) (aA (pv 3) aC))) (aA (pv 3) aC))) (fun C s3 H3 fp pins=>(gW rfl (bQ (aR (i:=0) hV rfl (Or.inl rfl)) (bQ (aR (i:=1) hV rfl (Or.inl rfl)) fE)))) (fun C s3 H3 fp pins=>cA)
    (fun C s3 H3 fp pins=>(aZ nX (pv 0) (cX (aA (aY (fD (K:=K) rfl) (Fg (K:=K) rfl (pv 2) rfl) (pv 1) (fun _ _=>rfl)) aC)))) rfl)
  (aE (aV (i:=5) zW.nd rfl (Or.inl rfl) (aI G2 hr rfl m2 k2 b2 .nil aS (aA (pv 4) (aA (bH bD rfl ml PySem.boot_len (aA (pv 2) aC)) aC))))
  (aF (aX (lY MT GTI r2 rfl TBx.mT bTI .nil aS (aA (pv 1) (aA (cL (nl:=1) (fr:=[]) (Nc:=["line"]) (cl:=[]) rfl ⟨rfl,rfl,by decide +kernel,by decide +kernel,fun x c h=>(by cases h),cC rfl,rfl,fun i n h=>(by simp at h)⟩
    (bO (pv 5)) (fun C s3 H3 fp pins=>(aR (i:=0) xR rfl (Or.inl rfl))) (fun C s3 H3 fp pins=>cA)
    (fun C s3 H3 fp pins=>(gA (Cb (K:=K) rfl) (pv 0) jS (fY (sU nV aG))))) (aA (cL (nl:=1) (fr:=[]) (Nc:=["line"]) (cl:=[]) rfl ⟨rfl,rfl,by decide +kernel,by decide +kernel,fun x c h=>(by cases h),cC rfl,rfl,fun i n h=>(by simp at h)⟩
    (bO (pv 5)) (fun C s3 H3 fp pins=>(aR (i:=0) xR rfl (Or.inl rfl))) (fun C s3 H3 fp pins=>cA)
    (fun C s3 H3 fp pins=>(aY (fD (K:=K) rfl) (pv 0) (sU nV aG) (fun _ _=>rfl)))) aC)))))))))),?_⟩
 obtain⟨⟨dx,p,l,a,us,zc,ht,hp,hU,hL0,ha,hC⟩⟩:=TA;have m20:=SQ.m20;have lX:=SQ.lX;have lc:=SQ.lc;have li:=Bk m;obtain⟨LL,L1,LB,hX,hCs⟩:=SQ.r;have gi:∀{i:Nat} {x:V},((iP m).map V.int)[i]?=some x->i < m/\x=.int (i:Int):=fun {i x} h=>by
  have hl:=(List.getElem?_eq_some_iff.mp h).1;rw[length_map,li] at hl;rw[getElem?_map,yA hl] at h
  cases h
  exact⟨hl,rfl⟩
 have le:=Rr hnd hlt;refine⟨_,rfl,t,CT,_,_,_,rfl,ht,TBx.cl,TBx.nP,yL _ _ _,p,rfl,⟨_,hp⟩,fun D1 hD1=>?_⟩;have sD1:=aD hD1 (.lst []);refine bX (xs:=(iP m).map V.int) (fun i zs H'=>aK H H'/\H' D1=some (.lst zs)/\zs=fH (inn i es)) ⟨sD1,aB,rfl⟩ (fun i zs H' h=>h.2.1) (fun i zs H' _ h=>h.1.seq hp) ?_ ?_
 ·rintro i zs x H1 hx ⟨s1,e1,rfl⟩ C hC;obtain⟨hi,rfl⟩:=gi hx;refine⟨bU.1,bU.2,_,rfl,_,rfl,b,_,rfl,.inl (SqL.of (s1 _ _ hb)),rfl,jF _,?_⟩;rw[lL];refine⟨_,rfl,?_⟩
  by_cases c:i∈es
  ·rw[decide_eq_true (lW.mpr c)];refine L2.ifF rfl ?_;exact hC _ _ ⟨s1,e1,by rw[kR,if_pos c,append_nil]⟩
  ·rw[decide_eq_false (fun z=>c (lW.mp z))];refine L2.ifT rfl ?_;refine⟨_,rfl,e1,aW (by rw[length_map];have:=yW i es;lia),hC _ _ ⟨s1.change hD1,aB,?_⟩⟩;rw[kR,if_neg c];show _=map _ _;rw[map_append];rfl
 rintro zs1 H1 ⟨s1,e1,rfl⟩;rw[length_map,li] at e1;refine⟨_,rfl,_,rfl,D1,b,_,_,rfl,rfl,e1,s1 _ _ hb,?_,fun B hB=>?_⟩
 ·rw[length_map,length_map,length_map];exact Nat.le_trans (show _<=100 by lia) (by decide)
 have eo:fH (inn m es)++(ups es).map V.int=fH (inn m es++es):=by rw[gS];show _=map _ _;rw[map_append]
 rw[eo];have lo:(inn m es++es).length=m:=by rw[List.length_append];exact le
 have om:∀i∈inn m es++es,i < m:=fun i hi=>by
  rcases mem_append.mp hi with z | z
  ·exact(gM.mp z).1
  ·exact hlt i z
 generalize inn m es++es=od at lo om ⊢;have go:∀{i:Nat} {x:V},(fH od)[i]?=some x->i < m/\x=.int ((od.getD i 0:Nat):Int)/\od.getD i 0 < m:=fun {i x} h=>by
  have hl:=(List.getElem?_eq_some_iff.mp h).1;rw[length_map] at hl;have e:=getElem?_eq_getElem hl;rw[getElem?_map,e] at h
  cases h
  have e2:od.getD i 0=od[i]:=by rw[getD_eq_getElem?_getD,e];rfl
  rw[e2];exact⟨by lia,rfl,om _ (getElem_mem hl)⟩
 have s2:=aD hB (.lst (fH od));have e2:upd H1 B (.lst (fH od)) B=some (.lst (fH od)):=aB;generalize upd H1 B (.lst (fH od))=H2 at s2 e2 ⊢;have s02:=s1.trans s2;refine⟨B,rfl,⟨_,SqL.of e2⟩,fun D3 hD3=>?_⟩;have sD3:=aD hD3 (.lst []);refine bX (xs:=fH od) (fun i zs H'=>aK H2 H'/\H' D3=some (.lst zs)/\zs=(fH od).take i) ⟨sD3,aB,rfl⟩ (fun i zs H' h=>h.2.1) (fun i zs H' _ h=>h.1.seq (SqL.of e2)) ?_ ?_
 ·rintro i zs x H3 hx ⟨s3,e3,rfl⟩ C hC;have hx0:=hx;obtain⟨hi,rfl,ho⟩:=go hx;have s03:=s02.trans s3;refine⟨bU.1,bU.2,cT ?_⟩;refine⟨_,rfl,t,CT,_,_,_,rfl,s03 _ _ ht,TBx.cl,TBx.nP,yL _ _ _,.inl ⟨rfl,_,s03.seq hp⟩,_,rfl,p,iP m,_,rfl,rfl,s03.seq hp,zS ho,xZ (fun e he=>?_) (by lia),?_⟩
  ·obtain⟨j,hj,rfl⟩:=mem_map.mp he;have:=mem_range.mp hj;lia
  rw[Nt ho];refine⟨e3,aW (by rw[length_take,length_map];lia),hC _ _ ⟨s3.change hD3,aB,?_⟩⟩;rw[take_add_one,hx0];rfl
 rintro zs3 H3 ⟨s3,e3,rfl⟩;rw[take_of_length_le (Nat.le_refl _)] at e3;have s03:=s02.trans s3;refine⟨_,rfl,t,CT,_,_,_,rfl,s03 _ _ ht,TBx.cl,TBx.nL,yK _ _ _,_,rfl,l,D3,us,X,od,m,rfl,s03.seq hU,hL0.same s03,lX,fun row hr=>(hX row hr).1,SqL.of e3,om,by lia,fun P zP H4 s4 e4 LP=>?_⟩;have s04:=s03.trans s4;have lPz:zP.length=m:=by rw[LP.l];unfold dJ;rw[length_map,lo]
 refine⟨_,rfl,P,D3,rfl,⟨_,SqL.of e4⟩,⟨_,SqL.of (s4 _ _ e3)⟩,fun D5 hD5=>?_⟩;have sD5:=aD hD5 (.lst []);refine jA (xs:=zP) (ys:=fH od) (fun i zs H'=>aK H4 H'/\H' D5=some (.lst zs)/\LnH K H' zs ((znP od X cs).take i)/\∀x∈zs,x≠.ref D5) ⟨sD5,aB,by rw[take_zero];exact .nil,fun x hx=>by cases hx⟩ (fun i zs H' h=>h.2.1) (fun i zs H' _ h=>⟨h.1.seq (SqL.of e4),h.1.seq (SqL.of (s4 _ _ e3))⟩) ?_ ?_
 ·rintro i zs x y H5 T1 ex ey ⟨s5,e5,F5,n5⟩ hT C hC';obtain⟨hi,rfl,ho⟩:=go ey;have gX:(dJ od X)[i]?=some (od.map fun j=>Mq.ix2 X (od.getD i 0) j):=by
   unfold dJ;rw[getElem?_map,getD_eq_getElem?_getD,getElem?_eq_getElem (show i < od.length by lia)];rfl
  obtain⟨u,xs,rfl,hu,fu⟩:=LP.r i x _ ex gX;generalize hod:od.getD i 0=oi at ho fu ⊢;obtain⟨v,ev,fv⟩:=hC.at (gU (show oi < cs.length by lia));have lz:=F5.l;rw[length_take,zN] at lz;have sT:=aD hT (.tup [.ref u,.int (oi:Int)]);refine⟨T1,_,rfl,SqT.of aB,rfl,_,_,rfl,_,_,rfl,rfl,iT.1,iT.2,cT ?_⟩;generalize upd H5 T1 (.tup [.ref u,.int (oi:Int)])=H6 at sT ⊢;have s46:=s5.trans sT;have s06:=s04.trans s46;refine⟨_,rfl,_,rfl,t,CT,_,_,_,rfl,s06 _ _ ht,TBx.cl,TBx.nA,Fu _ _ _,_,rfl,a,zc,_,_,rfl,rfl,s06.seq ha,cH ev,(zl9 1),fun L hL=>?_⟩;have sL:=aD hL (.lst [V.ref v]);have eL:upd H6 L (.lst [V.ref v]) L=some (.lst [V.ref v]):=aB;generalize upd H6 L (.lst [V.ref v])=H7 at sL eL ⊢;have lxs:=fu.length;rw[length_map,lo] at lxs;refine⟨u,L,xs,[V.ref v],rfl,rfl,sL _ _ (s46 _ _ hu),eL,?_,fun M hM=>?_⟩
  ·rw[lxs];exact Nat.le_trans (show _<=100 by simp only[length_cons,length_nil];lia) (by decide)
  have sM:=aD hM (.lst (xs++[V.ref v]));have eM:upd H7 M (.lst (xs++[V.ref v])) M=some (.lst (xs++[V.ref v])):=aB;generalize upd H7 M (.lst (xs++[V.ref v]))=H8 at sM eM ⊢;have s58:=sT.trans (sL.trans sM);have eA:=s58 _ _ e5;have nMD:M≠D5:=fun z=>by rw[z,sL _ _ (sT _ _ e5)] at hM;cases hM
  refine⟨eA,aW (by lia),hC' _ _ ⟨(s5.trans s58).change hD5,aB,?_,fun z hz=>?_⟩⟩
  ·rw[take_add_one,Yj (show i < od.length by lia),hod];refine((F5.same s58).snoc eM ((fu.same (s5.trans s58)).app (.cons ((s04.trans (s5.trans s58)).seqT fv) .nil))).upd eA fun z hz=>?_;rcases mem_append.mp hz with c | c
   ·exact n5 z c
   ·have:z=.ref M:=by simpa using c
    rw[this];exact fun c=>nMD (by injection c)
  ·rcases mem_append.mp hz with c | c
   ·exact n5 z c
   ·have:z=.ref M:=by simpa using c
    rw[this];exact fun c=>nMD (by injection c)
 rintro zs5 H5 ⟨s5,e5,F5,n5⟩;rw[lPz,length_map,lo,Nat.min_self,take_of_length_le (by rw[zN];lia)] at F5;have s05:=s04.trans s5;refine⟨_,rfl,_,rfl,D1,_,rfl,.inl (SqL.of ((s2.trans (s3.trans (s4.trans s5))) _ _ e1)),?_⟩;rw[length_map];refine⟨D5,zs5,znP od X cs,m,(inn m es).length,m+1,kk,rfl,SqL.of e5,F5.lns,SQ.rd lo om (yW m es),fun R zR Y H6 s6 e6 LR yl yw=>?_⟩;have s06:=s05.trans s6;have lR:=LR.l;have ye:Y.length=es.length:=by lia
 have e20:es.length<=20:=by lia
 have wY:∀{i:Nat} {r:List Mq.Q2},Y[i]?=some r->r.length=es.length+1:=fun {i r} h=>by
  have:=yw r (mem_of_getElem? h);lia
 refine⟨_,rfl,_,rfl,R,rfl,⟨_,SqL.of e6⟩,fun D7 hD7=>?_⟩;have sD7:=aD hD7 (.lst []);refine bX (xs:=zR) (fun i zs H'=>aK H6 H'/\H' D7=some (.lst zs)/\(∃Z,LnH K H' zs Z/\Z.length=i)/\∀x∈zs,x≠.ref D7) ⟨sD7,aB,⟨[],.nil,rfl⟩,fun x hx=>by cases hx⟩ (fun i zs H' h=>h.2.1) (fun i zs H' _ h=>h.1.seq (SqL.of e6)) ?_ ?_
 ·rintro i zs x H7 hx ⟨s7,e7,⟨Z,F7,lZ⟩,n7⟩ C hC';have hi:i < Y.length:=by have:=(List.getElem?_eq_some_iff.mp hx).1;lia
  obtain⟨u,xs,rfl,hu,fu⟩:=LR.r i x _ hx (getElem?_eq_getElem hi);have lxs:=fu.length;rw[wY (getElem?_eq_getElem hi)] at lxs;have lz:=F7.l;refine⟨bU.1,bU.2,cT ?_⟩;refine⟨_,rfl,_,rfl,_,rfl,u,xs,rfl,s7.seq hu,fun L hL=>?_⟩;rw[Os xs (by lia),show xs.length - 1=es.length by lia];have sL:=aD hL (.lst (xs.take es.length));have eL:upd H7 L (.lst (xs.take es.length)) L=some (.lst (xs.take es.length)):=aB;generalize upd H7 L (.lst (xs.take es.length))=H8 at sL eL ⊢;have eA:=sL _ _ e7;have nLD:L≠D7:=fun z=>by rw[z,e7] at hL;cases hL
  have ft:=(fu.same (s7.trans sL)).take es.length;refine⟨eA,aW (by lia),hC' _ _ ⟨(s7.trans sL).change hD7,aB,⟨Z++[Y[i].take es.length],?_,by rw[List.length_append,lZ];rfl⟩,fun z hz=>?_⟩⟩
  ·skip
   refine((F7.same sL).snoc eL ft).upd eA fun z hz=>?_;rcases mem_append.mp hz with c | c
   ·exact n7 z c
   ·have:z=.ref L:=by simpa using c
    rw[this];exact fun c=>nLD (by injection c)
  ·rcases mem_append.mp hz with c | c
   ·exact n7 z c
   ·have:z=.ref L:=by simpa using c
    rw[this];exact fun c=>nLD (by injection c)
 rintro zs7 H7 ⟨s7,e7,⟨Z,F7,lZ⟩,n7⟩;refine⟨_,rfl,R,rfl,⟨_,SqL.of (s7 _ _ e6)⟩,fun D8 hD8=>?_⟩;have sD8:=aD hD8 (.lst []);refine bX (xs:=zR) (fun i zs H'=>aK H7 H'/\H' D8=some (.lst zs)/\∃ds,Fqs K H' zs ds/\ds.length=i) ⟨sD8,aB,⟨[],.nil,rfl⟩⟩ (fun i zs H' h=>h.2.1) (fun i zs H' _ h=>h.1.seq (SqL.of (s7 _ _ e6))) ?_ ?_
 ·rintro i zs x H8 hx ⟨s8,e8,ds,F8,ld⟩ C hC';have hi:i < Y.length:=by have:=(List.getElem?_eq_some_iff.mp hx).1;lia
  obtain⟨u,xs,rfl,hu,fu⟩:=LR.r i x _ hx (getElem?_eq_getElem hi);have lxs:=fu.length;rw[wY (getElem?_eq_getElem hi)] at lxs;obtain⟨v,ev,fv⟩:=fu.at (i:=es.length) (gU (show es.length < Y[i].length by rw[wY (getElem?_eq_getElem hi)];lia));have lz:=F8.length;refine⟨bU.1,bU.2,cT ?_⟩;refine⟨_,rfl,_,rfl,u,xs,-1,_,rfl,rfl,(s7.trans s8).seq hu,Qr (n:=es.length) (by lia) ev,?_⟩;refine⟨e8,aW (by lia),hC' _ _ ⟨s8.change hD8,aB,ds++[Y[i].getD es.length Mq.z0],?_,by rw[List.length_append,ld];rfl⟩⟩;exact(F8.app (.cons ((s7.trans s8).seqT fv) .nil)).upd e8
 rintro zs8 H8 ⟨s8,e8,ds,F8,ld⟩;have s08:=s06.trans (s7.trans s8);intro x dx' hx hdx ndx;have sN:aK H8 (upd (upd H8 dx' (.own x)) x (.ins CT dx' [])):=Cd (K:=K) hx hdx ndx;refine⟨x,dx',b,D7,D8,ups es,zs7,zs8,_,_,rfl,aB,sN.seq (SqL.of (s08 _ _ hb)),sN.seq (SqL.of (s8 _ _ e7)),(F7.lns.same s8).same sN,?_,sN.seq (SqL.of e8),F8.same sN,fun H9 s9 T9=>⟨rfl,q x _ _ H9 (s08.trans (xC hx hdx ndx s9)) T9⟩⟩;have:=F7.l;lia
structure TbD (n w:Nat) (X:List (List Mq.Q2)) (cs:List Mq.Q2):Prop where
 lX:X.length=w
 lc:cs.length=w
 w8:w<=8
 r:∀row∈X,row.length=w/\∀p∈row,Low p/\Bd n p
 c:∀p∈cs,Low p/\Bd n p
theorem TbD.cat {n w:Nat}{X:List (List Mq.Q2)}{cs:List Mq.Q2}(h:TbD n w X cs){i:Nat}(hi:i < w):Low (cs.getD i Mq.z0)/\Bd n (cs.getD i Mq.z0):=h.c _ (mem_of_getElem? (gU (by rw[h.lc];exact hi)))
theorem Ln {n:Nat}:∀{ps:List Mq.Q2},(∀p∈ps,Bd n p)->Mq.Wt ps ((n+1)*ps.length)
 | [],_=>.nil
 |p :: r,h=>by
  have:=Mq.Wt.cons (h p (by simp)) (Ln (ps:=r) fun q hq=>h q (by simp[hq]));rw[length_cons,Nat.mul_add,Nat.mul_one,Nat.add_comm];exact this
def yJ (ps qs:List Mq.Q2):List Mq.Q2:=zipWith rD ps qs
def dot (ps qs:List Mq.Q2):Mq.Q2:=tot (yJ ps qs)
structure LB (n:Nat) (ps:List Mq.Q2):Prop where
 h:∀p∈ps,Low p/\Bd n p
theorem LB.at {n:Nat}{ps:List Mq.Q2}(h:LB n ps){i:Nat}(hi:i < ps.length):Low (ps.getD i Mq.z0)/\Bd n (ps.getD i Mq.z0):=h.h _ (mem_of_getElem? (gU hi))
theorem kC {ps qs:List Mq.Q2}(hl:ps.length=qs.length):(yJ ps qs).length=ps.length:=by unfold yJ;rw[length_zipWith];lia
theorem yR {ps qs:List Mq.Q2}(hl:ps.length=qs.length){i:Nat}(hi:i < ps.length):(yJ ps qs)[i]?=some (rD (ps.getD i Mq.z0) (qs.getD i Mq.z0)):=by
 unfold yJ;rw[getElem?_zipWith,gU hi,gU (show i < qs.length by lia)]
theorem mC {n m:Nat}{ps qs:List Mq.Q2}(hp:LB n ps)(hq:LB m qs)(hl:ps.length=qs.length):∀p∈yJ ps qs,Low p/\Bd (n+m) p:=fun p h=>by
 obtain⟨i,hi,rfl⟩:=getElem_of_mem h;rw[kC hl] at hi;have e:=yR hl hi;rw[getElem?_eq_getElem (by rw[kC hl];exact hi)] at e;injection e with e
 rw[e];obtain⟨a1,a2⟩:=hp.at hi;obtain⟨b1,b2⟩:=hq.at (i:=i) (by lia);exact⟨Mq.Iu a1.pos b1.pos,Mq.Lo a2 b2 a1.pos b1.pos⟩
theorem Gi {n m:Nat}{ps qs:List Mq.Q2}(hp:LB n ps)(hq:LB m qs)(hl:ps.length=qs.length):Low (dot ps qs):=Hg fun p h=>(mC hp hq hl p h).1.pos
theorem Pz {n m:Nat}{ps qs:List Mq.Q2}(hp:LB n ps)(hq:LB m qs)(hl:ps.length=qs.length):Bd (1+(n+m+1)*ps.length) (dot ps qs):=by
 have:=Mq.Xe (l:=yJ ps qs) (fun p h=>(mC hp hq hl p h).1.pos) (fun p h=>(mC hp hq hl p h).2)
 rwa [kC hl] at this
theorem Rx {n m:Nat}{ps qs:List Mq.Q2}(hp:LB n ps)(hq:LB m qs)(hl:ps.length=qs.length):Mq.val (dot ps qs)=Mq.rs ps.length fun i=>Mq.val (ps.getD i Mq.z0)*Mq.val (qs.getD i Mq.z0):=by
 unfold dot;rw[Mq.Sf (fun p h=>(mC hp hq hl p h).1.pos),Mq.Ad,length_map,kC hl];refine aT fun i hi=>?_;rw[getD_eq_getElem?_getD,getElem?_map,yR hl hi];exact Mq.Jf (hp.at hi).1.pos (hq.at (i:=i) (by lia)).1.pos
def Gb (K:Frag):Sp:=fun vs H Q _=>∃(a b:Addr) (xs ys:List V) (ps qs:List Mq.Q2) (n m:Nat),vs=[.ref a,.ref b]/\SqL K H a xs/\Fqs K H xs ps/\SqL K H b ys/\Fqs K H ys qs/\LB n ps/\LB m qs/\ps.length=qs.length/\ps.length<=10/\n+m+1<=800/\∀r H',aK H H'->Fq K H' r (dot ps qs)->Q (.ref r) H'
def brL (X:List (List Mq.Q2))(cs hs:List Mq.Q2):List Mq.Q2:=zipWith (fun row c=>eQ (dot row hs) c) X cs
def wQ (CT:Addr)(K:Frag):Sp:=fun vs H Q _=>∃(t b:Addr) (es:List Int) (X:List (List Mq.Q2)) (cs hs:List Mq.Q2) (ys:List V) (n m w:Nat),vs=[.ref t,.ref b]/\iK CT K H t es X cs/\TbD n w X cs/\SqL K H b ys/\Fqs K H ys hs/\LB m hs/\hs.length=w/\n+m+1<=800/\∀l zs H',aK H H'->H' l=some (.lst zs)->Fqs K H' zs (brL X cs hs)->Q (.ref l) H'
theorem Eu {n w:Nat}{X:List (List Mq.Q2)}{cs:List Mq.Q2}(h:TbD n w X cs)(hs:List Mq.Q2):(brL X cs hs).length=w:=by unfold brL;rw[length_zipWith,h.lX,h.lc];lia
theorem Pc {n w:Nat}{X:List (List Mq.Q2)}{cs:List Mq.Q2}(h:TbD n w X cs)(hs:List Mq.Q2){i:Nat}(hi:i < w):(brL X cs hs)[i]?=some (eQ (dot (X.getD i []) hs) (cs.getD i Mq.z0)):=by
 unfold brL;rw[getElem?_zipWith,qG (by rw[h.lX];exact hi),gU (by rw[h.lc];exact hi)]
theorem TbD.lb {n w:Nat}{X:List (List Mq.Q2)}{cs:List Mq.Q2}(h:TbD n w X cs){i:Nat}(hi:i < w):(X.getD i []).length=w/\LB n (X.getD i []):=by
 have a:=h.r _ (mem_of_getElem? (qG (by rw[h.lX];exact hi)));exact⟨a.1,⟨a.2⟩⟩
theorem Kx {n m w:Nat}{X:List (List Mq.Q2)}{cs hs:List Mq.Q2}(h:TbD n w X cs)(hh:LB m hs)(hl:hs.length=w){i:Nat}(hi:i < w):Low ((brL X cs hs).getD i Mq.z0)/\Bd (1+(n+m+1)*w+n+1) ((brL X cs hs).getD i Mq.z0)/\Mq.val ((brL X cs hs).getD i Mq.z0)=(Mq.rs w fun j=>kK X i j*cv hs j) - cv cs i:=by
 obtain⟨l1,l2⟩:=h.lb hi;obtain⟨c1,c2⟩:=h.cat hi;have dl:=Gi l2 hh (by lia);have db:=Pz l2 hh (by lia);rw[getD_eq_getElem?_getD,Pc h hs hi];rw[l1] at db;refine⟨Mq.qJ dl.pos c1.pos,Mq.Ai db c2 dl.pos c1.pos,?_⟩;show Mq.val (eQ (dot (X.getD i []) hs) (cs.getD i Mq.z0))=_;rw[pP dl.pos c1.pos,Rx l2 hh (by lia),l1];rfl
theorem jG:(["number","height"]:List Str).Nodup:=by decide +kernel
abbrev Fb:Stmt:=top 62
theorem Tv:aQ ["line","heights"] ["line","heights"] (aH Fb):=sK9 rfl rfl rfl rfl (by decide +kernel)
theorem Of {dV:Value}(F:aU K "along" "along" Fb dV f fd)(mz:mg "zip"=none)(G1:aJ P w K mg base CX0 4 g1 gd1 ["some"] (Oo K))(b1:aP K gd1 ["some"] [])(k1:kI9 K g1)(m1:mI9 mg "total" g1)(G2:aJ P w K mg base CX0 3 g2 gd2 ["one","other"] (lD K rD))(b2:aP K gd2 ["one","other"] [])(k2:kI9 K g2)(m2:mI9 mg "times" g2) :
  aJ P w K mg base CX 5 f fd ["line","heights"] (Gb K):=by
 refine F.ok Tv (fun vs H Q E h=>?_) fun cdv A outer s H vs Q E hr h=>?_
 ·obtain⟨_,_,_,_,_,_,_,_,rfl,_⟩:=h;rfl
 obtain⟨a,b,xs,ys,ps,qs,n,m,rfl,ha,hp,hb,hq,LP,LQ,hl,h10,hn,q⟩:=h;have r3:=hr.mono (show 3<=4 by lia);refine⟨_,(aF (aX (aI G1 hr rfl m1 k1 b1 .nil aS (aA (cL (nl:=2) (fr:=[]) (Nc:=["number","height"]) (cl:=[]) (g:=(Aa K 2 (iF (gD 0) (iF (gD 1) Ch)))) rfl ⟨rfl,rfl,by decide +kernel,by decide +kernel,fun x c h=>(by cases h),cC rfl,rfl,fun i n h=>(by simp at h)⟩
    (lK rfl mz rfl (aA (pv 0) (aA (pv 1) aC))) (fun C s3 H3 fp pins=>(gW rfl (bQ (aR (i:=0) jG rfl (Or.inl rfl)) (bQ (aR (i:=1) jG rfl (Or.inl rfl)) fE)))) (fun C s3 H3 fp pins=>cA)
    (fun C s3 H3 fp pins=>(aI G2 r3 rfl m2 k2 b2 .nil aS (aA (pv 0) (aA (pv 1) aC))))) aC)))),?_⟩
 refine⟨_,rfl,_,rfl,a,b,rfl,⟨_,ha⟩,⟨_,hb⟩,fun D hD=>?_⟩;have sD:=aD hD (.lst []);have lx:=hp.length;have ly:=hq.length;refine jA (xs:=xs) (ys:=ys) (fun i zs H'=>aK H H'/\H' D=some (.lst zs)/\Fqs K H' zs ((yJ ps qs).take i)) ⟨sD,aB,.nil⟩ (fun i zs H' h=>h.2.1) (fun i zs H' _ h=>⟨h.1.seq ha,h.1.seq hb⟩) ?_ ?_
 ·rintro i zs x y H1 T1 ex ey ⟨s1,e1,F1⟩ hT C hC;have hi:i < ps.length:=by have:=(List.getElem?_eq_some_iff.mp ex).1;lia
  obtain⟨u,p,rfl,ep,fu⟩:=hp.get ex;obtain⟨v,p',rfl,ep',fv⟩:=hq.get ey;rw[gU hi] at ep;rw[gU (show i < qs.length by lia)] at ep'
  cases ep
  cases ep'
  have lz:=F1.length;rw[length_take,kC hl] at lz;have sT:=aD hT (.tup [.ref u,.ref v]);refine⟨T1,_,rfl,SqT.of aB,rfl,_,_,rfl,_,_,rfl,rfl,iT.1,iT.2,cT ?_⟩;generalize upd H1 T1 (.tup [.ref u,.ref v])=H2 at sT ⊢;obtain⟨a1,a2⟩:=LP.at hi;obtain⟨b1,b2⟩:=LQ.at (i:=i) (by lia);refine⟨_,rfl,_,rfl,u,v,_,_,n,m,rfl,(s1.trans sT).seqT fu,(s1.trans sT).seqT fv,a1.pos,b1.pos,a2,b2,by lia,fun r H3 s3 e3=>?_⟩;have eA:=s3 _ _ (sT _ _ e1);refine⟨eA,aW (by lia),hC _ _ ⟨(s1.trans (sT.trans s3)).change hD,aB,?_⟩⟩;rw[take_add_one,yR hl hi];exact((F1.same (sT.trans s3)).app (.cons (Fq.of e3) .nil)).upd eA
 rintro zs H1 ⟨s1,e1,F1⟩;rw[lx,ly,<- hl,Nat.min_self,take_of_length_le (by rw[kC hl];lia)] at F1;have W:=Ln (ps:=yJ ps qs) (n:=n+m) (fun p h=>(mC LP LQ hl p h).2);rw[kC hl] at W;have mb:(n+m+1)*ps.length<=800*10:=Nat.mul_le_mul (by lia) h10;exact⟨D,zs,_,_,rfl,SqL.of e1,F1,fun p h=>(mC LP LQ hl p h).1.pos,W,by lia,fun r H2 s2 f2=>q r H2 (s1.trans s2) f2⟩
theorem fP:(["line","arrival","heights"]:List Str).Nodup:=by decide +kernel
abbrev tS:Stmt:=cN (top 61) 4
theorem Ih:aQ ["self","heights"] ["self","heights"] (aH tS):=sK9 rfl rfl rfl rfl (by decide +kernel)
theorem Ew {dV:Value}{CT:Addr}(F:aU K "brought" "Table.brought" tS dV f fd)(TBx:TB K mg CT)(mz:mg "zip"=none)(G1:aJ P w K mg base CX0 5 g1 gd1 ["line","heights"] (Gb K))(b1:aP K gd1 ["line","heights"] [])(k1:kI9 K g1)(m1:mI9 mg "along" g1)(G2:aJ P w K mg base CX0 3 g2 gd2 ["one","other"] (lD K eQ))(b2:aP K gd2 ["one","other"] [])(k2:kI9 K g2)(m2:mI9 mg "minus" g2):aJ P w K mg base CX 6 f fd ["self","heights"] (wQ CT K):=by
 refine F.ok Ih (fun vs H Q E h=>?_) fun cdv A outer s H vs Q E hr h=>?_
 ·obtain⟨_,_,_,_,_,_,_,_,_,_,rfl,_⟩:=h;rfl
 obtain⟨t,b,es,X,cs,hs,ys,n,m,w',rfl,⟨⟨dx,p,l,a,us,zc,ht,hp,hU,hL0,ha,hC⟩⟩,TO,hb,fh,LH,lh,hn,q⟩:=h;have r3:=hr.mono (show 3<=5 by lia);refine⟨_,(aF (aX (cL (nl:=2) (fr:=[1]) (Nc:=["line","arrival","heights"]) (cl:=[("heights",s.heap.objs.size+1)]) (g:=(Aa K 2 (iF (gD 0) (iF (gD 1) Ch)))) rfl ⟨rfl,rfl,by decide +kernel,by decide +kernel,fun x c h=>h,cC rfl,rfl,fun i n h=>match i,h with | 0,h=>by cases h;exact⟨1,rfl,rfl,rfl,rfl,.inl rfl⟩ | k+1,h=>by rw[show 2+(k+1)=k+3 by lia] at h;cases h⟩
    (lK rfl mz rfl (aA (cK (pv 0) rfl) (aA (cK (pv 0) rfl) aC))) (fun C s3 H3 fp pins=>(gW rfl (bQ (aR (i:=0) fP rfl (Or.inl rfl)) (bQ (aR (i:=1) fP rfl (Or.inl rfl)) fE)))) (fun C s3 H3 fp pins=>cA)
    (fun C s3 H3 fp pins=>(aI G2 r3 rfl m2 k2 b2 .nil aS (aA (aI G1 hr rfl m1 k1 b1 .nil aS (aA (pv 0) (aA (pv 2) aC))) (aA (pv 1) aC))))))),?_⟩
 refine⟨_,rfl,t,CT,_,_,_,rfl,ht,TBx.cl,TBx.nL,yK _ _ _,_,rfl,t,CT,_,_,_,rfl,ht,TBx.cl,TBx.nA,Fu _ _ _,l,a,rfl,⟨_,hU⟩,⟨_,ha⟩,fun D hD=>?_⟩;have sD:=aD hD (.lst []);have lu:=hL0.l;have lX:=TO.lX;have lc:=TO.lc;have w8:=TO.w8;have lz0:=hC.length;refine jA (xs:=us) (ys:=zc) (fun i zs H'=>aK H H'/\H' D=some (.lst zs)/\Fqs K H' zs ((brL X cs hs).take i)) ⟨sD,aB,.nil⟩ (fun i zs H' h=>h.2.1) (fun i zs H' _ h=>⟨h.1.seq hU,h.1.seq ha⟩) ?_ ?_
 ·rintro i zs x y H1 T1 ex ey ⟨s1,e1,F1⟩ hT C hC';have hi:i < w':=by have:=(List.getElem?_eq_some_iff.mp ex).1;lia
  obtain⟨u,xs,rfl,hu,fu⟩:=hL0.r i x _ ex (qG (by lia));obtain⟨v,p',rfl,ep',fv⟩:=hC.get ey;rw[gU (show i < cs.length by lia)] at ep'
  cases ep'
  have lz:=F1.length;rw[length_take,Eu TO] at lz;have sT:=aD hT (.tup [.ref u,.ref v]);refine⟨T1,_,rfl,SqT.of aB,rfl,_,_,rfl,_,_,rfl,rfl,iT.1,iT.2,cT ?_⟩;generalize upd H1 T1 (.tup [.ref u,.ref v])=H2 at sT ⊢;have s2:=s1.trans sT;obtain⟨l1,l2⟩:=TO.lb hi;obtain⟨c1,c2⟩:=TO.cat hi;have dl:=Gi l2 LH (by lia);have db:=Pz l2 LH (by lia);rw[l1] at db;refine⟨_,rfl,_,rfl,u,b,xs,ys,_,hs,n,m,rfl,s2.seq hu,fu.same s2,s2.seq hb,fh.same s2,l2,LH,by lia,by lia,hn,fun r H3 s3 f3=>?_⟩;have mb:(n+m+1)*w'<=800*10:=Nat.mul_le_mul (by lia) (by lia);refine⟨_,rfl,r,v,_,_,_,n,rfl,f3,s3.seqT (s2.seqT fv),dl.pos,c1.pos,db,c2,by lia,fun r' H4 s4 e4=>?_⟩;have eA:=s4 _ _ (s3 _ _ (sT _ _ e1));refine⟨eA,aW (by lia),hC' _ _ ⟨(s2.trans (s3.trans s4)).change hD,aB,?_⟩⟩;rw[take_add_one,Pc TO hs hi];exact((F1.same (sT.trans (s3.trans s4))).app (.cons (Fq.of e4) .nil)).upd eA
 rintro zs H1 ⟨s1,e1,F1⟩;rw[lu,lz0,lX,lc,Nat.min_self,take_of_length_le (by rw[Eu TO];lia)] at F1;exact q D zs H1 s1 e1 F1
abbrev pY:Stmt:=cN (top 31) 1
theorem Cu:aQ ["self"] ["self"] (aH pY):=sK9 rfl rfl rfl rfl (by decide +kernel)
theorem Ab {dV:Value}(F:aU K "joins" "Piece.joins" pY dV f fd):aJ P w K mg base CX 1 f fd ["self"] (oG .pc):=by
 refine F.ok Cu (fun vs H Q E h=>?_) fun cdv A outer s H vs Q E hr h=>?_
 ·obtain⟨_,rfl,_⟩:=h;rfl
 obtain⟨x,rfl,q⟩:=h;exact⟨_,(aF (aX fM)),q⟩
abbrev pQ:Stmt:=cN (top 32) 1
theorem Em:aQ ["self"] ["self"] (aH pQ):=sK9 rfl rfl rfl rfl (by decide +kernel)
theorem Ce {dV:Value}(F:aU K "joins" "Push.joins" pQ dV f fd):aJ P w K mg base CX 1 f fd ["self"] (oG .pu):=by
 refine F.ok Em (fun vs H Q E h=>?_) fun cdv A outer s H vs Q E hr h=>?_
 ·obtain⟨_,rfl,_⟩:=h;rfl
 obtain⟨x,rfl,q⟩:=h;exact⟨_,(aF (aX fM)),q⟩
abbrev qS:Stmt:=cN (top 33) 1
theorem Ed:aQ ["self"] ["self"] (aH qS):=sK9 rfl rfl rfl rfl (by decide +kernel)
theorem zY {dV:Value}(F:aU K "joins" "Hold.joins" qS dV f fd):aJ P w K mg base CX 1 f fd ["self"] (oG .ho):=by
 refine F.ok Ed (fun vs H Q E h=>?_) fun cdv A outer s H vs Q E hr h=>?_
 ·obtain⟨_,rfl,_⟩:=h;rfl
 obtain⟨x,rfl,q⟩:=h;exact⟨_,(aF (aX fM)),q⟩
theorem dA {ec:List (Str × Addr)}:∀(x:Str) (c:Addr),([]:List (Str × Addr)).lookup x=some c->ec.lookup x=some c:=fun _ _ h=>by cases h
theorem bG {ec cl:List (Str × Addr)}{a:Str}{d:Addr}(h:ec.lookup a=some d)(r:∀x c,cl.lookup x=some c->ec.lookup x=some c):∀x c,((a,d) :: cl).lookup x=some c->ec.lookup x=some c:=fun x c e=>by
 rw[lookup_cons] at e
 cases q:x == a with
 |true=>rw[q] at e;rw[eq_of_beq q,h];exact e
 |false=>rw[q] at e;exact r x c e
def zT (K:Frag)(CK:Kd->Addr):Sp:=fun vs H Q _=>∃(a x:Addr) (ms:List Int) (k:Kd) (s g:Nat) (z:V),vs=[.ref a,.ref x]/\SqL K H a (ms.map V.int)/\Rw CK H x k (.int (s:Int)) (.int (g:Int)) z/\s < ms.length/\g < ms.length/\ms.length<=100/\∀l H',aK H H'->H l=none->H' l=some (.lst ((jn ms s g).map V.int))->Q (.ref l) H'
def Ho (CN:Addr)(K:Frag):Sp:=fun vs H Q _=>∃(n l:Addr) (m:Nat) (ds:List RD),vs=[.ref n]/\eJ CN K H n l (m:Int) ds/\(∀d∈ds,fR (m:Int) d.2.1 d.2.2.1)/\m<=20/\ds.length<=100/\∀l' H',aK H H'->H l'=none->H' l'=some (.lst ((mks m ds).map V.int))->Q (.ref l') H'
def Ci (CN:Addr)(K:Frag):Sp:=fun vs H Q _=>∃(n l:Addr) (m:Nat) (ds:List RD),vs=[.ref n]/\eJ CN K H n l (m:Int) ds/\(∀d∈ds,fR (m:Int) d.2.1 d.2.2.1)/\1<=m/\m<=20/\ds.length<=100/\∀l' us H',aK H H'->H l'=none->H' l'=some (.lst us)->Ils H H' us ((grp (mk m ds) m).map (·.2))->(∀x∈us,x≠.ref l')->Q (.ref l') H'
theorem pF:(["mark","lost","kept"]:List Str).Nodup:=by decide +kernel
abbrev yY:Stmt:=top 28
theorem uQ:aQ ["marks","row","kept","lost"] ["marks","row"] (aH yY):=sK9 rfl rfl rfl rfl (by decide +kernel)
theorem Jw {dV:Value}(F:aU K "joined" "joined" yY dV f fd)(T:RT K mg CR CK) :
  aJ P w K mg base CX 1 f fd ["marks","row"] (zT K CK):=by
 refine F.ok uQ (fun vs H Q E h=>?_) fun cdv A outer s H vs Q E hr h=>?_
 ·obtain⟨_,_,_,_,_,_,_,rfl,_⟩:=h;rfl
 obtain⟨a,x,ms,k,s0,g0,z,rfl,hS,rw,hs,hg,h100,q⟩:=h;refine⟨_,(aE (aV (i:=2) uQ.nd rfl (Or.inr rfl) (aY cF (pv 0) (cK (pv 1) rfl) (fun _ _=>rfl)))
  (aE (aV (i:=3) uQ.nd rfl (Or.inr rfl) (aY cF (pv 0) (cK (pv 1) rfl) (fun _ _=>rfl)))
  (aF (aX (cL (nl:=1) (fr:=[3,2]) (Nc:=["mark","lost","kept"]) (cl:=[("lost",s.heap.objs.size+2),("kept",s.heap.objs.size+1)]) rfl ⟨rfl,rfl,by decide +kernel,by decide +kernel,(bG rfl (bG rfl (dA))),cC rfl,rfl,fun i n h=>match i,h with | 0,h=>by cases h;exact⟨3,rfl,rfl,rfl,rfl,.inl rfl⟩ | 1,h=>by cases h;exact⟨2,rfl,rfl,rfl,rfl,.inl rfl⟩ | k+2,h=>by rw[show 1+(k+2)=k+3 by lia] at h;cases h⟩
    (bO (pv 0)) (fun C s3 H3 fp pins=>(aR (i:=0) pF rfl (Or.inl rfl))) (fun C s3 H3 fp pins=>cA)
    (fun C s3 H3 fp pins=>(uI (bK gQ (pv 0) (pv 1) (bN _)) (pv 2) (pv 0)))))))),?_⟩
 obtain⟨dx,hx⟩:=id rw;have gi:∀{j:Nat},j < ms.length->atI (ms.map V.int) (j:Int)=some (.int (ms.getD j 0)):=fun h=>cH (by rw[getElem?_map,getElem?_eq_getElem h,getD_eq_getElem?_getD,getElem?_eq_getElem h];rfl);refine⟨_,rfl,_,rfl,x,CK _,_,_,_,rfl,hx,T.cl _,T.nS _,gP _ _ _,a,_,_,_,rfl,rfl,hS,gi hs,?_⟩;refine⟨_,rfl,_,rfl,x,CK _,_,_,_,rfl,hx,T.cl _,T.nG _,iG _ _ _,a,_,_,_,rfl,rfl,hS,gi hg,?_⟩;refine⟨_,rfl,a,rfl,⟨_,hS⟩,fun D hD=>?_⟩;have sD:=aD hD (.lst []);refine bX (xs:=ms.map V.int) (fun i zs H'=>aK H H'/\H' D=some (.lst zs)/\zs=((jn ms s0 g0).take i).map V.int) ⟨sD,aB,rfl⟩ (fun i zs H' h=>h.2.1) (fun i zs H' _ h=>h.1.seq hS) ?_ ?_
 ·rintro i zs x H1 hx' ⟨s1,e1,rfl⟩ C hC;rw[getElem?_map] at hx';obtain⟨c,hc,rfl⟩:=Option.map_eq_some_iff.mp hx';have hi:i < ms.length:=(List.getElem?_eq_some_iff.mp hc).1;have ej:(jn ms s0 g0)[i]?=some (if c=ms.getD g0 0 then ms.getD s0 0 else c):=by unfold jn;rw[getElem?_map,hc];rfl
  have lj:(jn ms s0 g0).length=ms.length:=by unfold jn;rw[length_map]
  refine⟨bU.1,bU.2,cT ?_⟩;refine⟨_,rfl,_,rfl,rfl,_,rfl,?_⟩
  by_cases h:c=ms.getD g0 0
  ·rw[if_pos h] at ej;refine ifT (decide_eq_true (by rw[h])) ⟨_,rfl,e1,aW (by rw[length_map,length_take];lia),hC _ _ ⟨s1.change hD,aB,?_⟩⟩;rw[take_add_one,ej,map_append];rfl
  ·rw[if_neg h] at ej;refine ifF (decide_eq_false (fun z=>h (by injection z))) ⟨_,rfl,e1,aW (by rw[length_map,length_take];lia),hC _ _ ⟨s1.change hD,aB,?_⟩⟩;rw[take_add_one,ej,map_append];rfl
 ·rintro zs H1 ⟨s1,e1,rfl⟩;have lj:(jn ms s0 g0).length=ms.length:=by unfold jn;rw[length_map]
  rw[length_map,<- lj,take_length] at e1;exact q D H1 s1 hD e1
abbrev Er:Stmt:=top 27
theorem sJ:aQ ["net","marks","row"] ["net"] (aH Er):=sK9 rfl rfl rfl rfl (by decide +kernel)
theorem Pg {dV:Value}(F:aU K "marks_of" "marks_of" Er dV f fd){CN:Addr}(mli:mg "list"=none)(mra:mg "range"=none)(NTx:NT K mg CN)(T:RT K mg CR CK){fJ:Kd->Addr}{fdJ:Kd->FuncData}(GJ:∀k,aJ P w K mg base CX0 1 (fJ k) (fdJ k) ["self"] (oG k))(bJ:∀k,aP K (fdJ k) ["self"] [])(mJ:∀k,iB K (CK k) "joins" (fJ k)){gMa:Addr}{gdMa:FuncData}(GMa:aJ P w K mg base CX0 1 gMa gdMa ["self"] (sV CN K))(bMa:aP K gdMa ["self"] [])(mMa:iB K CN "many" gMa){gRo:Addr}{gdRo:FuncData}(GRo:aJ P w K mg base CX0 4 gRo gdRo ["self"] (yU CN K CK))(bRo:aP K gdRo ["self"] [])(mRo:iB K CN "rows" gRo)(G1:aJ P w K mg base CX0 1 g1 gd1 ["marks","row"] (zT K CK))(b1:aP K gd1 ["marks","row"] [])(k1:kI9 K g1)(m1:mI9 mg "joined" g1) :
  aJ P w K mg base CX 5 f fd ["net"] (Ho CN K):=by
 refine F.ok sJ (fun vs H Q E h=>?_) fun cdv A outer s H vs Q E hr h=>?_
 ·obtain⟨_,_,_,_,rfl,_⟩:=h;rfl
 obtain⟨n,l,m,ds,rfl,nt,pt,hm,h100,q⟩:=h;have r1:=hr.mono (show 1<=4 by lia);refine⟨_,(aE (aV (i:=1) sJ.nd rfl (Or.inl rfl) (oN rfl rfl mli rfl mra (aA (fC (pv 0) NTx.cl mMa GMa r1 bMa .nil aS) aC)))
  (aE (dP PassesOwn.never rfl (bO (fC (pv 0) NTx.cl mRo GRo hr bRo .nil aS)) (aR (i:=2) sJ.nd rfl (Or.inl rfl))
   (aF (cS (cY (jJ (pv 2) T.cl mJ GJ r1 bJ .nil aS)) (aF (aV (i:=1) sJ.nd rfl (Or.inl rfl) (aI G1 r1 rfl m1 k1 b1 .nil aS (aA (pv 1) (aA (pv 2) aC))))) bM)))
  (aF (aX (pv 1))))),?_⟩
 obtain⟨dx,hn⟩:=nt.ob;refine⟨_,rfl,n,dx,_,rfl,hn,dX _ _ (by decide +kernel) (by decide +kernel),n,l,_,ds,rfl,nt,m,rfl,by lia,fun D hD=>?_⟩;have sD:=aD hD (.lst ((List.range m).map fun (i:Nat)=>V.int (i:Int)));have eD:upd H D (.lst ((List.range m).map fun (i:Nat)=>V.int (i:Int))) D=some (.lst ((mks m (ds.take 0)).map V.int)):=by
  rw[aB];show some (HO.lst _)=some (HO.lst ((zB m).map V.int));unfold zB;rw[map_map];rfl
 generalize upd H D (.lst ((List.range m).map fun (i:Nat)=>V.int (i:Int)))=H1 at sD eD ⊢;refine⟨_,rfl,n,dx,_,rfl,sD _ _ hn,dX _ _ (by decide +kernel) (by decide +kernel),n,l,_,ds,rfl,nt.same sD,h100,fun a xs H2 s2 na ea Rb=>?_⟩;have lxs:=Rb.length;refine⟨a,rfl,⟨_,SqL.of ea⟩,?_⟩;refine dW (xs:=xs) (fun i σ H'=>aK H2 H'/\∃(c:Addr) (z:Option V),σ=[some (.ref n),some (.ref c),z]/\H c=none/\H' c=some (.lst ((mks m (ds.take i)).map V.int))) ⟨aK.refl _,D,none,rfl,hD,s2 _ _ eD⟩ (fun i σ H' _ h=>h.1.seq (SqL.of ea)) ?_ ?_
 ·rintro i x σ H3 hx ⟨s3,c,z,rfl,nc,ec⟩;have hi:i < ds.length:=by
   have:=(List.getElem?_eq_some_iff.mp hx).1;lia
  obtain⟨⟨k,u,v,p⟩,hd⟩:∃d,ds[i]?=some d:=⟨_,getElem?_eq_getElem hi⟩
  obtain⟨y,z',ey,rw,fz⟩:=Rb.at hd;have ex:x=.ref y:=by rw[ey] at hx;exact(Option.some.inj hx).symm
  subst ex;have rw3:=rw.same s3;obtain⟨dr,hy⟩:=id rw3;have et:ds.take (i+1)=ds.take i++[(k,u,v,p)]:=by rw[take_add_one,hd];rfl
  obtain⟨u0,u1,v0,v1⟩:fR (m:Int) u v:=pt _ (mem_of_getElem? hd);refine⟨_,rfl,k,y,dr,_,rfl,hy,(jC _ _ _ (by decide +kernel) (by decide +kernel) (by decide +kernel)),_,rfl,_,rfl,?_⟩
  by_cases hk:k=.pu
  ·refine ifF (decide_eq_false (fun z=>z hk)) ⟨s3,c,_,rfl,nc,?_⟩;rw[et,lJ];unfold hJ;rw[if_pos hk];exact ec
  ·refine ifT (decide_eq_true hk) ⟨_,rfl,_,rfl,c,y,mks m (ds.take i),k,u.toNat,v.toNat,.ref z',rfl,SqL.of ec,?_,by rw[jV];lia,by rw[jV];lia,by rw[jV];lia,fun c' H4 s4 nc' ec'=>⟨s3.trans s4,c',_,rfl,?_,?_⟩⟩
   ·rw[show ((u.toNat:Nat):Int)=u by lia,show ((v.toNat:Nat):Int)=v by lia];exact rw3
   ·exact((sD.trans s2).trans s3).free nc'
   ·rw[et,lJ];unfold hJ;rw[if_neg hk];exact ec'
 ·rintro σ H3 ⟨s3,c,z,rfl,nc,ec⟩;rw[show ds.take xs.length=ds by rw[lxs,take_length]] at ec;exact⟨_,rfl,q c H3 ((sD.trans s2).trans s3) nc ec⟩
abbrev xO:Stmt:=top 26
theorem oQ:aQ ["net","found","point","mark"] ["net"] (aH xO):=sK9 rfl rfl rfl rfl (by decide +kernel)
theorem Ju {dV:Value}(F:aU K "groups" "groups" xO dV f fd){CN:Addr}(men:mg "enumerate"=none)(mli:mg "list"=none)(G1:aJ P w K mg base CX0 5 g1 gd1 ["net"] (Ho CN K))(b1:aP K gd1 ["net"] [])(k1:kI9 K g1)(m1:mI9 mg "marks_of" g1) :
  aJ P w K mg base CX 6 f fd ["net"] (Ci CN K):=by
 refine F.ok oQ (fun vs H Q E h=>?_) fun cdv A outer s H vs Q E hr h=>?_
 ·obtain⟨_,_,_,_,rfl,_⟩:=h;rfl
 obtain⟨n,l,m,ds,rfl,nt,pt,h1,hm,h100,q⟩:=h;refine⟨_,(aE (aV (i:=1) oQ.nd rfl (Or.inl rfl) Nf)
  (aE (dP PassesOwn.never rfl (zC rfl men rfl (aA (aI G1 hr rfl m1 k1 b1 .nil aS (aA (pv 0) aC)) aC)) (gW rfl (bQ (aR (i:=2) oQ.nd rfl (Or.inl rfl)) (bQ (aR (i:=3) oQ.nd rfl (Or.inl rfl)) fE)))
   (aF (cG (uV PySem.F.plainAttrs_list PySem.F.slot_list_append PySem.F.type_list_append iC (Ny (pv 1) (pv 3) (cX aC) ⟨rfl,rfl,rfl,rfl⟩) (aA (pv 2) aC)))))
  (aF (aX (Bh rfl rfl mli (pv 1)))))),?_⟩
 refine fun F hF=>?_;have sF:=aD hF (.dK []);have eF:upd H F (.dK []) F=some (.dK []):=aB;generalize upd H F (.dK [])=H1 at sF eF ⊢;refine⟨_,rfl,n,l,m,ds,rfl,nt.same sF,pt,hm,h100,fun M H2 s2 nM eM=>?_⟩;have mlen:=jV m ds;have hS:SqL K H2 M ((mks m ds).map V.int):=SqL.of eM;have e2F:=s2 _ _ eF;have neM:M≠F:=fun z=>by rw[z,eF] at nM;cases nM
 refine⟨M,rfl,⟨_,hS⟩,?_⟩;refine Av (xs:=(mks m ds).map V.int) (fun i σ H'=>cP F H2 H'/\∃(kvs:List (Key × V)) (as:List Addr) (z1 z2:Option V),σ=[some (.ref n),some (.ref F),z1,z2]/\H' F=some (.dK kvs)/\Gd H2 H' kvs (grp (mk m ds) i) as/\as.Nodup) ⟨fun b o h _=>h,[],[],none,none,rfl,e2F,.nil,nodup_nil⟩ (fun i σ H' _ h=>SqL.of (h.1 _ _ eM neM)) ?_ ?_
 ·rintro i x σ H3 T3 hx ⟨s3,kvs,as,z1,z2,rfl,e3,g3,nd3⟩ hT;rw[getElem?_map] at hx;obtain⟨c,hc,rfl⟩:=Option.map_eq_some_iff.mp hx;have hi:i < m:=by have:=(List.getElem?_eq_some_iff.mp hc).1;lia
  have ec:c=mk m ds i:=by unfold mk;rw[getD_eq_getElem?_getD,hc];rfl
  subst ec;have sT:=aD hT (.tup [.int (i:Int),.int (mk m ds i)]);refine⟨T3,_,rfl,SqT.of aB,rfl,_,_,rfl,_,_,rfl,rfl,?_⟩;generalize upd H3 T3 (.tup [.int (i:Int),.int (mk m ds i)])=H4 at sT ⊢;have g4:Gd H2 H4 kvs (grp (mk m ds) i) as:=g3.out fun a ha=>by
   obtain⟨_,xs,hx⟩:=g3.new a ha;rw[hx,sT _ _ hx]
  have s4:cP F H2 H4:=fun b o h ne=>sT _ _ (s3 b o h ne);have e4:=sT _ _ e3;refine⟨_,rfl,F,rfl,.inl ⟨kvs,.inl e4⟩,?_⟩;refine⟨_,rfl,by show 0<=sizeLine;exact Nat.zero_le _,fun L hL=>?_⟩;have sL:=aD hL (.lst []);have eL:upd H4 L (.lst []) L=some (.lst []):=aB;have neLF:L≠F:=fun z=>by rw[z,e4] at hL;cases hL
  have nL2:H2 L=none:=by
   cases q2:H2 L with
   |none=>rfl
   |some o=>rw[s4 L o q2 neLF] at hL;cases hL
  have nLa:∀a∈as,a≠L:=fun a ha z=>by
   obtain⟨_,xs,hx⟩:=g4.new a ha;rw[z,hL] at hx;cases hx
  generalize upd H4 L (.lst [])=H5 at sL eL ⊢;have g5:Gd H2 H5 kvs (grp (mk m ds) i) as:=g4.out fun a ha=>by
   obtain⟨_,xs,hx⟩:=g4.new a ha;rw[hx,sL _ _ hx]
  have s5:cP F H2 H5:=fun b o h ne=>sL _ _ (s4 b o h ne);have e5:=sL _ _ e4;have lk:kvs.length<=20:=by
   have:=g5.lens;have:=Fp (mk m ds) i;lia
  have lt20:∀{n:Nat},n<=20->n < sizeLine:=fun h=>by rw[sizeLine_eq];lia
  have nF:∀a,H2 a=none->a≠F:=fun a h z=>by rw[z,e2F] at h;cases h
  refine⟨kvs,Sum.inl (mk m ds i),e5,rfl,lt20 lk,fun v hv=>?_,fun hv=>?_⟩
  ·obtain⟨a,ps,rfl,ma,na,ea,hany,⟨e,he,hp⟩,gq⟩:=g5.find nd3 (tX _ _) hv;have sm:=wU (mk m ds) i e he;rw[hp] at sm;refine⟨.inl ⟨rfl,_,SqL.of ea⟩,_,rfl,a,_,_,rfl,rfl,ea,lt20 (by rw[length_map];lia),?_⟩;refine⟨fun b o h ne=>?_,kvs,as,_,_,rfl,?_,?_,nd3⟩
   ·have nb:b≠a:=fun z=>by rw[z,na] at h;cases h
    rw[aM nb];exact s5 b o h ne
   ·rw[aM (nF a na).symm];exact e5
   ·show Gd _ _ _ (pO (grp (mk m ds) i) (mk m ds i) (i:Int)) _;unfold pO;rw[if_pos hany];exact gq i
  ·have ha:=Im hv;have pk:rP kvs (Sum.inl (mk m ds i)) (.ref L)=kvs++[(Sum.inl (mk m ds i),.ref L)]:=by unfold rP;rw[if_neg (by rw[ha];simp)]
   rw[pk];have e6:upd H5 F (.dK (kvs++[(Sum.inl (mk m ds i),.ref L)])) L=some (.lst []):=by rw[aM neLF];exact eL
   refine⟨.inl ⟨rfl,_,SqL.of e6⟩,_,rfl,L,_,_,rfl,rfl,e6,lt20 (Nat.zero_le _),?_⟩;refine⟨fun b o h ne=>?_,_,as++[L],_,_,rfl,by rw[aM neLF.symm,aB],?_,?_⟩
   ·have nb:b≠L:=fun z=>by rw[z,nL2] at h;cases h
    rw[aM nb,aM ne];exact s5 b o h ne
   ·show Gd _ _ _ (pO (grp (mk m ds) i) (mk m ds i) (i:Int)) _;unfold pO;rw[if_neg (by rw[<- g5.keys,ha];simp)];refine Gd.app (ps:=[(i:Int)]) (g5.out fun a ha'=>?_) nL2 aB;rw[aM (nLa a ha'),aM (nF a (g5.new a ha').1)]
   ·refine nodup_append.mpr ⟨nd3,by simp,fun x hx y hy z=>?_⟩;rw[mem_singleton] at hy;exact nLa x hx (z.trans hy)
 ·rintro σ H3 ⟨s3,kvs,as,z1,z2,rfl,e3,g3,nd3⟩;rw[length_map,mlen] at g3;refine⟨_,rfl,F,kvs,rfl,e3,fun L hL=>?_⟩;have sL:=aD hL (.lst (kvs.map (·.2)));have s0:aK H H3:=fun b o h=>s3 b o (s2 _ _ (sF _ _ h)) (fun z=>by rw[z,hF] at h;cases h);have g4:Gd H2 (upd H3 L (.lst (kvs.map (·.2)))) kvs (grp (mk m ds) m) as:=g3.out fun a ha=>by
   obtain⟨_,xs,hx⟩:=g3.new a ha;rw[hx,sL _ _ hx]
  refine q L _ _ (s0.trans sL) (s0.free hL) aB (g4.ils.from0 (fun a h=>(sF.trans s2).free h)) ?_;intro x hx z;obtain⟨a,ha,e⟩:=g3.vals x hx;obtain⟨_,xs,h⟩:=g3.new a ha;rw[z] at e
  cases e
  rw[hL] at h;cases h
def yM (K:Frag)(H:Hp)(x:V):Prop:=(∃i,x=.int i)\/NW K H x
theorem yM.same {K:Frag}{H H':Hp}(s:aK H H'){x:V}(h:yM K H x):yM K H' x:=h.imp id fun ⟨t,a,b⟩=>⟨t,a.same s,b⟩
def rO (m:Int):V->Bool
 | .int i=>decide (0<=i/\i < m)
 |_=>false
theorem qc7 {K:Frag}{H:Hp}{x:V}(h:NW K H x)(m:Int):rO m x=false:=by
 obtain⟨t,a,b⟩:=h
 cases x with
 |int i=>cases a;rcases b with b | b | b | b | b<;>(injection b with b;exact absurd b (by decide))
 |_=>rfl
def Vi (K:Frag):Sp:=fun vs H Q _=>∃(x:V) (b:Int),vs=[x,.int b]/\yM K H x/\Q (.bl (rO b x)) H
def Qo (K:Frag)(CP:Addr):Sp:=fun vs H Q E=>∃(l:Addr) (xs:List V) (m:Int),vs=[.ref l,.int m]/\SqL K H l xs/\xs.length<=100/\(∀x∈xs,yM K H x)/\(xs.all (rO m)=true->∀H',aK H H'->Q .non H')/\(xs.all (rO m)=false->∀H',aK H H'->E (.ref CP) none H')
theorem Wq {dV:Value}(F:aU K "is_number_below" "is_number_below" sNB dV f fd)(G1:aJ P w K mg base CX0 1 g1 gd1 ["thing"] (oS K))(b1:aP K gd1 ["thing"] [])(k1:kI9 K g1)(m1:mI9 mg "is_whole" g1) :
  aJ P w K mg base CX 2 f fd ["thing","bound"] (Vi K):=by
 refine F.ok qe0 (fun vs H Q E h=>?_) fun cdv A outer s H vs Q E hr h=>?_
 ·obtain⟨_,_,rfl,_⟩:=h;rfl
 obtain⟨x,b',rfl,hx,q⟩:=h;refine⟨_,(aF (aX (jZ (aI G1 hr rfl m1 k1 b1 .nil aS (aA (pv 0) aC)) (jZ (fX Oj (pv 0) aG (bN _)) (nY (fX wM (pv 0) (pv 1) (bN _))))))),?_⟩;rcases hx with ⟨i,rfl⟩ | hw
 ·have q:Q (.bl (decide (0<=i/\i < b'))) H:=q;refine⟨_,rfl,_,rfl,.inl ⟨i,rfl,_,rfl,cT ⟨_,rfl,_,_,rfl,rfl,_,rfl,?_⟩⟩⟩
  by_cases h0:0<=i
  ·refine L2.ifT (decide_eq_true h0) ⟨_,rfl,_,rfl,_,_,rfl,rfl,?_⟩;show Q (.bl (decide (i < b'))) H;have e:decide (0<=i/\i < b')=decide (i < b'):=by simp[h0]
   rw[<- e];exact q
  ·have e:decide (0<=i/\i < b')=false:=decide_eq_false fun z=>h0 z.1;rw[e] at q;exact L2.ifF (decide_eq_false h0) q
 ·rw[qc7 hw] at q;obtain⟨t,h1,h2⟩:=hw;exact⟨_,rfl,_,rfl,.inr ⟨t,h1,h2,_,rfl,eH q⟩⟩
theorem Xu {dV:Value}(F:aU K "refuse_points" "refuse_points" sRP dV f fd){CP:Addr}(ma:mg "all"=none)(G1:aJ P w K mg base CX0 2 g1 gd1 ["thing","bound"] (Vi K))(b1:aP K gd1 ["thing","bound"] [])(k1:kI9 K g1)(m1:mI9 mg "is_number_below" g1)(mN:mI9 mg "NoPoint" CP)(xN:Na K CP) :
  aJ P w K mg base (CX1 P w) 3 f fd ["some","many"] (Qo K CP):=by
 refine F.okX qe1 (fun vs H Q E h=>?_) fun cdv A outer s H vs Q E hr h=>?_
 ·obtain⟨_,_,_,rfl,_⟩:=h;rfl
 obtain⟨l,xs,m,rfl,hl,h100,hA,q,qE⟩:=h;refine⟨_,(aF (cS (fA (cY (bH (Lu rfl) rfl ma PyProof.Rows.boot_all (aA (cL (nl:=1) (fr:=[1]) (Nc:=["point","many"]) (cl:=[("many",s.heap.objs.size+1)]) rfl ⟨rfl,rfl,by decide +kernel,by decide +kernel,fun x c h=>h,cC rfl,rfl,fun i n h=>match i,h with | 0,h=>by cases h;exact⟨1,rfl,rfl,rfl,rfl,.inl rfl⟩ | k+1,h=>by rw[show 1+(k+1)=k+2 by lia] at h;cases h⟩
    (bO (pv 0)) (fun C s3 H3 fp pins=>(aR (i:=0) mY rfl (Or.inl rfl))) (fun C s3 H3 fp pins=>cA)
    (fun C s3 H3 fp pins=>(aI G1 hr rfl m1 k1 b1 .nil aS (aA (pv 0) (aA (pv 1) aC))))) aC)))) (aF (vD fB iA rfl rfl mN xN (aA bV aC))) bM)),?_⟩
 refine⟨_,rfl,l,rfl,⟨_,hl⟩,fun D hD=>?_⟩;have sD:=aD hD (.lst []);refine bX (xs:=xs) (fun k zs H'=>aK H H'/\H' D=some (.lst zs)/\zs=((xs.take k).map (rO m)).map V.bl) ⟨sD,aB,rfl⟩ (fun k zs H' h=>h.2.1) (fun k zs H' _ h=>h.1.seq hl) ?_ ?_
 ·rintro k zs x H1 hx ⟨s1,e1,rfl⟩ C hC;have hk:k < xs.length:=(List.getElem?_eq_some_iff.mp hx).1;refine⟨bU.1,bU.2,cT ?_⟩;refine⟨_,rfl,_,rfl,x,m,rfl,(hA x (mem_of_getElem? hx)).same s1,e1,aW (by rw[length_map,length_map,length_take];lia),hC _ _ ⟨s1.change hD,aB,?_⟩⟩;rw[take_add_one,hx,map_append,map_append];rfl
 ·rintro zs H1 ⟨s1,e1,rfl⟩;rw[take_length] at e1;have ea:(xs.map (rO m)).all id=xs.all (rO m):=by rw[all_map];rfl
  refine⟨D,_,rfl,SqL.of e1,_,rfl,?_⟩;rw[ea]
  cases c:xs.all (rO m) with
  |true=>exact L2.ifF rfl (q c _ s1)
  |false=>exact L2.ifT rfl ⟨zl9 1,qE c _ s1⟩
def Gy (K:Frag)(C:Addr):Sp:=fun vs H Q _=>∃(x l:Addr) (xs:List V),vs=[.ref x,.ref l]/\H x=some (kJ x (.ref C) none)/\SqL K H l xs/\xs.length<=1000/\
 ∀dx l2 H',H dx=none->H l2=none->dx≠x->l2≠x->(∀b o,H b=some o->b≠x->H' b=some o)->H' x=some (kJ x (.ref C) (some dx))->H' dx=some (.xd [("points",.ref l2)])->H' l2=some (.lst xs)->Q .non H'
def Gh (C:Addr):Sp:=fun vs H Q _=>∃(x:Addr) (i:Int),vs=[.ref x,.int i]/\H x=some (kJ x (.ref C) none)/\
 ∀dx H',H dx=none->dx≠x->(∀b o,H b=some o->b≠x->H' b=some o)->H' x=some (kJ x (.ref C) (some dx))->H' dx=some (.xd [("number",.int i)])->Q .non H'
abbrev Fa:Stmt:=cN (top 10) 0
theorem Rg:aQ ["self","points"] ["self","points"] (aH Fa):=sK9 rfl rfl rfl rfl (by decide +kernel)
theorem Pp {dV:Value}(F:aU K "__init__" "Floats.__init__" Fa dV f fd){CF C0:Addr}(qI:oB K CF C0 f)(cI:Ru K C0)(qF:Ls K CF "points")(mO:mI9 mg "OhmError" C0)(mt:mg "tuple"=none)(mli:mg "list"=none) :
  aJ P w K mg base CX 1 f fd ["self","points"] (Gy K CF):=by
 refine F.ok Rg (fun vs H Q E h=>?_) fun cdv A outer s H vs Q E hr h=>?_
 ·obtain⟨_,_,_,rfl,_⟩:=h;rfl
 obtain⟨x,l,xs,rfl,hx,hS,h1000,q⟩:=h;refine⟨_,(aE (cG (uS rfl mO cI (aA (pv 0) (aA (dL mI rfl mt PyProof.Rows.boot_tuple (aA (pv 1) aC)) aC)))) (aF (Fx (pv 0) (dL cU rfl mli PyProof.Rows.boot_list (aA (pv 1) aC)) rfl))),?_⟩;refine⟨_,rfl,_,rfl,l,xs,rfl,.inl ⟨hS,fun t ht=>?_⟩⟩;have s1:=aD ht (.tup xs);have nt:t≠x:=fun z=>by rw[z,hx] at ht;cases ht
 generalize upd H t (.tup xs)=H1 at s1 ⊢;refine⟨x,CF,C0,f,none,_,rfl,s1 _ _ hx,qI,?_⟩;refine⟨_,rfl,l,xs,rfl,.inl (s1.seq hS),fun l2 hl2=>?_⟩;have s2:=aD hl2 (.lst xs);have e2:upd H1 l2 (.lst xs) l2=some (.lst xs):=aB;have x1:=s1 _ _ hx;have n2:l2≠x:=fun z=>by rw[z,x1] at hl2;cases hl2
 generalize upd H1 l2 (.lst xs)=H2 at s2 e2 ⊢;have x2:=s2 _ _ x1;refine⟨_,rfl,x,CF,C0,f,rfl,x2,qI,qF,fun dx hdx=>?_⟩;have nx:dx≠x:=fun z=>by rw[z,x2] at hdx;cases hdx
 have nl:l2≠dx:=fun z=>by rw[z] at e2;rw[e2] at hdx;cases hdx
 have s02:=s1.trans s2;refine q dx l2 _ (s02.free hdx) (s1.free hl2) nx n2 (fun b' o e nb=>?_) aB ?_ ?_
 ·rw[aM nb,aM (fun z=>by rw[z,s02.free hdx] at e;cases e)];exact s02 _ _ e
 ·rw[aM nx,aB]
 ·rw[aM n2,aM nl];exact e2
abbrev Dc:Stmt:=cN (top 11) 0
theorem Rz:aQ ["self","number"] ["self","number"] (aH Dc):=sK9 rfl rfl rfl rfl (by decide +kernel)
theorem Qi {dV:Value}(F:aU K "__init__" "Held.__init__" Dc dV f fd){CL C0:Addr}(qI:oB K CL C0 f)(cI:Ru K C0)(qF:Ls K CL "number")(mO:mI9 mg "OhmError" C0) :
  aJ P w K mg base CX 1 f fd ["self","number"] (Gh CL):=by
 refine F.ok Rz (fun vs H Q E h=>?_) fun cdv A outer s H vs Q E hr h=>?_
 ·obtain⟨_,_,rfl,_⟩:=h;rfl
 obtain⟨x,i,rfl,hx,q⟩:=h;refine⟨_,(aE (cG (uS rfl mO cI (aA (pv 0) (aA (pv 1) aC)))) (aF (Fx (pv 0) (pv 1) rfl))),?_⟩;refine⟨_,rfl,_,rfl,x,CL,C0,f,none,_,rfl,hx,qI,?_⟩;refine⟨_,rfl,_,rfl,x,CL,C0,f,rfl,hx,qI,qF,fun dx hdx=>?_⟩;have nx:dx≠x:=fun z=>by rw[z,hx] at hdx;cases hdx
 refine q dx _ hdx nx (fun b' o e nb=>?_) aB ?_
 ·rw[aM nb,aM (fun z=>by rw[z,hdx] at e;cases e)];exact e
 ·rw[aM nx,aB]
def jP (ds:List RD):Prop:=∀d∈ds,d.1≠.ho
def Ki (ds:List RD)(i:Nat):Prop:=(∃d,ds[i]?=some d/\d.1=.ho)/\∀j d,j < i->ds[j]?=some d->d.1≠.ho
def EHo (CH:Addr)(H:Hp)(E:XK)(ds:List RD):Prop:=∀i,Ki ds i->∀dx H',aK H H'->H' dx=some (.xd [("number",.int (i:Int))])->E (.ref CH) (some dx) H'
def Vk (CN CH:Addr)(K:Frag):Sp:=fun vs H Q E=>∃(n l:Addr) (m:Int) (ds:List RD),vs=[.ref n]/\eJ CN K H n l m ds/\ds.length<=100/\(jP ds->∀H',aK H H'->Q .non H')/\EHo CH H E ds
theorem wZ {H H1 H4:Hp}{x:Addr}{o:HO}(s:aK H H1)(hx:H1 x=none)(keep:∀b u,(upd H1 x o) b=some u->b≠x->H4 b=some u):aK H (mV H4 x):=fun b u e=>by
 have nb:b≠x:=fun z=>by rw[z,s.free hx] at e;cases e
 rw[jK nb];exact keep b u (by rw[aM nb];exact s b u e) nb
abbrev Wy:Stmt:=top 43
theorem Mh:aQ ["net","number","row"] ["net"] (aH Wy):=sK9 rfl rfl rfl rfl (by decide +kernel)
theorem Vt {dV:Value}(F:aU K "refuse_holds" "refuse_holds" Wy dV f fd){CN:Addr}(NTx:NT K mg CN)(men:mg "enumerate"=none){CR:Addr}{CK:Kd->Addr}{fW:Kd->Addr}{fdW:Kd->FuncData}(T:RT K mg CR CK)(GW:∀k,aJ P w K mg base CX0 1 (fW k) (fdW k) ["self"] (kU k))(bW:∀k,aP K (fdW k) ["self"] [])(mW:∀k,iB K (CK k) "word" (fW k)){CH C0 fI:Addr}{fdI:FuncData}(mH:mI9 mg "Held" CH)(qI:oB K CH C0 fI)(GI:aJ P w K mg base CX0 1 fI fdI ["self","number"] (Gh CH))(bI:aP K fdI ["self","number"] []){gRo:Addr}{gdRo:FuncData}(GRo:aJ P w K mg base CX0 4 gRo gdRo ["self"] (yU CN K CK))(bRo:aP K gdRo ["self"] [])(mRo:iB K CN "rows" gRo) :
  aJ P w K mg base (CX1 P w) 5 f fd ["net"] (Vk CN CH K):=by
 refine F.okX Mh (fun vs H Q E h=>?_) fun cdv A outer s H vs Q E hr h=>?_
 ·obtain⟨_,_,_,_,rfl,_⟩:=h;rfl
 obtain⟨n,l,m,ds,rfl,nt,h100,q,qH⟩:=h;have r1:=hr.mono (show 1<=4 by lia);have r2:=hr.mono (show 2<=4 by lia);refine⟨_,(aF (dP PassesOwn.leaving rfl (zC rfl men rfl (aA (fC (pv 0) NTx.cl mRo GRo hr bRo .nil aS) aC)) (gW rfl (bQ (aR (i:=1) Mh.nd rfl (Or.inl rfl)) (bQ (aR (i:=2) Mh.nd rfl (Or.inl rfl)) fE)))
   (aF (cS (bK gQ (jJ (f:=fW) (fd:=fdW) (sp:=kU) (pv 2) T.cl mW GW r1 bW .nil aS) bV (bN _)) (aF (xG fB iA rfl rfl mH qI GI r2 bI (aA (pv 1) aC))) bM)))),?_⟩
 obtain⟨dn,hn⟩:=nt.ob;refine⟨_,rfl,n,dn,_,rfl,hn,dX _ _ (by decide +kernel) (by decide +kernel),n,l,m,ds,rfl,nt,h100,fun a xs H1 s1 na e1 hR=>?_⟩;refine⟨a,rfl,⟨_,SqL.of e1⟩,?_⟩;refine Av (xs:=xs) (fun i σ H'=>aK H1 H'/\(∀j d,j < i->ds[j]?=some d->d.1≠.ho)/\∃z1 z2,σ=[some (.ref n),z1,z2]) ⟨aK.refl _,(fun j d hj=>by lia),_,_,rfl⟩ (fun i σ H' _ h=>h.1.seq (SqL.of e1)) ?_ ?_
 ·rintro i x σ H2 T2 hx ⟨s2,ah,z1,z2,rfl⟩ hT;have hi:i < ds.length:=by have:=(List.getElem?_eq_some_iff.mp hx).1;rw[hR.length] at this;exact this
  obtain⟨r,z,hx',_,_⟩:=hR.at (getElem?_eq_getElem hi);rw[hx] at hx'
  cases hx'
  have sT:=aD hT (.tup [.int (i:Int),.ref r]);refine⟨T2,_,rfl,SqT.of aB,rfl,_,_,rfl,_,_,rfl,rfl,?_⟩;generalize upd H2 T2 (.tup [.int (i:Int),.ref r])=H3 at sT ⊢;obtain⟨r',z',hx'',rw3,_⟩:=(hR.same (s2.trans sT)).at (getElem?_eq_getElem hi);rw[hx] at hx''
  cases hx''
  have hd:=getElem?_eq_getElem hi;generalize ds[i]=d at rw3 hd;obtain⟨dx,hx3⟩:=id rw3;refine⟨_,rfl,d.1,r,dx,_,rfl,hx3,(jC _ _ _ (by decide +kernel) (by decide +kernel) (by decide +kernel)),_,rfl,rfl,_,rfl,?_⟩;have s03:=s1.trans (s2.trans sT)
  by_cases nk:d.1=.ho
  ·refine L2.ifT (by show decide (V.str d.1.wd=V.str Kd.ho.wd)=true;rw[eS];exact decide_eq_true nk) ?_;refine⟨_,rfl,zl9 1,fun x hx=>?_⟩;refine⟨x,_,rfl,aB,fun dx' H4 ndx ne keep ex ed=>⟨rfl,some dx',ex,?_⟩⟩;exact qH i ⟨⟨d,hd,nk⟩,ah⟩ dx' _ (wZ s03 hx keep) (by rw[jK ne];exact ed)
  ·refine L2.ifF (by show decide (V.str d.1.wd=V.str Kd.ho.wd)=false;rw[eS];exact decide_eq_false nk) ⟨s2.trans sT,fun j d' hj hd'=>?_,_,_,rfl⟩
   by_cases c:j < i
   ·exact ah j d' c hd'
   ·have:j=i:=by lia
    subst this;rw[hd] at hd'
    cases hd'
    exact nk
 ·rintro σ H2 ⟨s2,ah,_⟩;refine q (fun d hd=>?_) H2 (s1.trans s2);obtain⟨i,hi⟩:=getElem?_of_mem hd;exact ah i d (by have:=(List.getElem?_eq_some_iff.mp hi).1;rw[hR.length];exact this) hi
theorem Df {X:Cx}{K:Frag}(h:X.K=K):OpR X (compareOp .In) (rIn K false):=by subst h;exact Jn
theorem Xj {F:Nat->Int}{m:Nat}{ps:List Int}(h:ps∈(grp F m).map (·.2)):ps≠[]/\(∀x∈ps,x∈iP m)/\ps.length<=m:=by
 rw[xU,map_map] at h;obtain⟨p,hp,rfl⟩:=mem_map.mp h;have pm:p < m:=by
  unfold jW at hp;exact mem_range.mp (mem_filter.mp hp).1
 show mem F m (F p)≠[]/\(∀x∈mem F m (F p),x∈iP m)/\(mem F m (F p)).length<=m;unfold mem;refine⟨fun z=>?_,fun x hx=>?_,?_⟩
 ·have:(p:Int)∈((List.range m).filter fun q=>decide (F q=F p)).map fun (q:Nat)=>(q:Int):=mem_map.mpr ⟨p,mem_filter.mpr ⟨mem_range.mpr pm,by simp⟩,rfl⟩;rw[z] at this
  cases this
 ·obtain⟨q,hq,rfl⟩:=mem_map.mp hx;exact zS (mem_range.mp (mem_filter.mp hq).1)
 ·rw[length_map];have:=length_filter_le (fun q=>decide (F q=F p)) (List.range m);rw[length_range] at this;exact this
def Kr (CN:Addr)(K:Frag):Sp:=fun vs H Q _=>∃(n l b:Addr) (m:Nat) (ds:List RD) (es:List Nat),vs=[.ref n,.ref b]/\eJ CN K H n l (m:Int) ds/\(∀d∈ds,fR (m:Int) d.2.1 d.2.2.1)/\1<=m/\m<=20/\ds.length<=100/\H b=some (.lst ((ups es).map V.int))/\(∀e∈es,e < m)/\∀l' H',aK H H'->H' l'=some (.lst ((ups (lsP (mk m ds) m es)).map V.int))->Q (.ref l') H'
theorem mM:(["point","ends"]:List Str).Nodup:=by decide +kernel
abbrev Dg:Stmt:=top 68
theorem zD:aQ ["net","ends","loose","group"] ["net","ends"] (aH Dg):=sK9 rfl rfl rfl rfl (by decide +kernel)
theorem Lg {dV:Value}(F:aU K "loose_points" "loose_points" Dg dV f fd){CN:Addr}(man:mg "any"=none)(mso:mg "sorted"=none)(G1:aJ P w K mg base CX0 6 g1 gd1 ["net"] (Ci CN K))(b1:aP K gd1 ["net"] [])(k1:kI9 K g1)(m1:mI9 mg "groups" g1) :
  aJ P w K mg base CX 7 f fd ["net","ends"] (Kr CN K):=by
 refine F.ok zD (fun vs H Q E h=>?_) fun cdv A outer s H vs Q E hr h=>?_
 ·obtain⟨_,_,_,_,_,_,rfl,_⟩:=h;rfl
 obtain⟨n,l,b,m,ds,es,rfl,nt,pt,mo,m20,h100,hb,hes,q⟩:=h;refine⟨_,(aE (aV (i:=2) zD.nd rfl (Or.inl rfl) (cX aC))
  (aE (dP PassesOwn.never rfl (bO (aI G1 hr rfl m1 k1 b1 .nil aS (aA (pv 0) aC))) (aR (i:=3) zD.nd rfl (Or.inl rfl))
   (aF (cS (fA (cY (bH (Oc rfl) rfl man PyProof.Rows.boot_any (aA (cL (nl:=1) (fr:=[1]) (Nc:=["point","ends"]) (cl:=[("ends",s.heap.objs.size+1)]) rfl ⟨rfl,rfl,by decide +kernel,by decide +kernel,fun x c h=>h,cC rfl,rfl,fun i n h=>match i,h with | 0,h=>by cases h;exact⟨1,rfl,rfl,rfl,rfl,.inl rfl⟩ | k+1,h=>by rw[show 1+(k+1)=k+2 by lia] at h;cases h⟩
    (bO (pv 3)) (fun C s3 H3 fp pins=>(aR (i:=0) mM rfl (Or.inl rfl))) (fun C s3 H3 fp pins=>cA)
    (fun C s3 H3 fp pins=>(fX (Df (K:=K) rfl) (pv 0) (pv 1) rfl))) aC)))) (aF (cG (uV PySem.F.plainAttrs_list PySem.F.slot_list_extend PySem.F.type_list_extend Js (pv 2) (aA (pv 3) aC)))) bM)))
  (aF (aX (bH Ak rfl mso PyProof.Rows.boot_sorted (aA (pv 2) aC)))))),?_⟩
 refine⟨zl9 0,fun L hL=>?_⟩;have s1:=aD hL (.lst []);have eL:upd H L (.lst []) L=some (.lst []):=aB;generalize upd H L (.lst [])=H1 at s1 eL ⊢;dsimp only[gD];have hF:∃F,F=mk m ds:=⟨_,rfl⟩
 obtain⟨F0,hF0⟩:=hF;rw[<- hF0] at q;refine fU (fun σ H'=>(∃z3,σ=[some (.ref n),some (.ref b),some (.ref L),z3])/\aK H H'/\H' L=some (.lst ((lsG F0 m (ups es) ((grp F0 m).map (·.2)).length).map V.int))) (fun X hX=>?_) ?_
 ·refine⟨_,rfl,n,l,m,ds,rfl,nt.same s1,pt,mo,m20,h100,fun g us H2 s2 ng eg Ig ne=>?_⟩;rw[<- hF0] at Ig;have nL:∀{a:Addr},H1 a=none->a≠L:=fun h z=>by rw[z,eL] at h;cases h
  refine⟨g,rfl,⟨_,SqL.of eg⟩,?_⟩;refine dW (xs:=us) (fun i σ H'=>(∃z3,σ=[some (.ref n),some (.ref b),some (.ref L),z3])/\aK H H'/\(∀c o,H2 c=some o->c≠L->H' c=some o)/\H' L=some (.lst ((lsG F0 m (ups es) i).map V.int))) ⟨⟨_,rfl⟩,s1.trans s2,fun _ _ h _=>h,by rw[s2 _ _ eL];rfl⟩ (fun i σ H' _ h=>SqL.of (h.2.2.1 _ _ eg (nL ng))) ?_ ?_
  ·rintro i x σ H3 hx ⟨⟨z3,rfl⟩,s3,x3,e3⟩;have hi:i < ((grp F0 m).map (·.2)).length:=by rw[<- Ig.l];exact(List.getElem?_eq_some_iff.mp hx).1
   obtain⟨a,rfl,na,ea⟩:=Ig.r i x _ hx (getElem?_eq_getElem hi);obtain⟨p0,pin,pl⟩:=Xj (getElem_mem hi);have hg:=getElem?_eq_getElem hi;generalize ((grp F0 m).map (·.2))[i]=ps at ea p0 pin pl hg;have ea3:=x3 _ _ ea (nL na);refine⟨_,rfl,a,rfl,⟨_,SqL.of ea3⟩,fun D hD=>?_⟩;have sD:=aD hD (.lst []);refine bX (xs:=ps.map V.int) (fun k zs H'=>aK H3 H'/\H' D=some (.lst zs)/\zs=((ps.take k).map fun y=>decide (y∈ups es)).map V.bl) ⟨sD,aB,rfl⟩ (fun k zs H' h=>h.2.1) (fun k zs H' _ h=>h.1.seq (SqL.of ea3)) ?_ ?_
   ·rintro k zs x H4 hx' ⟨s4,e4,rfl⟩ C hC;have hk:k < ps.length:=by have:=(List.getElem?_eq_some_iff.mp hx').1;rwa [length_map] at this
    have hy:=getElem?_eq_getElem hk;rw[getElem?_map,hy] at hx'
    cases hx'
    have hb4:=s4 _ _ (s3 _ _ hb);refine⟨bU.1,bU.2,cT ?_⟩;refine⟨_,rfl,_,rfl,b,_,rfl,.inl (SqL.of hb4),rfl,jF _,?_⟩;rw[lL];refine⟨e4,aW (by rw[length_map,length_map,length_take];lia),hC _ _ ⟨s4.change hD,aB,?_⟩⟩;rw[take_add_one,hy,map_append,map_append];rfl
   rintro zs H4 ⟨s4,e4,rfl⟩;rw[length_map,take_length] at e4;have ap:(!((ps.map fun y=>decide (y∈ups es)).any id))=apt (ups es) ps:=by unfold apt;rw[any_map];rfl
   refine⟨D,_,rfl,SqL.of e4,_,rfl,?_⟩;have x4:∀c o,H2 c=some o->c≠L->H4 c=some o:=fun c o h n=>s4 _ _ (x3 c o h n);have e4L:=s4 _ _ e3;have s04:=s3.trans s4
   cases c:apt (ups es) ps with
   |false=>
    refine L2.ifF (by rw[<- c,<- ap];try rfl) ⟨⟨_,rfl⟩,s04,x4,?_⟩;rw[e4L,Be hg,c,if_neg (by decide),append_nil]
   |true=>
    refine L2.ifT (by rw[<- c,<- ap];try rfl) ?_;have ll:=Hd F0 m (ups es) i;refine⟨_,rfl,.inl ⟨rfl,_,SqL.of e4L⟩,_,rfl,L,a,_,_,rfl,rfl,e4L,s4 _ _ ea3,?_,⟨_,rfl⟩,?_,fun c' o h n=>by rw[aM n];exact x4 c' o h n,?_⟩
    ·rw[length_map,length_map];exact Nat.le_trans (show _<=100 by lia) (by decide)
    ·exact s04.change hL
    ·rw[aB,Be hg,c,if_pos rfl,map_append]
  ·rintro σ H3 ⟨⟨z3,rfl⟩,s3,x3,e3⟩;rw[Ig.l] at e3;exact hX _ _ ⟨⟨_,rfl⟩,s3,e3⟩
 rintro σ H2 ⟨⟨z3,rfl⟩,s2,e2⟩;have ll:=Hd F0 m (ups es) ((grp F0 m).map (·.2)).length;refine⟨_,rfl,L,_,rfl,SqL.of e2,by lia,fun l' ns' hl' pm st=>?_⟩;rw[Tx hes pm st];exact q l' _ (s2.trans (aD hl' _)) aB
theorem Yq (ns:List Int):(ddl ns).length=ns.length->ns.Nodup:=by
 refine tI (P:=fun ns=>(ddl ns).length=ns.length->ns.Nodup) (fun _=>nodup_nil) (fun l y ih h=>?_) ns;rw[oK,List.length_append] at h;have le:=uF l;simp only[length_cons,length_nil] at h
 by_cases c:y∈ddl l
 ·rw[if_pos c] at h;lia
 ·rw[if_neg c,List.length_append] at h;simp only[length_cons,length_nil] at h;refine nodup_append.mpr ⟨ih (by lia),by simp,fun a ha b hb z=>?_⟩;have:b=y:=by simpa using hb
  exact c ((rZ l y).mpr (by rw[<- this,<- z];exact ha))
theorem Yu {ns:List Int}(h:ns.Nodup):(ddl ns).length=ns.length:=by
 have a:=uF ns;have b:=h.length_le_of_subset (fun x hx=>(rZ ns x).mpr hx);lia
theorem Ya {es:List Nat}(h:es.Nodup):(ups es).Nodup:=pairwise_map.mpr (h.imp fun {a b} h z=>h (by lia))
theorem Ye {m:Nat}{es:List Nat}(h:∀e∈es,e < m):((ups es).map V.int).all (rO (m:Int))=true:=by
 refine all_eq_true.mpr fun x hx=>?_;rw[gS] at hx;obtain⟨i,hi,rfl⟩:=mem_map.mp hx;have:=h i hi;exact decide_eq_true ⟨by lia,by lia⟩
def NoL (K:Frag)(H:Hp)(x:V):Prop:=∃t,TyQ K H x t/\W.kitOne K t (.type "list")=some false
def Bv (K:Frag)(H:Hp)(m:Nat)(x:V):Prop:=NoL K H x\/∃b xs,x=.ref b/\SqL K H b xs/\xs.length<=60/\(∀y∈xs,yM K H y)/\(xs=[]\/xs.all (rO (m:Int))=false\/∃ns:List Int,xs=ns.map V.int/\¬ns.Nodup)
structure kF (m:Nat) (es:List Nat):Prop where
 ne:es≠[]
 nd:es.Nodup
 lt:∀e∈es,e < m
def ELo (CF:Addr)(H:Hp)(E:XK)(ps:List Nat):Prop:=∀dx l H',aK H H'->H' dx=some (.xd [("points",.ref l)])->H' l=some (.lst ((ups ps).map V.int))->E (.ref CF) (some dx) H'
def Wg (CP CH CF:Addr)(K:Frag)(m:Nat)(ds:List RD)(x:V)(H:Hp)(E:XK)(q:List Nat->Addr->Prop):Prop:=
 (Bv K H m x/\∀H',aK H H'->E (.ref CP) none H')\/
 ∃b es,x=.ref b/\H b=some (.lst ((ups es).map V.int))/\kF m es/\EHo CH H E ds/\(jP ds->lsP (mk m ds) m es≠[]->ELo CF H E (lsP (mk m ds) m es))/\(jP ds->lsP (mk m ds) m es=[]->q es b)
def Ll (CN CP CH CF:Addr)(K:Frag):Sp:=fun vs H Q E=>∃(n l:Addr) (m:Nat) (ds:List RD) (x:V),vs=[.ref n,x]/\eJ CN K H n l (m:Int) ds/\(∀d∈ds,fR (m:Int) d.2.1 d.2.2.1)/\1<=m/\m<=20/\ds.length<=100/\Wg CP CH CF K m ds x H E fun _ _=>∀H',aK H H'->Q .non H'
theorem EHo.same {CH:Addr}{H H1:Hp}{E:XK}{ds:List RD}(h:EHo CH H E ds)(s:aK H H1):EHo CH H1 E ds:=fun i f dx H' s' e=>h i f dx H' (s.trans s') e
theorem kP {m:Nat}{es:List Nat}(g:kF m es):1<=es.length/\es.length<=m:=by
 refine⟨?_,?_⟩
 ·have:=g.ne
  cases es with
  |nil=>exact absurd rfl this
  |cons a r=>simp
 ·have:=g.nd.length_le_of_subset (l₂:=List.range m) fun x hx=>mem_range.mpr (g.lt x hx)
  rwa [length_range] at this
abbrev Fe:Stmt:=top 67
theorem Hu:aQ ["net","ends","loose"] ["net","ends"] (aH Fe):=sK9 rfl rfl rfl rfl (by decide +kernel)
theorem Pf {dV:Value}(F:aU K "refuse_ends" "refuse_ends" Fe dV f fd){CN CP CH:Addr}(NTx:NT K mg CN)(b:Bl mg)(ml:mg "len"=none)(mli:mg "list"=none)(mse:mg "set"=none)(mN:mI9 mg "NoPoint" CP)(xN:Na K CP){CF C0 fF:Addr}{fdF:FuncData}(mF:mI9 mg "Floats" CF)(qF:oB K CF C0 fF)(GF:aJ P w K mg base CX0 1 fF fdF ["self","points"] (Gy K CF))(bF:aP K fdF ["self","points"] []){gMa:Addr}{gdMa:FuncData}(GMa:aJ P w K mg base CX0 1 gMa gdMa ["self"] (sV CN K))(bMa:aP K gdMa ["self"] [])(mMa:iB K CN "many" gMa)(G1:aJ P w K mg base (CX1 P w) 3 g1 gd1 ["some","many"] (Qo K CP))(b1:aP K gd1 ["some","many"] [])(k1:kI9 K g1)(m1:mI9 mg "refuse_points" g1)(G2:aJ P w K mg base (CX1 P w) 5 g2 gd2 ["net"] (Vk CN CH K))(b2:aP K gd2 ["net"] [])(k2:kI9 K g2)(m2:mI9 mg "refuse_holds" g2)(G3:aJ P w K mg base CX0 7 g3 gd3 ["net","ends"] (Kr CN K))(b3:aP K gd3 ["net","ends"] [])(k3:kI9 K g3)(m3:mI9 mg "loose_points" g3) :
  aJ P w K mg base (CX1 P w) 8 f fd ["net","ends"] (Ll CN CP CH CF K):=by
 refine F.okX Hu (fun vs H Q E h=>?_) fun cdv A outer s H vs Q E hr h=>?_
 ·obtain⟨_,_,_,_,_,rfl,_⟩:=h;rfl
 obtain⟨n,l,m,ds,x,rfl,nt,pt,mo,m20,h100,h⟩:=h;have r1:=hr.mono (show 1<=7 by lia);have r2:=hr.mono (show 2<=7 by lia);have r3:=hr.mono (show 3<=7 by lia);have r5:=hr.mono (show 5<=7 by lia);refine⟨_,(aE (cS (PW.pt (mX (fA (cY (fG (i:=1) rfl (Or.inl rfl) b.isi mli rfl rfl PyProof.Rows.boot_list))) (nJ (bK gQ (bH bD rfl ml PySem.boot_len (aA (pv 1) aC)) aG (bN _))))) (aF (vD fB iA rfl rfl mN xN (aA bV aC))) bM)
  (aE (cG (aI G1 r3 rfl m1 k1 b1 .nil (lV fB iA) (aA (pv 1) (aA (fC (pv 0) NTx.cl mMa GMa r1 bMa .nil aS) aC))))
  (aE (cS (bK wM (Eo rfl rfl ml rfl mse (pv 1)) (bH bD rfl ml PySem.boot_len (aA (pv 1) aC)) (bN _)) (aF (vD fB iA rfl rfl mN xN (aA bV aC))) bM)
  (aE (cG (aI G2 r5 rfl m2 k2 b2 .nil (lV fB iA) (aA (pv 0) aC)))
  (aE (aV (i:=2) Hu.nd rfl (Or.inl rfl) (aI G3 hr rfl m3 k3 b3 .nil aS (aA (pv 0) (aA (pv 1) aC))))
  (aF (cS (bK Hf (bH bD rfl ml PySem.boot_len (aA (pv 2) aC)) aG (bN _)) (aF (xG fB iA rfl rfl mF qF GF r2 bF (aA (pv 2) aC))) bM))))))),?_⟩
 obtain⟨dn,hn⟩:=nt.ob;rcases h with ⟨hbad,qE⟩ | ⟨b',es,rfl,hb,ge,qH,qF',q⟩
 ·rcases hbad with ⟨ty,h1,h2⟩ | ⟨b',xs,rfl,hbS,x60,hA,hbad⟩
  ·refine⟨_,ty,false,rfl,h1,h2,_,rfl,cT ?_⟩;refine cT ?_;exact⟨zl9 1,qE H (aK.refl H)⟩
  refine⟨_,_,true,rfl,.lst hbS,rfl,_,rfl,eH ⟨_,rfl,b',_,rfl,.inl hbS,rfl,_,rfl,?_⟩⟩
  by_cases hx:xs=[]
  ·subst hx;refine L2.ifT rfl ?_;exact⟨zl9 1,qE H (aK.refl H)⟩
  refine L2.ifF (decide_eq_false fun z=>hx ?_) ?_
  ·injection z with z
   exact length_eq_zero_iff.mp (by lia)
  refine⟨_,rfl,_,rfl,n,dn,_,rfl,hn,dX _ _ (by decide +kernel) (by decide +kernel),n,l,_,ds,rfl,nt,b',xs,_,rfl,hbS,by lia,hA,fun hall H1 s1=>?_,fun _ H1 s1=>qE H1 s1⟩;obtain⟨ns,rfl,nnd⟩:=(hbad.resolve_left hx).resolve_left (by rw[hall];decide);rw[length_map] at x60;refine⟨_,rfl,b',ns,rfl,s1.seq hbS,by lia,_,rfl,b',_,rfl,.inl (s1.seq hbS),_,_,rfl,rfl,_,rfl,L2.ifT ?_ ?_⟩
  ·rw[length_map];refine decide_eq_true ?_;have:=uF ns;have:(ddl ns).length≠ns.length:=fun z=>nnd (Yq ns z);lia
  ·exact⟨zl9 1,qE H1 s1⟩
 have hbS:=SqL.of (K:=K) hb;obtain⟨el,em⟩:=kP ge;have lu:(ups es).length=es.length:=length_map ..;refine⟨_,_,true,rfl,.lst hbS,rfl,_,rfl,eH ⟨_,rfl,b',_,rfl,.inl hbS,rfl,_,rfl,L2.ifF ?_ ?_⟩⟩
 ·rw[length_map,lu];exact decide_eq_false (fun z=>by injection z;lia)
 refine⟨_,rfl,_,rfl,n,dn,_,rfl,hn,dX _ _ (by decide +kernel) (by decide +kernel),n,l,_,ds,rfl,nt,b',_,_,rfl,hbS,by rw[length_map,lu];lia,fun y hy=>?_,fun _ H1 s1=>?_,fun z=>absurd z (by rw[Ye ge.lt];decide)⟩
 ·obtain⟨j,hj,rfl⟩:=mem_map.mp hy;exact .inl ⟨j,rfl⟩
 refine⟨_,rfl,b',ups es,rfl,s1.seq hbS,by lia,_,rfl,b',_,rfl,.inl (s1.seq hbS),_,_,rfl,rfl,_,rfl,L2.ifF ?_ ?_⟩
 ·rw[Yu (Ya ge.nd),length_map (f:=V.int)];exact decide_eq_false (by lia)
 refine⟨_,rfl,n,l,_,ds,rfl,nt.same s1,h100,fun nh H2 s2=>?_,qH.same s1⟩;have s02:=s1.trans s2;refine⟨_,rfl,_,rfl,n,l,b',m,ds,es,rfl,nt.same s02,pt,mo,m20,h100,s02 _ _ hb,ge.lt,fun l' H3 s3 e3=>?_⟩;have s03:=s02.trans s3;refine⟨_,rfl,l',_,rfl,.inl (SqL.of e3),_,_,rfl,rfl,_,rfl,?_⟩;have q:=q nh;have qF':=qF' nh;have lp:(lsP (mk m ds) m es).length<=m:=by
  have:=length_filter_le (fun p=>es.all fun e=>decide (mk m ds e≠mk m ds p)) (List.range m);rw[length_range] at this;exact this
 generalize lsP (mk m ds) m es=ps at q qF' e3 lp ⊢
 by_cases c:ps=[]
 ·subst c;exact L2.ifF rfl (q rfl H3 s03)
 ·refine L2.ifT (decide_eq_true ?_) ?_
  ·rw[length_map,length_map];have:ps.length≠0:=fun z=>c (length_eq_zero_iff.mp z);lia
  refine⟨_,rfl,zl9 1,fun x hx=>?_⟩;have sx:=aD hx (kJ x (.ref CF) none);refine⟨x,l',_,rfl,aB,SqL.of (sx _ _ e3),by rw[length_map,length_map];lia,fun dx l4 H4 ndx nl4 ne1 ne2 keep ex ed4 el4=>⟨rfl,some dx,ex,?_⟩⟩;exact qF' c dx l4 _ (wZ s03 hx keep) (by rw[jK ne1];exact ed4) (by rw[jK ne2];exact el4)
structure Sq (m n:Nat) (X:List (List Mq.Q2)) (cs:List Mq.Q2):Prop where
 m1:1<=m
 m20:m<=20
 lX:X.length=m
 rX:∀row∈X,row.length=m/\∀p∈row,Low p/\Bd n p
 lc:cs.length=m
 rc:∀p∈cs,Low p/\Bd n p
 bits:10+n+n*(m+1)<=8000
theorem iJ {K:Frag}{H:Hp}{t:Addr}{p:Mq.Q2}(f:Fq K H t p):∀n,Fqs K H (replicate n (.ref t)) (replicate n p)
 |0=>.nil
 |n+1=>.cons f (iJ f n)
theorem gO (x:V):∀n,(replicate n [x]).flatten=replicate n x
 |0=>rfl
 |n+1=>by rw[replicate_succ,flatten_cons,gO x n];rfl
theorem Tz (w:Nat):MxB (replicate w (replicate w (0,1))) w w 1:=by
 refine⟨length_replicate,fun ps hp=>?_,fun ps hp p hp'=>?_⟩
 ·rw[eq_of_mem_replicate hp,length_replicate]
 ·rw[eq_of_mem_replicate hp] at hp';rw[eq_of_mem_replicate hp'];exact⟨⟨by decide,by decide⟩,⟨show (0:Nat) < 2 ^ 1 by decide,show (1:Nat) < 2 ^ 1 by decide⟩⟩
theorem wJ (w j:Nat):(replicate w ((0,1):Mq.Q2)).getD j (0,1)=(0,1):=by
 rw[getD_eq_getElem?_getD]
 cases e:(replicate w ((0,1):Mq.Q2))[j]? with
 |none=>rfl
 |some p=>exact eq_of_mem_replicate (mem_of_getElem? e)
theorem Lb (w i j:Nat):iW (replicate w (replicate w (0,1))) i j=(0,1):=by
 have e:(replicate w (replicate w ((0,1):Mq.Q2))).getD i []=[]\/(replicate w (replicate w ((0,1):Mq.Q2))).getD i []=replicate w (0,1):=by
  rw[getD_eq_getElem?_getD]
  cases e:(replicate w (replicate w ((0,1):Mq.Q2)))[i]? with
  |none=>exact .inl rfl
  |some ps=>exact .inr (eq_of_mem_replicate (mem_of_getElem? e))
 unfold iW;rcases e with e | e
 ·rw[e];rfl
 ·rw[e];exact wJ w j
theorem Rv (w:Nat):LnB (replicate w (0,1)) w 1:=⟨length_replicate,fun p hp=>by
 rw[eq_of_mem_replicate hp];exact⟨⟨by decide,by decide⟩,⟨show (0:Nat) < 2 ^ 1 by decide,show (1:Nat) < 2 ^ 1 by decide⟩⟩⟩
theorem Zp {M X:List (List Mq.Q2)}{m n n':Nat}(b:MxB M m m n)(lX:X.length=m)(rX:∀row∈X,row.length=m/\∀p∈row,Low p/\Bd n' p)(v:∀i j,i < m->j < m->Mq.val (iW M i j)=Mq.val (iW X i j)):M=X:=by
 refine Yy b.h lX b.w (fun row hr=>(rX row hr).1) fun i j hi hj=>?_;have g:=rX _ (mem_of_getElem? (qG (show i < X.length by lia)));exact Ff (b.at hi hj).2.1 (g.2 _ (mem_of_getElem? (gU (by rw[g.1];exact hj)))).1 (v i j hi hj)
theorem Zb {R cs:List Mq.Q2}{m n n':Nat}(b:LnB R m n)(lc:cs.length=m)(rc:∀p∈cs,Low p/\Bd n' p)(v:∀i,i < m->Mq.val (R.getD i (0,1))=Mq.val (cs.getD i (0,1))):R=cs:=
 Mr b.w lc fun i hi=>Ff (b.at hi).2.1 (rc _ (mem_of_getElem? (gU (by lia)))).1 (v i hi)
def Eg (CN CT:Addr)(K:Frag):Sp:=fun vs H Q _=>∃(n l:Addr) (m k b:Nat) (ds:List RD) (X:List (List Mq.Q2)) (cs:List Mq.Q2),vs=[.ref n]/\eJ CN K H n l (m:Int) ds/\(∀d∈ds,Mn (m:Int) d/\Bd k d.2.2.2)/\jP ds/\ds.length<=40/\(4*k+20)*ds.length+4*k+30<=8900/\Sq m b X cs/\(∀i j,i < m->j < m->eqM m ds i j=Mq.val (iW X i j))/\(∀i,i < m->eqR m ds i=Mq.val (cs.getD i (0,1)))/\∀x H',aK H H'->iK CT K H' x (iP m) X cs->Q (.ref x) H'
abbrev Pl:Stmt:=top 69
theorem vB:aQ ["net","many","matrix","comes","row"] ["net"] (aH Pl):=sK9 rfl rfl rfl rfl (by decide +kernel)
theorem Sb {dV:Value}(F:aU K "table_of_all" "table_of_all" Pl dV f fd){CN CT:Addr}(TBx:TB K mg CT)(NTx:NT K mg CN)(T:RT K mg CR CK)(ml:mg "len"=none)(mr:mg "range"=none)(mli:mg "list"=none){aN:Addr}(fN:∀H,Fq K H aN (0,1))(mNO:mI9 mg "NOUGHT" aN)(GW:∀k,aJ P w K mg base CX0 1 (fW k) (fdW k) ["self"] (kU k))(bW:∀k,aP K (fdW k) ["self"] [])(mW:∀k,iB K (CK k) "word" (fW k)){gTI:Addr}{gdTI:FuncData}(GTI:aJ P w K mg base CX0 1 gTI gdTI ["self","ends","matrix","comes"] (yB CT K))(bTI:aP K gdTI ["self","ends","matrix","comes"] [])(MT:Mk K CT gTI){gRo:Addr}{gdRo:FuncData}(GRo:aJ P w K mg base CX0 4 gRo gdRo ["self"] (yU CN K CK))(bRo:aP K gdRo ["self"] [])(mRo:iB K CN "rows" gRo){gMa:Addr}{gdMa:FuncData}(GMa:aJ P w K mg base CX0 1 gMa gdMa ["self"] (sV CN K))(bMa:aP K gdMa ["self"] [])(mMa:iB K CN "many" gMa)(G1:aJ P w K mg base CX0 6 g1 gd1 ["matrix","row"] (Ar K CK))(b1:aP K gd1 ["matrix","row"] [])(k1:kI9 K g1)(m1:mI9 mg "enter_piece" g1)(G2:aJ P w K mg base CX0 5 g2 gd2 ["right","row"] (Bq K CK))(b2:aP K gd2 ["right","row"] [])(k2:kI9 K g2)(m2:mI9 mg "enter_push" g2) :
  aJ P w K mg base CX 7 f fd ["net"] (Eg CN CT K):=by
 refine F.ok vB (fun vs H Q E h=>?_) fun cdv A outer s H vs Q E hr h=>?_
 ·obtain⟨_,_,_,_,_,_,_,_,rfl,_⟩:=h;rfl
 obtain⟨n,l,m,k,b,ds,X,cs,rfl,nt,hK,nh,h40,hbig,SQ,hM,hRv,q⟩:=h;have r1:=hr.mono (show 1<=6 by lia);have r2:=hr.mono (show 2<=6 by lia);have r4:=hr.mono (show 4<=6 by lia);have r5:=hr.mono (show 5<=6 by lia);refine⟨_,(aE (aV (i:=1) vB.nd rfl (Or.inr rfl) (fC (pv 0) NTx.cl mMa GMa r1 bMa .nil aS))
  (aE (hZ (i:=2) (nl:=1) (fr:=[1]) (Nc:=["point","many"]) (cl:=[("many",s.heap.objs.size+1)]) vB.nd rfl rfl rfl ⟨rfl,rfl,by decide +kernel,by decide +kernel,fun x c h=>h,cC rfl,rfl,fun i n h=>match i,h with | 0,h=>by cases h;exact⟨1,rfl,rfl,rfl,rfl,.inl rfl⟩ | k+1,h=>by rw[show 1+(k+1)=k+2 by lia] at h;cases h⟩
    (gF rfl mr (aA (pv 1) aC)) (fun C s3 H3 fp pins=>(aR (i:=0) mY rfl (Or.inl rfl))) (fun C s3 H3 fp pins=>cA)
    (fun C s3 H3 fp pins=>(aZ nB (cX (aA (eV (v:=.ref aN) rfl mNO rfl) aC)) (pv 1))) rfl)
  (aE (aV (i:=3) vB.nd rfl (Or.inl rfl) (aZ nB (cX (aA (eV (v:=.ref aN) rfl mNO rfl) aC)) (pv 1)))
  (aE (dP PassesOwn.never rfl (bO (fC (pv 0) NTx.cl mRo GRo r4 bRo .nil aS)) (aR (i:=4) vB.nd rfl (Or.inl rfl))
   (aF (cS (bK gQ (jJ (pv 4) T.cl mW GW r1 bW .nil aS) bV (bN _)) (aF (cG (aI G1 hr rfl m1 k1 b1 .nil aS (aA (pv 2) (aA (pv 4) aC))))) (aF (cG (aI G2 r5 rfl m2 k2 b2 .nil aS (aA (pv 3) (aA (pv 4) aC))))))))
  (aF (aX (lY MT GTI r2 rfl TBx.mT bTI .nil aS (aA (oN rfl rfl mli rfl mr (aA (pv 1) aC)) (aA (pv 2) (aA (pv 3) aC)))))))))),?_⟩
 have hm20:=SQ.m20;have hm1:=SQ.m1;obtain⟨dx,hn⟩:=nt.ob;refine⟨_,rfl,n,dx,_,rfl,hn,dX _ _ (by decide +kernel) (by decide +kernel),n,l,_,ds,rfl,nt,?_⟩;obtain⟨W,hW⟩:∃W:Nat,W=m:=⟨_,rfl⟩
 have eW:(m:Int)=(W:Int):=by rw[hW]
 show jI _ _ _ [some (.ref n),some (.int (m:Int)),none,none,none] H;rw[eW];have hW60:W<=60:=by lia
 have hmW:m<=W:=by lia
 obtain⟨H2,hH2⟩:∃H2:Hp,H2=H:=⟨_,rfl⟩
 have s12:aK H H2:=by rw[hH2];exact aK.refl _
 rw[<- hH2];refine⟨_,rfl,(W:Int),rfl,by lia,by lia,fun D hD=>?_⟩;rw[Int.toNat_natCast];have sD:=aD hD (.lst []);refine iE (n:=W) (fun i zs H'=>aK H2 H'/\H' D=some (.lst zs)/\∃as:List Addr,zs=as.map V.ref/\as.length=i/\as.Nodup/\D∉as/\(∀b∈as,H2 b=none)/\∀b∈as,H' b=some (.lst (replicate W (.ref aN)))) ⟨sD,aB,[],rfl,rfl,nodup_nil,(by simp),(fun b hb=>by cases hb),(fun b hb=>by cases hb)⟩ (fun i zs H' h=>h.2.1) ?_ ?_
 ·rintro i zs H3 hi ⟨s3,e3,as,rfl,la,nd,nD,fr,al⟩ C hC;refine⟨bU.1,bU.2,cT ?_⟩;refine⟨zl9 1,fun l1 hl1=>?_⟩;have s4:=aD hl1 (.lst [.ref aN]);have e4:upd H3 l1 (.lst [.ref aN]) l1=some (.lst [.ref aN]):=aB;generalize upd H3 l1 (.lst [.ref aN])=H4 at s4 e4 ⊢;refine⟨_,rfl,l1,(W:Int),[.ref aN],rfl,rfl,e4,by lia,by lia,?_,fun b hb=>?_⟩
  ·rw[Int.toNat_natCast,sizeLine_eq];simp only[length_cons,length_nil];lia
  rw[Int.toNat_natCast,gO];have s5:=aD hb (.lst (replicate W (.ref aN)));have e5:upd H4 b (.lst (replicate W (.ref aN))) b=some (.lst (replicate W (.ref aN))):=aB;generalize upd H4 b (.lst (replicate W (.ref aN)))=H5 at s5 e5 ⊢;have s35:=s4.trans s5;have e35:=s35 _ _ e3;have nbD:b≠D:=Ne.symm (bB (s4 _ _ e3) hb);have nba:b∉as:=fun z=>by rw[s4 _ _ (al b z)] at hb;cases hb
  refine⟨e35,aW (by rw[length_map];lia),hC _ _ ⟨(s3.trans s35).change hD,aB,as++[b],by rw[map_append];rfl,by rw[List.length_append,la];rfl,?_,?_,fun c hc=>?_,fun c hc=>?_⟩⟩
  ·rw[nodup_append];refine⟨nd,by simp,fun x hx y hy z=>?_⟩;have:y=b:=by simpa using hy
   exact nba (by rw[<- this,<- z];exact hx)
  ·intro z;rcases mem_append.mp z with z | z
   ·exact nD z
   ·have:D=b:=by simpa using z
    exact nbD this.symm
  ·rcases mem_append.mp hc with z | z
   ·exact fr c z
   ·have:c=b:=by simpa using z
    rw[this];exact(s3.trans s4).free hb
  ·rcases mem_append.mp hc with z | z
   ·rw[aM (fun y=>nD (by rw[<- y];exact z))];exact s35 _ _ (al c z)
   ·have:c=b:=by simpa using z
    rw[this,aM nbD];exact e5
 rintro zs3 H3 ⟨s3,e3,as,rfl,la,nd,nD,fr,al⟩;have mx3:Mx K H3 D as (replicate W (replicate W (0,1))):=⟨e3,nd,nD,by rw[la,length_replicate],fun i b ps h1 h2=>by
  rw[eq_of_mem_replicate (mem_of_getElem? h2)];exact⟨_,al b (mem_of_getElem? h1),iJ (fN _) W⟩⟩
 have nDH:H2 D=none:=hD;refine⟨zl9 1,fun l1 hl1=>?_⟩;have s4:=aD hl1 (.lst [.ref aN]);have e4:upd H3 l1 (.lst [.ref aN]) l1=some (.lst [.ref aN]):=aB;generalize upd H3 l1 (.lst [.ref aN])=H4 at s4 e4 ⊢;refine⟨_,rfl,l1,(W:Int),[.ref aN],rfl,rfl,e4,by lia,by lia,?_,fun R hR=>?_⟩
 ·rw[Int.toNat_natCast,sizeLine_eq];simp only[length_cons,length_nil];lia
 rw[Int.toNat_natCast,gO];have s5:=aD hR (.lst (replicate W (.ref aN)));have e5:upd H4 R (.lst (replicate W (.ref aN))) R=some (.lst (replicate W (.ref aN))):=aB;generalize upd H4 R (.lst (replicate W (.ref aN)))=H5 at s5 e5 ⊢;have s25:=s3.trans (s4.trans s5);have nRH:H2 R=none:=(s3.trans s4).free hR;have nRD:R≠D:=Ne.symm (bB ((s4) _ _ mx3.d) hR);have nRa:R∉as:=fun z=>by rw[s4 _ _ (al R z)] at hR;cases hR
 have mx5:=(mx3.same s4).same s5;have allN:∀b∈R :: as,H2 b=none:=fun b hb=>by
  rcases mem_cons.mp hb with z | z
  ·rw[z];exact nRH
  ·exact fr b z
 have F5:Fqs K H5 (replicate W (.ref aN)) (replicate W (0,1)):=iJ (fN _) W;have s25':=s12.trans s25;obtain⟨dx5,hn5⟩:=(nt.same s25').ob;have nt5:=nt.same s25';rw[eW] at nt5;refine⟨_,rfl,n,dx5,_,rfl,hn5,dX _ _ (by decide +kernel) (by decide +kernel),n,l,_,ds,rfl,nt5,by lia,fun a xs H5r s5r na ea Rb=>?_⟩;have lxs:=Rb.length;have s2r:=s25.trans s5r;have mx5r:=mx5.same s5r;have F5r:=F5.same s5r;obtain⟨NB,hNB⟩:∃NB,NB=4*k+20:=⟨_,rfl⟩
 rw[<- hNB] at hbig;have lsR:Pi (R :: as) H5r:=fun c hc=>by
  rcases mem_cons.mp hc with z | z
  ·rw[z];exact⟨_,s5r _ _ e5⟩
  ·exact mx5r.lsts c z
 have naA:a∉R :: as:=fun z=>by
  obtain⟨_,h1⟩:∃xs,H5 a=some (.lst xs):=by
   rcases mem_cons.mp z with z | z
   ·rw[z];exact⟨_,e5⟩
   ·exact mx5.lsts a z
  rw[h1] at na;cases na
 refine⟨a,rfl,⟨_,SqL.of ea⟩,?_⟩;refine dW (xs:=xs) (fun i σ H'=>SX (R :: as) H5r H'/\∃(M:List (List Mq.Q2)) (ys:List V) (rs:List Mq.Q2) (z7:Option V),σ=[some (.ref n),some (.int (W:Int)),some (.ref D),some (.ref R),z7]/\Mx K H' D as M/\MxB M W W (NB*i+1)/\H' R=some (.lst ys)/\Fqs K H' ys rs/\LnB rs W (NB*i+1)/\(∀x y,Mq.val (iW M x y)=eqM m (ds.take i) x y)/\∀x,Mq.val (rs.getD x (0,1))=eqR m (ds.take i) x) ⟨(aK.refl _).sx,_,_,_,none,rfl,mx5r,Tz W,s5r _ _ e5,F5r,Rv W,fun x y=>by rw[Lb,Fy];rfl,fun x=>by rw[wJ,Fy];rfl⟩ (fun i σ H' _ h=>SqL.of (h.1 _ _ ea naA)) ?_ ?_
 ·rintro i x σ H6 hx ⟨s6,M,ys,rs,z7,rfl,mx,mb,eR,FR,lb,vM,vR⟩;have hi:i < ds.length:=by
   have:=(List.getElem?_eq_some_iff.mp hx).1;lia
  obtain⟨⟨k0,u,v,p⟩,hd⟩:∃d,ds[i]?=some d:=⟨_,getElem?_eq_getElem hi⟩
  obtain⟨y,z,ey,rw0,fz0⟩:=Rb.at hd;have ex:x=.ref y:=by rw[ey] at hx;exact(Option.some.inj hx).symm
  subst ex;obtain⟨rd,bp⟩:=hK _ (mem_of_getElem? hd);have lp:Low p:=rd.2.2.2.2.1;have bp:Bd k p:=bp;have ptm:fR (m:Int) u v:=⟨rd.1,rd.2.1,rd.2.2.1,rd.2.2.2.1⟩
  have ptW:fR (W:Int) u v:=by rw[<- eW];exact ptm
  have rw6:=SX.rw lsR s6 rw0;have fz6:Fq K H6 z p:=SX.seqT lsR s6 fz0;obtain⟨dr,hy⟩:=id rw6;have et:ds.take (i+1)=ds.take i++[(k0,u,v,p)]:=by rw[take_add_one,hd];rfl
  have eN:NB*(i+1)+1=(NB*i+1)+NB:=by rw[Nat.mul_succ];lia
  have leN:NB*(i+1)<=NB*ds.length:=Nat.mul_le_mul_left _ hi;rw[Nat.mul_succ] at leN;have eM:∀x y,eqM m (ds.take (i+1)) x y=eqM m (ds.take i) x y+cM (k0,u,v,p) (m+zO (ds.take i)) x y:=fun x y=>by rw[et,Af]
  have eRr:∀x,eqR m (ds.take (i+1)) x=eqR m (ds.take i) x+cR (k0,u,v,p) (m+zO (ds.take i)) x:=fun x=>by rw[et,Bw]
  rw[eN];have lst:=mx.lsts
  cases k0 with
  |pc=>
   have p0:0 < p.1:=rd.2.2.2.2.2.1 rfl;refine⟨_,rfl,Kd.pc,y,dr,_,rfl,hy,(jC _ _ _ (by decide +kernel) (by decide +kernel) (by decide +kernel)),_,rfl,rfl,_,rfl,ifT (by show decide (V.str Kd.pc.wd=V.str Kd.pc.wd)=true;rw[eS];rfl) ?_⟩;refine⟨_,rfl,_,rfl,D,y,z,as,M,(.pc,u,v,p),W,NB*i+1,k,rfl,mx,mb,rw6,fz6,ptW,lp,p0,bp,by lia,fun H7 sx7 mx7=>?_⟩;obtain⟨mb7,v7⟩:=qc8 (d:=(.pc,u,v,p)) (h:=m+zO (ds.take i)) mb ptm hmW rfl lp p0 bp;have eR7:=sx7 _ _ eR nRa;refine⟨s6.trans (sx7.mono fun c hc=>mem_cons_of_mem _ hc),_,ys,rs,_,rfl,mx7,mb7.mono (by lia),eR7,SX.fqs lst sx7 FR,lb.mono (by lia),fun x y=>by rw[v7,vM,eM],fun x=>?_⟩;rw[vR,eRr];show _=_+(0:Rat)
   rw[Rat.add_zero]
  |pu=>
   refine⟨_,rfl,Kd.pu,y,dr,_,rfl,hy,(jC _ _ _ (by decide +kernel) (by decide +kernel) (by decide +kernel)),_,rfl,rfl,_,rfl,ifF (by show decide (V.str Kd.pu.wd=V.str Kd.pc.wd)=false;rw[eS];rfl) ?_⟩;refine⟨_,rfl,_,rfl,R,y,z,ys,rs,(.pu,u,v,p),W,NB*i+1,k,rfl,eR,FR,lb,rw6,fz6,ptW,lp,bp,by lia,fun ys' H7 sx7 eR7 F7=>?_⟩;obtain⟨lb7,v7⟩:=qc4 (d:=(.pu,u,v,p)) (h:=m+zO (ds.take i)) lb ptm hmW rfl lp bp;have mx7:Mx K H7 D as M:=⟨sx7 _ _ mx.d (by simp;exact Ne.symm nRD),mx.n,mx.nd,mx.la,fun i' b ps h1 h2=>by
    obtain⟨ws,h,f⟩:=mx.r i' b ps h1 h2;refine⟨ws,sx7 _ _ h (by simp;exact fun z=>nRa (by rw[<- z];exact mem_of_getElem? h1)),SX.fqs (as:=[R]) (fun c hc=>?_) sx7 f⟩;have:c=R:=by simpa using hc
    exact⟨ys,by rw[this];exact eR⟩⟩
   refine⟨s6.trans (sx7.mono fun c hc=>by have:c=R:=(by simpa using hc);rw[this];exact mem_cons_self ..),M,ys',_,_,rfl,mx7,mb.mono (by lia),eR7,F7,lb7.mono (by lia),fun x y=>?_,fun x=>by rw[v7,vR,eRr]⟩
   rw[vM,eM];show _=_+(0:Rat)
   rw[Rat.add_zero]
  |ho=>exact absurd rfl (nh _ (mem_of_getElem? hd))
 rintro σ H6 ⟨s6,M,ys,rs,z7,rfl,mx,mb,eR,FR,lb,vM,vR⟩;rw[lxs] at mb lb vM vR;rw[take_length] at vM vR;rw[hW] at mb lb;have eMX:=Zp mb SQ.lX SQ.rX fun i j hi hj=>by rw[vM];exact hM i j hi hj
 have eRC:=Zb lb SQ.lc SQ.rc fun i hi=>by rw[vR];exact hRv i hi
 rw[eMX] at mx;rw[eRC] at FR;have s0r:aK H H5r:=s12.trans s2r;have s06:aK H H6:=SX.same s0r s6 (fun c hc=>by rw[<- hH2];exact allN c hc);rw[hW];refine⟨_,rfl,m,rfl,by lia,fun E hE=>?_⟩;have sE:=aD hE (.lst ((List.range m).map fun (i:Nat)=>V.int (i:Int)));have eE:upd H6 E (.lst ((List.range m).map fun (i:Nat)=>V.int (i:Int))) E=some (.lst ((iP m).map V.int)):=by
  rw[aB];unfold iP;rw[map_map];rfl
 generalize upd H6 E (.lst ((List.range m).map fun (i:Nat)=>V.int (i:Int)))=H7 at sE eE ⊢;refine⟨_,rfl,_,rfl,?_⟩;intro x dx' hx hdx ndx;have sN:aK H7 (upd (upd H7 dx' (.own x)) x (.ins CT dx' [])):=Cd (K:=K) hx hdx ndx;have mx7:=mx.same sE;have lnX:Lns K H7 (as.map V.ref) X:=⟨by rw[length_map];exact mx7.la,fun i x ps h1 h2=>by
  rw[getElem?_map] at h1;obtain⟨b',hb',rfl⟩:=Option.map_eq_some_iff.mp h1;obtain⟨ws,h,f⟩:=mx7.r i b' ps hb' h2;exact⟨b',ws,rfl,SqL.of h,f⟩⟩
 refine⟨x,dx',E,D,R,iP m,as.map V.ref,ys,_,_,rfl,aB,sN.seq (SqL.of eE),sN.seq (SqL.of mx7.d),lnX.same sN,?_,sN.seq (SqL.of (sE _ _ eR)),(FR.same sE).same sN,fun H9 s9 T9=>⟨rfl,q x H9 ((s06.trans sE).trans (xC hx hdx ndx s9)) T9⟩⟩;rw[length_map,la];lia
structure TbV (m:Nat) (ds:List RD) (X:List (List Mq.Q2)) (cs:List Mq.Q2) (b k:Nat):Prop where
 sq:Sq m b X cs
 tc:TbC m k X cs
 vM:∀i j,i < m->j < m->eqM m ds i j=Mq.val (iW X i j)
 vR:∀i,i < m->eqR m ds i=Mq.val (cs.getD i (0,1))
structure rM (m:Nat) (ds:List RD):Prop where
 m8:m<=8
 m1:1<=m
 l40:ds.length<=40
 ok:∀d∈ds,Mn (m:Int) d/\Bd 8 d.2.2.2
theorem rM.pt {m:Nat}{ds:List RD}(h:rM m ds):∀d∈ds,fR (m:Int) d.2.1 d.2.2.1:=fun d hd=>⟨(h.ok d hd).1.1,(h.ok d hd).1.2.1,(h.ok d hd).1.2.2.1,(h.ok d hd).1.2.2.2.1⟩
def Pu (CN CT CP CH CF:Addr)(K:Frag):Sp:=fun vs H Q E=>∃(n l:Addr) (m:Nat) (ds:List RD) (x:V),vs=[.ref n,x]/\eJ CN K H n l (m:Int) ds/\rM m ds/\Wg CP CH CF K m ds x H E fun es b=>∃X cs bb kk,TbV m ds X cs bb kk/\∀t Y ys H',aK H H'->iK CT K H' t (ups es) Y ys->Q (.ref t) H'
abbrev Xg:Stmt:=top 65
theorem Zl:aQ ["net","ends"] ["net","ends"] (aH Xg):=sK9 rfl rfl rfl rfl (by decide +kernel)
theorem Xy {dV:Value}(F:aU K "table_of" "table_of" Xg dV f fd){CN CT CP CH CF:Addr}(G1:aJ P w K mg base (CX1 P w) 8 g1 gd1 ["net","ends"] (Ll CN CP CH CF K))(b1:aP K gd1 ["net","ends"] [])(k1:kI9 K g1)(m1:mI9 mg "refuse_ends" g1)(G2:aJ P w K mg base CX0 7 g2 gd2 ["net"] (Eg CN CT K))(b2:aP K gd2 ["net"] [])(k2:kI9 K g2)(m2:mI9 mg "table_of_all" g2)(G3:aJ P w K mg base CX0 5 g3 gd3 ["table","ends"] (Op CT K))(b3:aP K gd3 ["table","ends"] [])(k3:kI9 K g3)(m3:mI9 mg "narrowed" g3) :
  aJ P w K mg base (CX1 P w) 9 f fd ["net","ends"] (Pu CN CT CP CH CF K):=by
 refine F.okX Zl (fun vs H Q E h=>?_) fun cdv A outer s H vs Q E hr h=>?_
 ·obtain⟨_,_,_,_,_,rfl,_⟩:=h;rfl
 obtain⟨n,l,m,ds,x,rfl,nt,nb,h⟩:=h;have r5:=hr.mono (show 5<=8 by lia);have r7:=hr.mono (show 7<=8 by lia);refine⟨_,(aE (cG (aI G1 hr rfl m1 k1 b1 .nil (lV fB iA) (aA (pv 0) (aA (pv 1) aC))))
  (aF (aX (aI G3 r5 rfl m3 k3 b3 .nil aS (aA (aI G2 r7 rfl m2 k2 b2 .nil aS (aA (pv 0) aC)) (aA (pv 1) aC)))))),?_⟩
 have pt:=nb.pt;have m8:=nb.m8;have h40:=nb.l40;refine⟨_,rfl,_,rfl,n,l,m,ds,x,rfl,nt,pt,nb.m1,by lia,by lia,?_⟩;rcases h with h | ⟨b',es,rfl,hb,ge,qH,qF,q⟩
 ·exact .inl h
 refine .inr ⟨b',es,rfl,hb,ge,qH,qF,fun nh le H1 s1=>?_⟩;obtain⟨X,cs,bb,kk,TV,q⟩:=q nh le;refine⟨_,rfl,n,l,m,8,bb,ds,X,cs,rfl,nt.same s1,nb.ok,nh,h40,by lia,TV.sq,TV.vM,TV.vR,fun t H2 s2 T2=>?_⟩;exact⟨_,rfl,t,b',m,kk,es,X,cs,rfl,T2,TV.tc,(s1.trans s2) _ _ hb,ge.nd,ge.lt,fun x Y ys H3 s3 T3=>q x Y ys H3 (s1.trans (s2.trans s3)) T3⟩
def lvE (m:Nat)(es:List Nat):List Mq.Q2:=(List.range m).map fun p=>if p∈es then (5,7) else (0,1)
theorem gL (m:Nat)(es:List Nat):(lvE m es).length=m:=by unfold lvE;rw[length_map,length_range]
theorem uE {m p:Nat}{es:List Nat}(h:p < m):(lvE m es)[p]?=some (if p∈es then (5,7) else (0,1)):=by unfold lvE;rw[getElem?_map,getElem?_range h];rfl
theorem Ud (m:Nat):lvE m []=replicate m (0,1):=by
 refine ext_getElem? fun i=>?_
 by_cases h:i < m
 ·rw[uE h,getElem?_replicate,if_pos h];rfl
 ·rw[getElem?_eq_none (by rw[gL];lia),getElem?_eq_none (by rw[length_replicate];lia)]
theorem Sv {m i e:Nat}{es:List Nat}(he:es[i]?=some e):(lvE m (es.take i)).set e (5,7)=lvE m (es.take (i+1)):=by
 refine ext_getElem? fun p=>?_;rw[take_add_one,he]
 by_cases h:p < m
 ·rw[getElem?_set,gL,uE h,uE h]
  by_cases c:e=p
  ·subst c;rw[if_pos rfl,if_pos h,if_pos (by simp)]
  ·rw[if_neg c];congr 1
   by_cases d:p∈es.take i
   ·rw[if_pos d,if_pos (mem_append.mpr (.inl d))]
   ·rw[if_neg d,if_neg (fun z=>(mem_append.mp z).elim d (fun z=>c (by simpa using Eq.symm (by simpa using z))))]
 ·rw[getElem?_eq_none (by rw[length_set,gL];lia),getElem?_eq_none (by rw[gL];lia)]
theorem Ps (m:Nat)(es:List Nat):LB 3 (lvE m es):=⟨fun p hp=>by
 unfold lvE at hp;obtain⟨i,hi,rfl⟩:=mem_map.mp hp
 by_cases c:i∈es
 ·rw[if_pos c];exact⟨⟨by decide,by decide⟩,⟨show (5:Nat) < 2 ^ 3 by decide,show (7:Nat) < 2 ^ 3 by decide⟩⟩
 ·rw[if_neg c];exact⟨⟨by decide,by decide⟩,⟨show (0:Nat) < 2 ^ 3 by decide,show (1:Nat) < 2 ^ 3 by decide⟩⟩⟩
def rtE (m:Nat)(es:List Nat)(X:List (List Mq.Q2))(cs:List Mq.Q2):List Mq.Q2:=(inn m es).map fun i=>eQ (0,1) ((brL X cs (lvE m es)).getD i Mq.z0)
structure Vp (m:Nat) (es:List Nat) (X:List (List Mq.Q2)) (cs:List Mq.Q2) (k n:Nat):Prop where
 ql:pU (rtE m es X cs)
 qb:∀p∈rtE m es X cs,Bd k p
 xp:dS (dJ (inn m es) X)
 xb:∀row∈dJ (inn m es) X,∀p∈row,Bd k p
 b1:10+k+k*(m+1)<=8000
 bd:BdR n (gR (dJ (inn m es) X) (rtE m es X cs))
 n1:1<=n
 b2:bw n m<=8900
 w:wgt (dJ (inn m es) X)≠0
theorem lP (ks:List Nat)(X:List (List Mq.Q2)):(dJ ks X).length=ks.length:=by unfold dJ;rw[length_map]
theorem Mv {K:Frag}{H:Hp}{D:Addr}:∀{us:List V} {X:List (List Mq.Q2)},us.length=X.length->(∀(i:Nat) (x:V) (ps:List Mq.Q2),us[i]?=some x->X[i]?=some ps->∃a xs,x=V.ref a/\a≠D/\H a=some (.lst xs)/\Fqs K H xs ps)->Fmd K (fun _=>none) D H us X
 | [],[],_,_=>.nil
 | [],_ :: _,h,_=>by simp at h
 |_ :: _,[],h,_=>by simp at h
 |x :: us,ps :: X,h,r=>by
  obtain⟨a,xs,rfl,n,e,f⟩:=r 0 x ps rfl rfl;exact .cons rfl n e f (Mv (by simpa using h) fun i y qs h1 h2=>r (i+1) y qs (by simpa using h1) (by simpa using h2))
theorem q01:Low (0,1)/\Bd 1 (0,1):=⟨⟨by decide,by decide⟩,⟨show (0:Nat) < 2 ^ 1 by decide,show (1:Nat) < 2 ^ 1 by decide⟩⟩
def Vc (CN CP CH CF:Addr)(K:Frag):Sp:=fun vs H Q E=>∃(n l hA:Addr) (m:Nat) (ds:List RD) (x:V) (zh:List V),vs=[.ref n,x,.ref hA]/\eJ CN K H n l (m:Int) ds/\rM m ds/\SqL K H hA zh/\Wg CP CH CF K m ds x H E fun es b=>∃X cs bb kk k nn,TbV m ds X cs bb kk/\bb<=700/\Vp m es X cs k nn/\Fqs K H zh (replicate es.length (5,7))/\∀l' zs ps H',aK H H'->H' l'=some (.lst zs)->Fqs K H' zs ps->ps.length=m->(∀e∈es,ps[e]?=some (5,7))->Q (.ref l') H'
theorem qW:(["point","lacking"]:List Str).Nodup:=by decide +kernel
abbrev sIH:Stmt:=top 66
theorem vI:aQ ["net","ends","heights","inner","levels","point","height","table","lacking","right"] ["net","ends","heights"] (aH sIH):=sK9 rfl rfl rfl rfl (by decide +kernel)
theorem qa9 {dV:Value}(F:aU K "inner_heights" "inner_heights" sIH dV f fd){CN CT CP CH CF:Addr}(TBx:TB K mg CT)(NTx:NT K mg CN)(mr:mg "range"=none)(mz:mg "zip"=none){aN:Addr}(fN:∀H,Fq K H aN (0,1))(mNO:mI9 mg "NOUGHT" aN){gMa:Addr}{gdMa:FuncData}(GMa:aJ P w K mg base CX0 1 gMa gdMa ["self"] (sV CN K))(bMa:aP K gdMa ["self"] [])(mMa:iB K CN "many" gMa){gBr:Addr}{gdBr:FuncData}(GBr:aJ P w K mg base CX0 6 gBr gdBr ["self","heights"] (wQ CT K))(bBr:aP K gdBr ["self","heights"] [])(mBr:iB K CT "brought" gBr)(G1:aJ P w K mg base (CX1 P w) 8 g1 gd1 ["net","ends"] (Ll CN CP CH CF K))(b1:aP K gd1 ["net","ends"] [])(k1:kI9 K g1)(m1:mI9 mg "refuse_ends" g1)(G2:aJ P w K mg base CX0 7 g2 gd2 ["net"] (Eg CN CT K))(b2:aP K gd2 ["net"] [])(k2:kI9 K g2)(m2:mI9 mg "table_of_all" g2)(G3:aJ P w K mg base CX0 3 g3 gd3 ["one","other"] (lD K eQ))(b3:aP K gd3 ["one","other"] [])(k3:kI9 K g3)(m3:mI9 mg "minus" g3)(G4:aJ P w K mg base CX0 5 g4 gd4 ["matrix","right"] (vX K))(b4:aP K gd4 ["matrix","right"] [])(k4:kI9 K g4)(m4:mI9 mg "solved" g4)(G5:aJ P w K mg base CX0 1 g5 gd5 ["matrix","places"] (uA K))(b5:aP K gd5 ["matrix","places"] [])(k5:kI9 K g5)(m5:mI9 mg "picked" g5) :
  aJ P w K mg base (CX1 P w) 9 f fd ["net","ends","heights"] (Vc CN CP CH CF K):=by
 refine F.okX vI (fun vs H Q E h=>?_) fun cdv A outer s H vs Q E hr h=>?_
 ·obtain⟨_,_,_,_,_,_,_,rfl,_⟩:=h;rfl
 obtain⟨n,l,hA,m,ds,x,zh,rfl,nt,nb,hh,h⟩:=h;have r1:=hr.mono (show 1<=8 by lia);have r3:=hr.mono (show 3<=8 by lia);have r5:=hr.mono (show 5<=8 by lia);have r6:=hr.mono (show 6<=8 by lia);have r7:=hr.mono (show 7<=8 by lia);have r8:=hr;refine⟨_,(aE (cG (aI G1 r8 rfl m1 k1 b1 .nil (lV fB iA) (aA (pv 0) (aA (pv 1) aC))))
  (aE (hZ (i:=3) (nl:=1) (fr:=[1]) (Nc:=["point","ends"]) (cl:=[("ends",s.heap.objs.size+1)]) vI.nd rfl rfl rfl ⟨rfl,rfl,by decide +kernel,by decide +kernel,(bG rfl (dA)),cC rfl,rfl,fun i n h=>match i,h with | 0,h=>by cases h;exact⟨1,rfl,rfl,rfl,rfl,.inl rfl⟩ | k+1,h=>by rw[show 1+(k+1)=k+2 by lia] at h;cases h⟩
    (gF rfl mr (aA (fC (pv 0) NTx.cl mMa GMa r1 bMa .nil aS) aC)) (fun C s3 H3 fp pins=>(aR (i:=0) mM rfl (Or.inl rfl))) (fun C s3 H3 fp pins=>(sG (bK (iY (K:=K) rfl) (pv 0) (pv 1) rfl)))
    (fun C s3 H3 fp pins=>(pv 0)) rfl)
  (aE (aV (i:=4) vI.nd rfl (Or.inl rfl) (aZ nB (cX (aA (eV (v:=.ref aN) rfl mNO rfl) aC)) (fC (pv 0) NTx.cl mMa GMa r1 bMa .nil aS)))
  (aE (dP PassesOwn.leaving rfl (lK rfl mz rfl (aA (pv 1) (aA (pv 2) aC))) (gW rfl (bQ (aR (i:=5) vI.nd rfl (Or.inl rfl)) (bQ (aR (i:=6) vI.nd rfl (Or.inl rfl)) fE)))
   (aF (uR (pv 6) (tY (pv 4) (pv 5) kY))))
  (aE (aV (i:=7) vI.nd rfl (Or.inl rfl) (aI G2 r7 rfl m2 k2 b2 .nil aS (aA (pv 0) aC)))
  (aE (aV (i:=8) vI.nd rfl (Or.inr rfl) (xS ((pv 7)) TBx.cl mBr GBr r6 bBr .nil aS (aA (pv 4) aC)))
  (aE (hZ (i:=9) (nl:=1) (fr:=[8]) (Nc:=["point","lacking"]) (cl:=[("lacking",s.heap.objs.size+2)]) vI.nd rfl rfl rfl ⟨rfl,rfl,by decide +kernel,by decide +kernel,(bG rfl (dA)),cC rfl,rfl,fun i n h=>match i,h with | 0,h=>by cases h;exact⟨8,rfl,rfl,rfl,rfl,.inl rfl⟩ | k+1,h=>by rw[show 1+(k+1)=k+2 by lia] at h;cases h⟩
    (bO (pv 3)) (fun C s3 H3 fp pins=>(aR (i:=0) qW rfl (Or.inl rfl))) (fun C s3 H3 fp pins=>cA)
    (fun C s3 H3 fp pins=>(aI G3 r3 rfl m3 k3 b3 .nil aS (aA (eV (v:=.ref aN) rfl mNO rfl) (aA (aY (fD (K:=K) rfl) (pv 1) (pv 0) (fun _ _=>rfl)) aC)))) rfl)
  (aE (dP PassesOwn.leaving rfl (lK rfl mz rfl (aA (pv 3) (aA (aI G4 r5 rfl m4 k4 b4 .nil aS (aA (aI G5 r1 rfl m5 k5 b5 .nil aS (aA (cK (pv 7) rfl) (aA (pv 3) aC))) (aA (pv 9) aC))) aC))) (gW rfl (bQ (aR (i:=5) vI.nd rfl (Or.inl rfl)) (bQ (aR (i:=6) vI.nd rfl (Or.inl rfl)) fE)))
   (aF (uR (pv 6) (tY (pv 4) (pv 5) kY))))
  (aF (aX (pv 4))))))))))),?_⟩
 have pt:=nb.pt;have m8:=nb.m8;have h40:=nb.l40;refine⟨_,rfl,_,rfl,n,l,m,ds,x,rfl,nt,pt,nb.m1,by lia,by lia,?_⟩;rcases h with h | ⟨b',es,rfl,hb,ge,qH,qF,q⟩
 ·exact .inl h
 refine .inr ⟨b',es,rfl,hb,ge,qH,qF,fun nh le H1 s1=>?_⟩;obtain⟨X,cs,bb,kk,k,nn,TV,b7,SV,fh,q⟩:=q nh le;obtain⟨_,em⟩:=kP ge
 try dsimp only
 refine fU (fun σ' H'=>aK H H'/\∃I:Addr,σ'=[some (.ref n),some (.ref b'),some (.ref hA),some (.ref I),none,none,none,none,none,none]/\H' I=some (.lst (fH (inn m es)))) (fun X2 hX2=>?_) ?_
 ·obtain⟨dn,hn⟩:=(nt.same s1).ob;refine⟨_,rfl,n,dn,_,rfl,hn,dX _ _ (by decide +kernel) (by decide +kernel),n,l,_,ds,rfl,nt.same s1,(m:Int),rfl,by lia,by lia,fun D hD=>?_⟩;rw[Int.toNat_natCast];have sD:=aD hD (.lst []);refine iE (n:=m) (fun i zs H'=>aK H1 H'/\H' D=some (.lst zs)/\zs=fH (inn i es)) ⟨sD,aB,rfl⟩ (fun i zs H' h=>h.2.1) ?_ ?_
  ·rintro i zs H3 hi ⟨s3,e3,rfl⟩ C hC;refine⟨bU.1,bU.2,_,rfl,_,rfl,b',_,rfl,.inl (SqL.of ((s1.trans s3) _ _ hb)),rfl,jF _,?_⟩
   try rw[Int.zero_add]
   rw[lL];refine⟨_,rfl,?_⟩
   by_cases c:i∈es
   ·rw[decide_eq_true (lW.mpr c)];refine L2.ifF rfl ?_;exact hC _ _ ⟨s3,e3,by rw[kR,if_pos c,append_nil]⟩
   ·rw[decide_eq_false (fun z=>c (lW.mp z))];refine L2.ifT rfl ?_;refine⟨_,rfl,e3,aW (by rw[length_map];have:=yW i es;lia),hC _ _ ⟨s3.change hD,aB,?_⟩⟩
    try rw[Int.zero_add]
    rw[kR,if_neg c];show _=map _ _;rw[map_append];rfl
  ·rintro zs H3 ⟨s3,e3,rfl⟩;exact hX2 _ _ ⟨s1.trans s3,D,rfl,e3⟩
 rintro σ2 H2 ⟨s2,I,rfl,eI⟩;refine fU (fun σ' H'=>aK H H'/\H' I=some (.lst (fH (inn m es)))/\∃(L:Addr) (zs:List V),σ'=[some (.ref n),some (.ref b'),some (.ref hA),some (.ref I),some (.ref L),none,none,none,none,none]/\H L=none/\L≠I/\H' L=some (.lst zs)/\Fqs K H' zs (lvE m [])) (fun X2 hX2=>?_) ?_
 ·refine⟨zl9 1,fun l1 hl1=>?_⟩;have s3:=aD hl1 (.lst [.ref aN]);have e3:upd H2 l1 (.lst [.ref aN]) l1=some (.lst [.ref aN]):=aB;generalize upd H2 l1 (.lst [.ref aN])=H3 at s3 e3 ⊢;obtain⟨dn,hn⟩:=(nt.same (s2.trans s3)).ob;refine⟨_,rfl,n,dn,_,rfl,hn,dX _ _ (by decide +kernel) (by decide +kernel),n,l,_,ds,rfl,nt.same (s2.trans s3),l1,(m:Int),[.ref aN],rfl,rfl,e3,by lia,by lia,?_,fun L hL=>?_⟩
  ·rw[Int.toNat_natCast,sizeLine_eq];simp only[length_cons,length_nil];lia
  rw[Int.toNat_natCast,gO];have s4:=aD hL (.lst (replicate m (.ref aN)));have nLI:L≠I:=fun z=>by rw[z,s3 _ _ eI] at hL;cases hL
  refine hX2 _ _ ⟨s2.trans (s3.trans s4),(s3.trans s4) _ _ eI,L,_,rfl,(s2.trans s3).free hL,nLI,aB,?_⟩;rw[Ud];exact iJ (fN _) m
 rintro σ3 H3 ⟨s3,eI,L,zs,rfl,nL,nLI,eL,fL⟩;refine fU (fun σ' H'=>aK H H'/\H' I=some (.lst (fH (inn m es)))/\∃(zs:List V) (z5 z6:Option V),σ'=[some (.ref n),some (.ref b'),some (.ref hA),some (.ref I),some (.ref L),z5,z6,none,none,none]/\H' L=some (.lst zs)/\Fqs K H' zs (lvE m es)) (fun X2 hX2=>?_) ?_
 ·refine⟨_,rfl,_,rfl,b',hA,rfl,⟨_,SqL.of (s3 _ _ hb)⟩,⟨_,s3.seq hh⟩,?_⟩;refine Hm (xs:=(ups es).map V.int) (ys:=zh) (fun i σ' H'=>aK H H'/\H' I=some (.lst (fH (inn m es)))/\∃(zs:List V) (z5 z6:Option V),σ'=[some (.ref n),some (.ref b'),some (.ref hA),some (.ref I),some (.ref L),z5,z6,none,none,none]/\H' L=some (.lst zs)/\Fqs K H' zs (lvE m (es.take i))) ⟨s3,eI,zs,_,_,rfl,eL,fL⟩ (fun i σ H' _ h=>⟨SqL.of (h.1 _ _ hb),h.1.seq hh⟩) ?_ ?_
  ·rintro i x y σ H4 T1 ex ey ⟨s4,eI4,zs,z5,z6,rfl,eL4,fL4⟩ hT;obtain⟨v,p,rfl,ep,fv⟩:=fh.get ey;have hi:i < es.length:=by have:=(List.getElem?_eq_some_iff.mp ep).1;rwa [length_replicate] at this
   have p57:p=(5,7):=eq_of_mem_replicate (mem_of_getElem? ep);subst p57;have he:=getElem?_eq_getElem hi;have elt:=ge.lt _ (getElem_mem hi);rw[gS,getElem?_map,he] at ex
   cases ex
   generalize es[i]=e at he elt ⊢;have sT:=aD hT (.tup [.int (e:Int),.ref v]);refine⟨T1,_,rfl,SqT.of aB,rfl,_,_,rfl,_,_,rfl,rfl,?_⟩;generalize upd H4 T1 (.tup [.int (e:Int),.ref v])=H5 at sT ⊢;have eL5:=sT _ _ eL4;have lz:=fL4.length;rw[gL] at lz;refine⟨_,rfl,_,rfl,_,rfl,L,zs,_,e,rfl,rfl,eL5,pH (by lia),(s4.trans sT).change nL,?_,_,_,_,rfl,aB,?_⟩
   ·rw[aM (Ne.symm nLI)];exact sT _ _ eI4
   ·rw[<- Sv he];exact(Fqs.set ((s4.trans sT).fq fv) e (fL4.same sT)).upd eL5
  ·rintro σ H4 ⟨s4,eI4,zs,z5,z6,rfl,eL4,fL4⟩;have lh:=fh.length;rw[length_replicate] at lh;rw[length_map,length_map,lh,Nat.min_self,take_length] at fL4;exact hX2 _ _ ⟨s4,eI4,zs,z5,z6,rfl,eL4,fL4⟩
 rintro σ4 H4 ⟨s4,eI4,zL,z5,z6,rfl,eL4,fL4⟩;refine fU (fun σ' H'=>aK H H'/\H' I=some (.lst (fH (inn m es)))/\H' L=some (.lst zL)/\Fqs K H' zL (lvE m es)/\∃t:Addr,σ'=[some (.ref n),some (.ref b'),some (.ref hA),some (.ref I),some (.ref L),z5,z6,some (.ref t),none,none]/\iK CT K H' t (iP m) X cs) (fun X2 hX2=>?_) ?_
 ·refine⟨_,rfl,n,l,m,8,bb,ds,X,cs,rfl,nt.same s4,nb.ok,nh,h40,by lia,TV.sq,TV.vM,TV.vR,fun t H5 s5 T5=>?_⟩;exact hX2 _ _ ⟨s4.trans s5,s5 _ _ eI4,s5 _ _ eL4,fL4.same s5,t,rfl,T5⟩
 rintro σ5 H5 ⟨s5,eI5,eL5,fL5,t,rfl,T5⟩;have TD:TbD bb m X cs:=⟨TV.sq.lX,TV.sq.lc,m8,TV.sq.rX,TV.sq.rc⟩
 have LH:=Ps m es;refine fU (fun σ' H'=>aK H H'/\H' I=some (.lst (fH (inn m es)))/\H' L=some (.lst zL)/\Fqs K H' zL (lvE m es)/\iK CT K H' t (iP m) X cs/\∃(a:Addr) (za:List V),σ'=[some (.ref n),some (.ref b'),some (.ref hA),some (.ref I),some (.ref L),z5,z6,some (.ref t),some (.ref a),none]/\H' a=some (.lst za)/\Fqs K H' za (brL X cs (lvE m es))) (fun X2 hX2=>?_) ?_
 ·obtain⟨dx,p,l',a',us,ys,ht,_⟩:=T5.e;refine⟨_,rfl,t,dx,_,rfl,ht,Ao _ _ _ (by decide +kernel) (by decide +kernel) (by decide +kernel),_,rfl,t,L,_,X,cs,_,zL,bb,3,m,rfl,T5,TD,SqL.of eL5,fL5,LH,gL m es,by lia,fun a za H6 s6 e6 f6=>?_⟩;exact hX2 _ _ ⟨s5.trans s6,s6 _ _ eI5,s6 _ _ eL5,fL5.same s6,T5.same s6,a,za,rfl,e6,f6⟩
 rintro σ6 H6 ⟨s6,eI6,eL6,fL6,T6,a,za,rfl,ea,fa⟩;have il:=yW m es;have gi:∀{i:Nat} {x:V},(fH (inn m es))[i]?=some x->∃p,(inn m es)[i]?=some p/\x=.int (p:Int)/\p < m/\p∉es:=fun {i x} h=>by
  rw[getElem?_map] at h
  cases e:(inn m es)[i]? with
  |none=>rw[e] at h;cases h
  |some p=>
   rw[e] at h
   cases h
   have:=gM.mp (mem_of_getElem? e);exact⟨p,rfl,rfl,this.1,this.2⟩
 refine fU (fun σ' H'=>aK H H'/\H' I=some (.lst (fH (inn m es)))/\H' L=some (.lst zL)/\Fqs K H' zL (lvE m es)/\iK CT K H' t (iP m) X cs/\∃(g:Addr) (zg:List V),σ'=[some (.ref n),some (.ref b'),some (.ref hA),some (.ref I),some (.ref L),z5,z6,some (.ref t),some (.ref a),some (.ref g)]/\H' g=some (.lst zg)/\Fqs K H' zg (rtE m es X cs)) (fun X2 hX2=>?_) ?_
 ·refine⟨_,rfl,I,rfl,⟨_,SqL.of eI6⟩,fun D hD=>?_⟩;have sD:=aD hD (.lst []);refine bX (xs:=fH (inn m es)) (fun i zs H'=>aK H6 H'/\H' D=some (.lst zs)/\Fqs K H' zs ((rtE m es X cs).take i)) ⟨sD,aB,.nil⟩ (fun i zs H' h=>h.2.1) (fun i zs H' _ h=>h.1.seq (SqL.of eI6)) ?_ ?_
  ·rintro i zs x H7 hx ⟨s7,e7,F7⟩ C hC;obtain⟨p,ep,rfl,pm,pe⟩:=gi hx;have hi:=(List.getElem?_eq_some_iff.mp ep).1;obtain⟨v1,v2,_⟩:=Kx TD LH (gL m es) pm;obtain⟨u,eu,fu⟩:=fa.at (gU (show p < (brL X cs (lvE m es)).length by rw[Eu TD];exact pm));have lz:=F7.length;rw[length_take] at lz;have mb:(bb+3+1)*m<=704*8:=Nat.mul_le_mul (by lia) m8;refine⟨bU.1,bU.2,cT ?_⟩;refine⟨_,rfl,_,rfl,a,za,_,_,rfl,rfl,SqL.of (s7 _ _ ea),cH eu,aN,u,_,_,1,_,rfl,fN _,s7.seqT fu,q01.1.pos,v1.pos,q01.2,v2,by lia,fun r H8 s8 e8=>?_⟩;have eA:=s8 _ _ e7;refine⟨eA,aW (by lia),hC _ _ ⟨(s7.trans s8).change hD,aB,?_⟩⟩;have et:(rtE m es X cs)[i]?=some (eQ (0,1) ((brL X cs (lvE m es)).getD p Mq.z0)):=by unfold rtE;rw[getElem?_map,ep];rfl
   rw[take_add_one,et];exact((F7.same s8).app (.cons (Fq.of e8) .nil)).upd eA
  ·rintro zs H7 ⟨s7,e7,F7⟩;rw[take_of_length_le (by unfold rtE;rw[length_map,length_map];lia)] at F7;exact hX2 _ _ ⟨s6.trans s7,s7 _ _ eI6,s7 _ _ eL6,fL6.same s7,T6.same s7,D,zs,rfl,e7,F7⟩
 rintro σ7 H7 ⟨s7,eI7,eL7,fL7,T7,g,zg,rfl,eg,fg⟩;refine fU (fun σ' H'=>aK H H'/\∃(zs:List V) (ps:List Mq.Q2) (z5 z6:Option V),σ'=[some (.ref n),some (.ref b'),some (.ref hA),some (.ref I),some (.ref L),z5,z6,some (.ref t),some (.ref a),some (.ref g)]/\H' L=some (.lst zs)/\Fqs K H' zs ps/\ps.length=m/\∀e∈es,ps[e]?=some (5,7)) (fun X2 hX2=>?_) ?_
 ·obtain⟨dx,p,l',a',us,ys,ht,hp,hU,hLn,_⟩:=T7.e;refine⟨_,rfl,_,rfl,t,CT,_,_,_,rfl,ht,TBx.cl,TBx.nL,yK _ _ _,_,rfl,l',I,us,X,inn m es,m,rfl,hU,hLn,TV.sq.lX,fun row hr=>(TV.sq.rX row hr).1,SqL.of eI7,fun j hj=>(gM.mp hj).1,by lia,fun P zP H8 s8 e8 LP=>?_⟩;obtain⟨dn,hn⟩:=(nt.same (s7.trans s8)).ob;have FM:Fmd K (fun _=>none) n H8 zP (dJ (inn m es) X):=Mv LP.l fun i x ps h1 h2=>by
   obtain⟨c,xs,e1,e2,e3⟩:=LP.r i x ps h1 h2;exact⟨c,xs,e1,(fun z=>by rw[z,hn] at e2;cases e2),e2,e3⟩
  have lp:=lP (inn m es) X;have bm:k*((inn m es).length+1)<=k*(m+1):=Nat.mul_le_mul_left k (by lia);have b1:=SV.b1;refine⟨_,rfl,P,g,n,_,zP,zg,_,_,k,nn,rfl,SqL.of e8,FM,SqL.of (s8 _ _ eg),fg.same s8,?_,SV.ql,SV.qb,SV.xp,fun row hr=>⟨SV.xb row hr,?_⟩,by lia,by rw[lp];lia,SV.bd,SV.n1,Nat.le_trans (Sn nn (by lia)) SV.b2,SV.w,fun r zr pr H9 s9 nr er fr su=>?_⟩
  ·unfold rtE;rw[length_map,lp]
  ·unfold dJ at hr ⊢;obtain⟨j,hj,rfl⟩:=mem_map.mp hr;rw[length_map,length_map]
  have lr:pr.length=(inn m es).length:=by rw[su.len,lp]
  have s89:=s8.trans s9;have nrL:L≠r:=fun z=>by rw[<- z,s8 _ _ eL7] at nr;cases nr
  refine⟨I,r,rfl,⟨_,SqL.of (s89 _ _ eI7)⟩,⟨_,SqL.of er⟩,?_⟩;refine Hm (xs:=fH (inn m es)) (ys:=zr) (fun i σ' H'=>aK H H'/\H' I=some (.lst (fH (inn m es)))/\H' r=some (.lst zr)/\Fqs K H' zr pr/\∃(zs:List V) (ps:List Mq.Q2) (z5 z6:Option V),σ'=[some (.ref n),some (.ref b'),some (.ref hA),some (.ref I),some (.ref L),z5,z6,some (.ref t),some (.ref a),some (.ref g)]/\H' L=some (.lst zs)/\Fqs K H' zs ps/\ps.length=m/\∀e∈es,ps[e]?=some (5,7)) ⟨s7.trans s89,s89 _ _ eI7,er,fr,zL,lvE m es,_,_,rfl,s89 _ _ eL7,fL7.same s89,gL m es,fun e he=>by rw[uE (ge.lt e he),if_pos he]⟩ (fun i σ H' _ h=>⟨SqL.of h.2.1,SqL.of h.2.2.1⟩) ?_ ?_
  ·rintro i x y σ H10 T1 ex ey ⟨sx,eIx,erx,frx,zs,ps,z5,z6,rfl,eLx,fLx,lps,hes⟩ hT;obtain⟨p,ep,rfl,pm,pe⟩:=gi ex;obtain⟨v,pq,rfl,epq,fv⟩:=frx.get ey;have sT:=aD hT (.tup [.int (p:Int),.ref v]);refine⟨T1,_,rfl,SqT.of aB,rfl,_,_,rfl,_,_,rfl,rfl,?_⟩;generalize upd H10 T1 (.tup [.int (p:Int),.ref v])=H11 at sT ⊢;have eL5:=sT _ _ eLx;have lz:=fLx.length;refine⟨_,rfl,_,rfl,_,rfl,L,zs,_,p,rfl,rfl,eL5,pH (by lia),(sx.trans sT).change nL,?_,?_,?_,_,ps.set p pq,_,_,rfl,aB,?_,by rw[length_set];exact lps,fun e he=>?_⟩
   ·rw[aM (Ne.symm nLI)];exact sT _ _ eIx
   ·rw[aM (Ne.symm nrL)];exact sT _ _ erx
   ·exact(frx.same sT).upd eL5
   ·exact(Fqs.set (sT.fq fv) p (fLx.same sT)).upd eL5
   ·rw[getElem?_set_ne (fun z=>pe (by rw[z];exact he))];exact hes e he
  ·rintro σ H10 ⟨sx,eIx,erx,frx,zs,ps,z5,z6,rfl,eLx,fLx,lps,hes⟩;exact hX2 _ _ ⟨sx,zs,ps,z5,z6,rfl,eLx,fLx,lps,hes⟩
 rintro σ8 H8 ⟨s8,zs,ps,z5,z6,rfl,eL8,fL8,lps,hes⟩;exact⟨_,rfl,q L zs ps H8 s8 eL8 fL8 lps hes⟩
end
def rF (d:RD):Prop:=(d.1=.pc->0 < Mq.val d.2.2.2/\Mq.Fr 420 2 (1 / Mq.val d.2.2.2))/\(d.1=.pu->Mq.Fr 420 7 (Mq.val d.2.2.2))
theorem qc2 {d:RD}(h:rF d)(nh:d.1≠.ho)(hh x y:Nat):Mq.Fr 420 2 (cM d hh x y):=by
 unfold cM
 cases e:d.1 with
 |pc=>
  simp only;rw[Rat.mul_assoc];exact Pd (Pd (h.1 e).2 _ _ _) _ _ _
 |pu=>exact Mq.Fr.zero.mono (by lia)
 |ho=>exact absurd e nh
theorem qa7 {d:RD}(h:rF d)(nh:d.1≠.ho)(hh x:Nat):Mq.Fr 420 7 (cR d hh x):=by
 unfold cR
 cases e:d.1 with
 |pc=>exact Mq.Fr.zero.mono (by lia)
 |pu=>
  simp only;rw[show ∀a b:Rat,-a*b=-(a*b) from fun a b=>by grind];exact(Pd (h.2 e) _ _ _).neg
 |ho=>exact absurd e nh
theorem Cv (x y:Nat):∀{ds:List RD} (hh:Nat),(∀d∈ds,rF d)->jP ds->Mq.Fr 420 (2*ds.length) (eqM hh ds x y)
 | [],_,_,_=>Mq.Fr.zero
 |d :: r,hh,h,nh=>by
  have a:=qc2 (h d (mem_cons_self ..)) (nh d (mem_cons_self ..)) hh x y;have b:=Cv x y (ds:=r) (hh+iQ d.1) (fun c hc=>h c (mem_cons_of_mem _ hc)) (fun c hc=>nh c (mem_cons_of_mem _ hc));exact(a.add b).mono (by rw[length_cons];lia)
theorem Ez (x:Nat):∀{ds:List RD} (hh:Nat),(∀d∈ds,rF d)->jP ds->Mq.Fr 420 (7*ds.length) (eqR hh ds x)
 | [],_,_,_=>Mq.Fr.zero
 |d :: r,hh,h,nh=>by
  have a:=qa7 (h d (mem_cons_self ..)) (nh d (mem_cons_self ..)) hh x;have b:=Ez x (ds:=r) (hh+iQ d.1) (fun c hc=>h c (mem_cons_of_mem _ hc)) (fun c hc=>nh c (mem_cons_of_mem _ hc));exact(a.add b).mono (by rw[length_cons];lia)
theorem Ob {L:Int}{M b:Nat}{x:Rat}(hL:1<=L)(LB:Mq.B b L)(hM:M*L.natAbs < 2 ^ b)(h:Mq.Fr L M x):∃p:Mq.Q2,Low p/\Mq.val p=x/\Bd b p/\p.2 ∣ L:=by
 obtain⟨a,e,ab⟩:=h;have l0:L≠0:=by lia
 have lo:=jM (t:=a) l0;have ev:Mq.val (red a L)=x:=by rw[jQ l0,e]
 have:=Qk (b:=b) lo hL LB (show Mq.B b a from Nat.lt_of_le_of_lt ab hM) (by rw[ev,e]);exact⟨_,lo,ev,this.1,this.2⟩
theorem Wu:Mq.B 17 420:=by show (420:Nat) < 2 ^ 17;decide
theorem Za {m:Nat}{ds:List RD}(nb:rM m ds)(h:∀d∈ds,rF d)(nh:jP ds):∃X cs,TbV m ds X cs 17 17/\(∀row∈X,∀p∈row,p.2 ∣ 420)/\∀p∈cs,p.2 ∣ 420:=by
 have m8:=nb.m8;have m1:=nb.m1;have l40:=nb.l40;have eM:∀i j,∃p:Mq.Q2,Low p/\Mq.val p=eqM m ds i j/\Bd 17 p/\p.2 ∣ 420:=fun i j=>Ob (by decide) Wu (by decide) ((Cv i j m h nh).mono (show 2*ds.length<=280 by lia));have eR:∀i,∃p:Mq.Q2,Low p/\Mq.val p=eqR m ds i/\Bd 17 p/\p.2 ∣ 420:=fun i=>Ob (by decide) Wu (by decide) ((Ez i m h nh).mono (show 7*ds.length<=280 by lia));have eM':∃f:Nat->Nat->Mq.Q2,∀i j,Low (f i j)/\Mq.val (f i j)=eqM m ds i j/\Bd 17 (f i j)/\(f i j).2 ∣ 420:=⟨fun i j=>Classical.choose (eM i j),fun i j=>Classical.choose_spec (eM i j)⟩
 have eR':∃f:Nat->Mq.Q2,∀i,Low (f i)/\Mq.val (f i)=eqR m ds i/\Bd 17 (f i)/\(f i).2 ∣ 420:=⟨fun i=>Classical.choose (eR i),fun i=>Classical.choose_spec (eR i)⟩
 obtain⟨f,hf⟩:=eM';obtain⟨g,hg⟩:=eR';have rw_:∀row∈(List.range m).map (fun i=>(List.range m).map fun j=>f i j),∃i,row=(List.range m).map fun j=>f i j:=fun row hr=>by
  obtain⟨i,_,rfl⟩:=mem_map.mp hr;exact⟨i,rfl⟩
 have cell:∀row∈(List.range m).map (fun i=>(List.range m).map fun j=>f i j),row.length=m/\∀p∈row,Low p/\Bd 17 p/\p.2 ∣ 420:=fun row hr=>by
  obtain⟨i,rfl⟩:=rw_ row hr;refine⟨by rw[length_map,length_range],fun p hp=>?_⟩;obtain⟨j,_,rfl⟩:=mem_map.mp hp;exact⟨(hf i j).1,(hf i j).2.2.1,(hf i j).2.2.2⟩
 have side:∀p∈(List.range m).map g,Low p/\Bd 17 p/\p.2 ∣ 420:=fun p hp=>by
  obtain⟨j,_,rfl⟩:=mem_map.mp hp;exact⟨(hg j).1,(hg j).2.2.1,(hg j).2.2.2⟩
 refine⟨(List.range m).map (fun i=>(List.range m).map fun j=>f i j),(List.range m).map g,⟨⟨m1,by lia,by rw[length_map,length_range],fun row hr=>⟨(cell row hr).1,fun p hp=>⟨((cell row hr).2 p hp).1,((cell row hr).2 p hp).2.1⟩⟩,by rw[length_map,length_range],fun p hp=>⟨(side p hp).1,(side p hp).2.1⟩,by lia⟩,⟨by lia,by decide,by rw[length_map,length_range],by rw[length_map,length_range],by lia,by show (17+17+5)*(m+1)+8+17<=8900;lia,420,by decide,Wu,fun row hr=>⟨(cell row hr).1,fun p hp=>⟨((cell row hr).2 p hp).1.pos,((cell row hr).2 p hp).2⟩⟩,fun p hp=>⟨(side p hp).1.pos,(side p hp).2⟩⟩,fun i j hi hj=>?_,fun i hi=>?_⟩,fun row hr p hp=>((cell row hr).2 p hp).2.2,fun p hp=>(side p hp).2.2⟩
 ·unfold iW;rw[getD_eq_getElem?_getD (l:=map _ _),getElem?_map,getElem?_range hi];show _=Mq.val (((List.range m).map fun j=>f i j).getD j (0,1));rw[getD_eq_getElem?_getD,getElem?_map,getElem?_range hj];exact(hf i j).2.1.symm
 ·rw[getD_eq_getElem?_getD,getElem?_map,getElem?_range hi];exact(hg i).2.1.symm
theorem Co {es:List Nat}{F:Nat->Rat}(h:∀e∈es,F e=0):∀m,Mq.rs m F=Mq.rs (inn m es).length fun j=>F ((inn m es).getD j 0)
 |0=>rfl
 |m+1=>by
  rw[kR]
  by_cases c:m∈es
  ·rw[if_pos c,append_nil];show Mq.rs m F+F m=_;rw[h m c,Co h m,Rat.add_zero]
  ·rw[if_neg c,List.length_append];show Mq.rs m F+F m=Mq.rs (inn m es).length _+F ((inn m es++[m]).getD (inn m es).length 0);rw[Co h m];congr 1
   ·refine aT fun j hj=>?_;rw[getD_eq_getElem?_getD,getD_eq_getElem?_getD,getElem?_append_left hj]
   ·rw[getD_eq_getElem?_getD,getElem?_append_right (Nat.le_refl _),Nat.sub_self];rfl
theorem Gj {u:Nat->Rat}{m:Nat}(y:Nat):∀(ds:List RD) (h:Nat),(∀d∈ds,fR (m:Int) d.2.1 d.2.2.1)->jP ds->Mq.rs m (fun q=>u q*eqM h ds q y)=nt u h ds y
 | [],h,_,_=>by
  rw[show (fun q=>u q*eqM h [] q y)=fun _=>(0:Rat) from funext fun q=>Rat.mul_zero _,eG];rfl
 |d :: r,h,pt,nh=>by
  have ih:=Gj (u:=u) y r (h+iQ d.1) (fun c hc=>pt c (mem_cons_of_mem _ hc)) (fun c hc=>nh c (mem_cons_of_mem _ hc));have p:=pt d (mem_cons_self ..);have n0:=nh d (mem_cons_self ..);have e:(fun q=>u q*eqM h (d :: r) q y)=fun q=>u q*cM d h q y+u q*eqM (h+iQ d.1) r q y:=funext fun q=>by
   show u q*(cM d h q y+eqM (h+iQ d.1) r q y)=_;rw[Rat.mul_add]
  rw[e,eY,ih];show _=fw u d h*dl d.2.1.toNat d.2.2.1.toNat y+nt u (h+iQ d.1) r y;congr 1;unfold cM fw
  cases k:d.1 with
  |pc=>
   simp only;have s:=Vb u (n:=m) (s:=d.2.1.toNat) (g:=d.2.2.1.toNat) (by have:=p.1;have:=p.2.1;lia) (by have:=p.2.2.1;have:=p.2.2.2;lia);have e2:(fun q=>u q*(dl d.2.1.toNat d.2.2.1.toNat q*dl d.2.1.toNat d.2.2.1.toNat y*(1 / Mq.val d.2.2.2)))=fun q=>(dl d.2.1.toNat d.2.2.1.toNat y*(1 / Mq.val d.2.2.2))*(u q*dl d.2.1.toNat d.2.2.1.toNat q):=funext fun q=>by grind
   rw[e2,fV,s];grind
  |pu=>
   simp only;rw[show (fun q=>u q*(0:Rat))=fun _=>(0:Rat) from funext fun q=>Rat.mul_zero _,eG,Rat.zero_mul]
  |ho=>exact absurd k n0
theorem Ij {u:Nat->Rat}{m:Nat}{ds:List RD}{es:List Nat}(pt:∀d∈ds,fR (m:Int) d.2.1 d.2.2.1)(nh:jP ds)(lt:∀e∈es,e < m)(le:lsP (mk m ds) m es=[])(pc:∀d∈ds,d.1=.pc->u d.2.1.toNat=u d.2.2.1.toNat)(ue:∀e∈es,u e=0){p:Nat}(hp:p < m):u p=0:=by
 have:p∉lsP (mk m ds) m es:=by rw[le];exact not_mem_nil
 have ex:∃e∈es,mk m ds e=mk m ds p:=Classical.byContradiction fun z=>this (kA.mpr ⟨hp,fun e he ee=>z ⟨e,he,ee⟩⟩);obtain⟨e,he,ee⟩:=ex;have c:=(Mg pt (lt e he) hp).mp ee;have:u e=u p:=Cn.ind (R:=fun a b=>u a=u b) (fun _=>rfl) (fun _ _ e=>e.symm) (fun _ _ _ a b=>a.trans b) (fun d hd hk=>by
  cases k:d.1 with
  |pc=>exact pc d hd k
  |pu=>exact absurd k hk
  |ho=>exact absurd k (nh d hd)) c
 rw[<- this,ue e he]
theorem Ui {m:Nat}{X:List (List Mq.Q2)}{ks:List Nat}{i j:Nat}(hi:i < ks.length)(hj:j < ks.length):kK (dJ ks X) i j=Mq.val (iW X (ks.getD i 0) (ks.getD j 0)):=by
 unfold kK dJ iW;rw[getD_eq_getElem?_getD (l:=map _ _),getElem?_map,getElem?_eq_getElem hi];show Mq.val ((ks.map fun j=>Mq.ix2 X ks[i] j).getD j Mq.z0)=_;rw[getD_eq_getElem?_getD,getElem?_map,getElem?_eq_getElem hj];have e1:ks.getD i 0=ks[i]:=by rw[getD_eq_getElem?_getD,getElem?_eq_getElem hi];rfl
 have e2:ks.getD j 0=ks[j]:=by rw[getD_eq_getElem?_getD,getElem?_eq_getElem hj];rfl
 rw[e1,e2];rfl
theorem Xt (m:Nat)(es:List Nat):(inn m es).Nodup:=Pairwise.filter _ nodup_range
theorem Rs {m b k:Nat}{ds:List RD}{es:List Nat}{X:List (List Mq.Q2)}{cs:List Mq.Q2}(nb:rM m ds)(h:∀d∈ds,rF d)(nh:jP ds)(ge:kF m es)(le:lsP (mk m ds) m es=[])(TV:TbV m ds X cs b k)(xp:dS (dJ (inn m es) X))(xw:∀row∈dJ (inn m es) X,row.length=(dJ (inn m es) X).length):wgt (dJ (inn m es) X)≠0:=fun hz=>by
 by_cases c:inn m es=[]
 ·rw[c] at hz;exact absurd hz (by show Mq.det 0 _≠0;unfold Mq.det;decide)
 have l1:1<=(dJ (inn m es) X).length:=by
  rw[lP];have:(inn m es).length≠0:=fun z=>c (length_eq_zero_iff.mp z);lia
 obtain⟨v,⟨j,hj,vj⟩,hv⟩:=Rp xp xw l1 hz;rw[lP] at hj hv;generalize hks:inn m es=ks at hj hv;have nd:ks.Nodup:=by rw[<- hks];exact Xt m es
 have kg:∀{i:Nat},i < ks.length->ks.getD i 0∈ks:=fun {i} hi=>by
  rw[getD_eq_getElem?_getD,getElem?_eq_getElem hi];exact getElem_mem hi
 have km:∀{p:Nat},p∈ks↔p < m/\p∉es:=fun {p}=>by rw[<- hks];exact gM
 have hu:∃u:Nat->Rat,(∀e∈es,u e=0)/\∀i,i < ks.length->u (ks.getD i 0)=v i:=by
  refine⟨fun p=>if p∈es then 0 else v (ks.idxOf p),fun e he=>if_pos he,fun i hi=>?_⟩;show (if ks.getD i 0∈es then (0:Rat) else v (ks.idxOf (ks.getD i 0)))=v i;rw[if_neg (km.mp (kg hi)).2];have e1:ks.getD i 0=ks[i]:=by rw[getD_eq_getElem?_getD,getElem?_eq_getElem hi];rfl
  rw[e1,nd.idxOf_getElem i hi]
 obtain⟨u,ue,ui⟩:=hu;have pt:=nb.pt;have ntz:∀p,p < m->p∉es->nt u m ds p=0:=fun p hp he=>by
  rw[<- Gj p ds m pt nh,Co (es:=es) (fun e he=>by rw[ue e he,Rat.zero_mul]) m,hks];obtain⟨x,hx,ex⟩:=getElem_of_mem (km.mpr ⟨hp,he⟩);have e1:ks.getD x 0=p:=by rw[getD_eq_getElem?_getD,getElem?_eq_getElem hx];exact ex
  rw[<- hv x hx];refine aT fun i hi=>?_;rw[ui i hi,Ui (m:=m) hi hx,e1,<- TV.vM _ _ (km.mp (kg hi)).1 hp]
 have eg0:eg u m ds=0:=by
  rw[<- Uv ds m pt,<- eG m];refine aT fun p hp=>?_
  by_cases he:p∈es
  ·rw[ue p he,Rat.zero_mul]
  ·rw[ntz p hp he,Rat.mul_zero]
 have pc:=(Uy (u:=u) ds m (fun d hd k=>((h d hd).1 k).1) (fun d hd k=>absurd k (nh d hd))).2 eg0;have:=Ij pt nh ge.lt le pc ue (km.mp (kg hj)).1;rw[ui j hj] at this;exact vj this
theorem Uu {L:Int}{M:Nat}{F:Nat->Rat}:∀n,(∀i,i < n->Mq.Fr L M (F i))->Mq.Fr L (M*n) (Mq.rs n F)
 |0,_=>Mq.Fr.zero.mono (Nat.zero_le _)
 |n+1,h=>by
  have a:=Uu n fun i hi=>h i (by lia);exact(a.add (h n (by lia))).mono (by rw[Nat.mul_succ];lia)
theorem Zk (m:Nat)(es:List Nat)(j:Nat):Mq.Fr 7 1 (Mq.val ((lvE m es).getD j Mq.z0)):=by
 have h5:Mq.Fr 7 1 (Mq.val (5,7)):=⟨5,by unfold Mq.val;rfl,by decide⟩
 have h0:Mq.Fr 7 1 (Mq.val (0,1)):=⟨0,by unfold Mq.val;simp;grind,by decide⟩
 rw[getD_eq_getElem?_getD]
 by_cases hj:j < m
 ·rw[uE hj];show Mq.Fr 7 1 (Mq.val (if j∈es then (5,7) else (0,1)))
  by_cases c:j∈es
  ·rw[if_pos c];exact h5
  ·rw[if_neg c];exact h0
 ·rw[getElem?_eq_none (by rw[gL];lia)];exact h0
theorem Zz:Mq.B 23 2940:=by show (2940:Nat) < 2 ^ 23;decide
theorem Xv:Mq.B 12 2940:=by show (2940:Nat) < 2 ^ 12;decide
theorem Zu {m:Nat}{ds:List RD}{es:List Nat}{X:List (List Mq.Q2)}{cs:List Mq.Q2}(nb:rM m ds)(h:∀d∈ds,rF d)(nh:jP ds)(TV:TbV m ds X cs 17 17){p:Mq.Q2}(hp:p∈rtE m es X cs):Low p/\Bd 23 p/\p.2 ∣ 2940:=by
 obtain⟨i,hi,rfl⟩:=mem_map.mp hp;have im:=(gM.mp hi).1;have m8:=nb.m8;have l40:=nb.l40;have TD:TbD 17 m X cs:=⟨TV.sq.lX,TV.sq.lc,m8,TV.sq.rX,TV.sq.rc⟩
 obtain⟨v1,_,v3⟩:=Kx TD (Ps m es) (gL m es) im;have lo:=Mq.qJ q01.1.pos v1.pos;have hs:Mq.Fr 2940 (80*m) (Mq.rs m fun j=>kK X i j*cv (lvE m es) j):=Uu m fun j hj=>by
  have a:Mq.Fr 420 80 (kK X i j):=by
   show Mq.Fr 420 80 (Mq.val (iW X i j));rw[<- TV.vM i j im hj];exact(Cv i j m h nh).mono (by lia)
  exact(a.mul (by decide) (by decide) (Zk m es j)).mono (by lia)
 have hc:Mq.Fr 2940 280 (cv cs i):=by
  have a:Mq.Fr 420 280 (cv cs i):=by
   show Mq.Fr 420 280 (Mq.val (cs.getD i (0,1)));rw[<- TV.vR i im];exact(Ez i m h nh).mono (by lia)
  exact a.lift (K:=7) (by decide) (by decide)
 have hv:Mq.Fr 2940 920 (Mq.val (eQ (0,1) ((brL X cs (lvE m es)).getD i Mq.z0))):=by
  rw[pP q01.1.pos v1.pos,v3];have z0:Mq.val (0,1)=0:=by unfold Mq.val;simp;grind
  rw[z0];generalize (Mq.rs m fun j=>kK X i j*cv (lvE m es) j)=A at hs;generalize cv cs i=B at hc;rw[show (0:Rat) - (A - B)=-A+B by grind];exact(hs.neg.add hc).mono (by lia)
 obtain⟨a,e,ab⟩:=hv;have:=Qk (b:=23) lo (by decide) Zz (show Mq.B 23 a from Nat.lt_of_le_of_lt ab (by decide)) e;exact⟨lo,this.1,this.2⟩
theorem Sd {m:Nat}{ds:List RD}{es:List Nat}{X:List (List Mq.Q2)}{cs:List Mq.Q2}(nb:rM m ds)(h:∀d∈ds,rF d)(nh:jP ds)(ge:kF m es)(le:lsP (mk m ds) m es=[])(TV:TbV m ds X cs 17 17)(hX:∀row∈X,∀p∈row,p.2 ∣ 420):Vp m es X cs 23 35:=by
 have m8:=nb.m8;have rt:=fun {p:Mq.Q2} (hp:p∈rtE m es X cs)=>Zu nb h nh TV hp;have cell:∀row∈dJ (inn m es) X,(∀p∈row,1<=p.2/\Bd 23 p/\p.2 ∣ 2940)/\row.length=(dJ (inn m es) X).length:=fun row hr=>by
  obtain⟨i,hi,rfl⟩:=mem_map.mp hr;have im:=(gM.mp hi).1;refine⟨fun p hp=>?_,by rw[length_map,lP]⟩;obtain⟨j,hj,rfl⟩:=mem_map.mp hp;have jm:=(gM.mp hj).1;have hr1:=mem_of_getElem? (qG (show i < X.length by rw[TV.sq.lX];exact im));obtain⟨w1,w2⟩:=TV.sq.rX _ hr1;have hp1:=mem_of_getElem? (gU (show j < (X.getD i []).length by rw[w1];exact jm));have d:=hX _ hr1 _ hp1;exact⟨(w2 _ hp1).1.pos,(w2 _ hp1).2.mono (by decide),Int.dvd_trans d ⟨7,by decide⟩⟩
 have xp:dS (dJ (inn m es) X):=fun row hr p hp=>((cell row hr).1 p hp).1;refine⟨fun p hp=>(rt hp).1,fun p hp=>(rt hp).2.1,xp,fun row hr p hp=>((cell row hr).1 p hp).2.1,by lia,?_,by decide,by show (35+5)*(m+1)+8<=8900;lia,Rs nb h nh ge le TV xp fun row hr=>(cell row hr).2⟩;exact Ue xp (fun p hp=>(rt hp).1.pos) (by unfold rtE;rw[length_map,lP]) (fun row hr=>⟨fun p hp=>((cell row hr).1 p hp).2,(cell row hr).2⟩) (fun p hp=>(rt hp).2) (by decide) Xv
section
variable {P:Program} {w:World} {K:Frag} {mg:Str->Option Value} {base:Heap} {f g1 g2 g3 g4 g5 g6 g7 g8:Addr} {fd gd1 gd2 gd3 gd4 gd5 gd6 gd7 gd8:FuncData} {CX:CXT}
variable {CR:Addr} {CK:Kd->Addr} {fW fJ fT fS:Kd->Addr} {fdW fdJ fdT fdS:Kd->FuncData}
def Fj (K:Frag):Sp:=fun vs H Q _=>∃(a:Addr) (ns:List Int) (j:Int) (k:Nat),vs=[.ref a,.int j]/\j=(k:Int)/\SqL K H a (ns.map V.int)/\ns.length<=63/\k<=63/\∀i H',aK H H'->Q (.int i) H'
abbrev Wf:Stmt:=top 71
theorem Ve:aQ ["_law_script","_law_k","_law_cell"] ["_law_script","_law_k"] (aH Wf):=sK9 rfl rfl rfl rfl (by decide +kernel)
theorem Yc {dV:Value}(F:aU K "_law_nth" "_law_nth" Wf dV f fd) :
  aJ P w K mg base CX 1 f fd ["_law_script","_law_k"] (Fj K):=by
 refine F.ok Ve (fun vs H Q E h=>?_) fun cdv A outer s H vs Q E hr h=>?_
 ·obtain⟨_,_,_,_,rfl,_⟩:=h;rfl
 obtain⟨a,ns,j,k,rfl,hj,hS,h63,hk,q⟩:=h;refine⟨_,(aE (dP PassesOwn.never rfl (bO (gA iV (pv 0) (fY (pv 1)) (fY (aZ kW (pv 1) aG)))) (aR (i:=2) Ve.nd rfl (Or.inl rfl))
   (aF (aX (pv 2))))
  (aF (aX (aZ gE (aZ cZ (aZ De aG (pv 1)) (pv 1)) aG)))),?_⟩
 refine⟨_,rfl,_,rfl,j,rfl,_,rfl,_,_,rfl,rfl,j+1,rfl,a,_,rfl,hS,fun l hl=>?_⟩;have s1:=aD hl (.lst (jR (ns.map V.int) (some j) (some (j+1))));have e1:upd H l (.lst (jR (ns.map V.int) (some j) (some (j+1)))) l=some (.lst (jR (ns.map V.int) (some j) (some (j+1)))):=aB;obtain⟨ms,em,lm⟩:=uX ns (some j) (some (j+1));rw[em] at e1 s1 ⊢;generalize upd H l (.lst (ms.map V.int))=H1 at e1 s1 ⊢;refine⟨l,rfl,⟨_,SqL.of e1⟩,?_⟩;refine dW (xs:=ms.map V.int) (fun i σ H'=>H'=H1/\∃z,σ=[some (.ref a),some (.int j),z]) ⟨rfl,none,rfl⟩ (fun i σ H' _ h=>by rw[h.1];exact SqL.of e1) ?_ ?_
 ·rintro i x σ H' hx ⟨rfl,z,rfl⟩;obtain⟨c,rfl⟩:∃c,x=.int c:=by
   rw[getElem?_map] at hx
   cases hm:ms[i]? with
   |none=>rw[hm] at hx;cases hx
   |some c=>rw[hm] at hx;cases hx;exact⟨c,rfl⟩
  exact⟨_,rfl,q c _ s1⟩
 ·rintro σ H' ⟨rfl,z,rfl⟩;refine⟨_,rfl,_,_,rfl,rfl,Or.inl ⟨by decide,by decide⟩,_,rfl,dC (n:=40) (m:=40) (qb0 (by lia) (by lia)) (qb0 (by lia) (by lia)) (by lia) (by lia) ⟨_,_,rfl,rfl,(show (0:Int) < 1009 by decide),q _ _ s1⟩⟩
def Fz (CN:Addr)(K:Frag):Sp:=fun vs H Q _=>∃(m:Int) (r:Addr) (us:List V) (ds:List RD),vs=[.int m,.ref r]/\1<=m/\m<=20/\SqL K H r us/\Rts K H us ds/\(∀d∈ds,Mn m d)/\ds.length<=40/\∀n l H',aK H H'->H l=none->eJ CN K H' n l m ds->Q (.ref n) H'
abbrev Dh:Stmt:=top 73
theorem zJ:aQ ["_law_many","_law_rows_here","_law_net_here","_law_row"] ["_law_many","_law_rows_here"] (aH Dh):=sK9 rfl rfl rfl rfl (by decide +kernel)
theorem Qd {dV:Value}(F:aU K "_law_net" "_law_net" Dh dV f fd){CN:Addr}(NTx:NT K mg CN){gAd:Addr}{gdAd:FuncData}(GAd:aJ P w K mg base CX0 5 gAd gdAd ["self","row"] (Oy CN K CK))(bAd:aP K gdAd ["self","row"] [])(mAd:iB K CN "add" gAd){gNI:Addr}{gdNI:FuncData}(GNI:aJ P w K mg base CX0 2 gNI gdNI ["self","many"] (Ft CN))(bNI:aP K gdNI ["self","many"] [])(MN:Mk K CN gNI)(G1:aJ P w K mg base CX0 3 g1 gd1 ["told"] (oI K CK))(b1:aP K gd1 ["told"] [])(k1:kI9 K g1)(m1:mI9 mg "row_of" g1) :
  aJ P w K mg base CX 6 f fd ["_law_many","_law_rows_here"] (Fz CN K):=by
 refine F.ok zJ (fun vs H Q E h=>?_) fun cdv A outer s H vs Q E hr h=>?_
 ·obtain⟨_,_,_,_,rfl,_⟩:=h;rfl
 obtain⟨m,r,us,ds,rfl,hm1,hm20,hU,hR,hK,h40,q⟩:=h;have r3:=hr.mono (show 3<=5 by lia);refine⟨_,(aE (aV (i:=2) zJ.nd rfl (Or.inl rfl) (lY MN GNI r3 rfl NTx.mN bNI .nil aS (aA (pv 0) aC)))
  (aE (dP PassesOwn.never rfl (bO (pv 1)) (aR (i:=3) zJ.nd rfl (Or.inl rfl))
   (aF (cG (xS (pv 2) NTx.cl mAd GAd hr bAd .nil aS (aA (aI G1 r3 rfl m1 k1 b1 .nil aS (aA (pv 3) aC)) aC)))))
  (aF (aX (pv 2))))),?_⟩
 have lus:=hR.length;refine⟨_,rfl,fun n dx h1 h2 ne=>⟨n,dx,m,rfl,aB,hm1,hm20,fun l H2 nl keep hn hl=>⟨rfl,?_⟩⟩⟩;have s2:aK H H2:=fun b o e=>keep b o (by rw[aM (bB e h1),aM (bB e h2)];exact e) (bB e h1);have hl0:H l=none:=by
  cases o:H l with
  |none=>rfl
  |some o'=>
   have:(upd (upd H dx (.own n)) n (.ins CN dx [])) l=some o':=by rw[aM (bB o h1),aM (bB o h2)];exact o
   rw[this] at nl;cases nl
 refine⟨_,rfl,r,rfl,⟨_,s2.seq hU⟩,?_⟩;refine dW (xs:=us) (fun i σ H'=>aK H H'/\eJ CN K H' n l m (ds.take i)/\∃z,σ=[some (.int m),some (.ref r),some (.ref n),z]) ⟨s2,⟨⟨dx,hn⟩,[],hl,.nil⟩,none,rfl⟩ (fun i σ H' _ h=>h.1.seq hU) ?_ ?_
 ·rintro i x σ H3 hx ⟨s3,N3,z,rfl⟩;have hi:i < ds.length:=by
   have:=(List.getElem?_eq_some_iff.mp hx).1;lia
  obtain⟨⟨k,u,v,p⟩,hd⟩:∃d,ds[i]?=some d:=⟨_,getElem?_eq_getElem hi⟩
  obtain⟨t,z',et,hT,fz⟩:=hR.at hd;have ex:x=.ref t:=by rw[et] at hx;exact(Option.some.inj hx).symm
  subst ex;obtain⟨dn,hn3⟩:=N3.ob;have lt:(ds.take i).length<=ds.length:=by rw[length_take];lia
  refine⟨_,rfl,n,dn,_,rfl,hn3,dX _ _ (by decide +kernel) (by decide +kernel),_,rfl,t,_,_,_,_,rfl,s3.seqT hT,k,rfl,fun y H4 s4 ny rw=>?_⟩;refine⟨n,l,y,z',m,ds.take i,k,u,v,p,rfl,N3.same s4,rw,(s3.trans s4).fq fz,hK _ (mem_of_getElem? hd),by rw[length_take];lia,fun H5 x5 N5=>?_⟩;refine⟨fun b o e=>x5 _ _ ((s3.trans s4) _ _ e) (bB e hl0),?_,_,rfl⟩;rw[take_add_one,hd];exact N5
 ·rintro σ H3 ⟨s3,N3,z,rfl⟩;rw[lus,take_length] at N3;exact⟨_,rfl,q n l H3 s3 hl0 N3⟩
def Gp:Sp:=fun vs H Q _=>∃i:Int,vs=[.int i]/\Q (.bl true) H
abbrev Cq:Stmt:=top 72
theorem Uj:aQ ["_law_found"] ["_law_found"] (aH Cq):=sK9 rfl rfl rfl rfl (by decide +kernel)
theorem Kp {dV:Value}(F:aU K "_law_an_int" "_law_an_int" Cq dV f fd)(b:Bl mg) :
  aJ P w K mg base CX 1 f fd ["_law_found"] Gp:=by
 refine F.ok Uj (fun vs H Q E h=>?_) fun cdv A outer s H vs Q E hr h=>?_
 ·obtain⟨_,rfl,_⟩:=h;rfl
 obtain⟨i,rfl,q⟩:=h;refine⟨_,(aF (aX (jZ (fG (i:=0) rfl (Or.inl rfl) b.isi b.int rfl rfl PyProof.Rows.boot_int) (jZ (fX vY (pv 0) fM (bN _)) (nY (fX vY (pv 0) fM (bN _))))))),?_⟩;exact⟨_,_,true,rfl,.of (.int i),rfl,_,rfl,cT ⟨_,rfl,i,_,rfl,rfl,_,rfl,cT ⟨_,rfl,i,_,rfl,rfl,q⟩⟩⟩
theorem at3 {r:Int}(h0:0<=r)(h5:r < 3):∃k:Kd,k≠.ho/\atI [V.str "piece",.str "push",.str "piece"] r=some (.str k.wd):=by
 have:r=0\/r=1\/r=2:=by lia
 rcases this with rfl | rfl | rfl
 ·exact⟨.pc,by decide,rfl⟩
 ·exact⟨.pu,by decide,rfl⟩
 ·exact⟨.pc,by decide,rfl⟩
theorem Px (xs:List V):(jR xs (some 9) (some 21)).length<=12:=by
 unfold jR;have h1:HT.sIx xs.length xs.length (some 21)=min 21 xs.length:=by simp[HT.sIx]
 have h2:HT.sIx xs.length 0 (some 9)=min 9 xs.length:=by simp[HT.sIx]
 rw[h1,h2,length_take,length_drop];lia
structure DrR (m:Nat) (d:RD):Prop where
 ok:Mn (m:Int) d
 bd:Bd 8 d.2.2.2
 rf:rF d
theorem Xq (n:Int):Mq.val (n,1)=(n:Rat):=by unfold Mq.val;simp;grind
theorem Yh {k:Kd}{i j r:Int}(h0:0<=r)(h7:r < 7):rF (k,i,j,(1+r,1)):=by
 have:r=0\/r=1\/r=2\/r=3\/r=4\/r=5\/r=6:=by lia
 have key:∀n:Int,1<=n->n ∣ 420->n<=7->rF (k,i,j,(n,1)):=fun n n1 nd n7=>by
  have nq:(n:Rat)≠0:=by exact_mod_cast (show n≠0 by lia)
  refine⟨fun _=>?_,fun _=>?_⟩
  ·show 0 < Mq.val (n,1)/\Mq.Fr 420 2 (1 / Mq.val (n,1));rw[Xq];refine⟨by exact_mod_cast (show (0:Int) < n by lia),?_⟩;have:=Mq.Fr.of (L:=420) (M:=2) (t:=1) (b:=n) (by decide) n1 nd (by decide);simpa using this
  ·show Mq.Fr 420 7 (Mq.val (n,1));exact Mq.Fr.of (by decide) (show (1:Int)<=1 by decide) ⟨420,rfl⟩ (show n.natAbs<=7 by lia)
 rcases this with rfl | rfl | rfl | rfl | rfl | rfl | rfl
 ·exact key 1 (by decide) ⟨420,by decide⟩ (by decide)
 ·exact key 2 (by decide) ⟨210,by decide⟩ (by decide)
 ·exact key 3 (by decide) ⟨140,by decide⟩ (by decide)
 ·exact key 4 (by decide) ⟨105,by decide⟩ (by decide)
 ·exact key 5 (by decide) ⟨84,by decide⟩ (by decide)
 ·exact key 6 (by decide) ⟨70,by decide⟩ (by decide)
 ·exact key 7 (by decide) ⟨60,by decide⟩ (by decide)
theorem Mj {n:Int}(h:n.natAbs < 256):Low (n,1)/\Bd 8 (n,1):=⟨⟨show (1:Int)<=1 by decide,by show gc n 1=1;unfold gc;simp⟩,⟨show n.natAbs < 2 ^ 8 by lia,show (1:Nat) < 2 ^ 8 by decide⟩⟩
def Gx (K:Frag):Sp:=fun vs H Q _=>∃(a:Addr) (ns:List Int) (m:Nat),vs=[.ref a,.int (m:Int)]/\SqL K H a (ns.map V.int)/\1<=m/\∀r us ds H',aK H H'->H r=none->H' r=some (.lst us)->Rts K H' us ds->(∀d∈ds,DrR m d/\d.1≠.ho)->ds.length<=12->Q (.ref r) H'
abbrev Ek:Stmt:=top 74
theorem rR:aQ ["_law_script","_law_many","_law_rows_here","_law_cell","_law_word"] ["_law_script","_law_many"] (aH Ek):=sK9 rfl rfl rfl rfl (by decide +kernel)
theorem Nm {dV:Value}(F:aU K "_law_rows" "_law_rows" Ek dV f fd) :
  aJ P w K mg base CX 1 f fd ["_law_script","_law_many"] (Gx K):=by
 refine F.ok rR (fun vs H Q E h=>?_) fun cdv A outer s H vs Q E hr h=>?_
 ·obtain⟨_,_,_,rfl,_⟩:=h;rfl
 obtain⟨a,ns,m,rfl,hS,hm1,q⟩:=h;refine⟨_,(aE (aV (i:=2) rR.nd rfl (Or.inl rfl) (cX aC))
  (aE (dP PassesOwn.never rfl (bO (gA iV (pv 0) (fY aG) (fY aG))) (aR (i:=3) rR.nd rfl (Or.inl rfl))
   (aE (aV (i:=4) rR.nd rfl (Or.inl rfl) (aY cF (cX (aA bV (aA bV (aA bV aC)))) (aZ gE (pv 3) aG) (fun _ _=>rfl)))
  (aF (cG (uV PySem.F.plainAttrs_list PySem.F.slot_list_append PySem.F.type_list_append iC (pv 2) (aA (cV (aA (pv 4) (aA (aZ jU (aZ pA (pv 3) aG) (pv 1)) (aA (aZ jU (aZ gE (aZ De (pv 3) aG) aG) (pv 1)) (aA (cV (aA (aZ kW aG (aZ gE (pv 3) aG)) (aA aG aC))) aC))))) aC))))))
  (aF (aX (pv 2))))),?_⟩
 refine⟨zl9 0,fun r hr0=>?_⟩;have s1:=aD hr0 (.lst []);have e1:upd H r (.lst []) r=some (.lst []):=aB;generalize upd H r (.lst [])=H1 at s1 e1 ⊢;refine⟨_,rfl,9,rfl,21,rfl,a,_,rfl,s1.seq hS,fun C hC=>?_⟩;have c12:=Px (ns.map V.int);obtain⟨ms,em⟩:=Ir ns (some 9) (some 21);rw[em] at c12 ⊢;rw[length_map] at c12;have s3:=aD hC (.lst (ms.map V.int));have eC:upd H1 C (.lst (ms.map V.int)) C=some (.lst (ms.map V.int)):=aB;have nCr:C≠r:=Ne.symm (bB e1 hC);have e3:=s3 _ _ e1;generalize upd H1 C (.lst (ms.map V.int))=H3 at s3 eC e3 ⊢;refine⟨C,rfl,⟨_,SqL.of eC⟩,?_⟩;refine dW (xs:=ms.map V.int) (fun n σ H'=>aK H H'/\H' C=some (.lst (ms.map V.int))/\∃(us:List V) (ds:List RD) (z4 z5:Option V),σ=[some (.ref a),some (.int (m:Int)),some (.ref r),z4,z5]/\H' r=some (.lst us)/\Rts K H' us ds/\(∀d∈ds,DrR m d/\d.1≠.ho)/\ds.length=n) ⟨s1.trans s3,eC,[],[],none,none,rfl,e3,.nil,(fun d hd=>by cases hd),rfl⟩ (fun i σ H' _ h=>SqL.of h.2.1) ?_ ?_
 ·rintro n x σ H4 hx ⟨s4,eC4,us,ds,z4,z5,rfl,er,hR,hK,hlen⟩;have hn:n < 12:=by
   have:=(List.getElem?_eq_some_iff.mp hx).1;rw[length_map] at this;lia
  obtain⟨c,rfl⟩:∃c,x=.int c:=by
   rw[getElem?_map] at hx
   cases hm:ms[n]? with
   |none=>rw[hm] at hx;cases hx
   |some c=>rw[hm] at hx;cases hx;exact⟨c,rfl⟩
  have lus:=hR.length;refine⟨zl9 3,fun L hL=>?_⟩;have s5:=aD hL (.lst [V.str "piece",.str "push",.str "piece"]);have e5:upd H4 L (.lst [V.str "piece",.str "push",.str "piece"]) L=some (.lst [V.str "piece",.str "push",.str "piece"]):=aB;generalize upd H4 L (.lst [V.str "piece",.str "push",.str "piece"])=H5 at s5 e5 ⊢;obtain⟨k,kh,ek⟩:=at3 (Int.emod_nonneg c (show (3:Int)≠0 by decide)) (Int.emod_lt_of_pos c (show (0:Int) < 3 by decide));refine⟨_,rfl,_,_,rfl,rfl,(show (0:Int) < 3 by decide),L,_,_,_,rfl,rfl,SqL.of e5,ek,?_⟩;have er5:=s5 _ _ er;have m0:(m:Int)≠0:=by lia
  have mp:0 < (m:Int):=by lia
  have b1:=Int.fmod_nonneg_of_pos (a:=c / 3) mp;have b2:=Int.fmod_lt_of_pos (c / 3) mp;have b3:=Int.fmod_nonneg_of_pos (a:=c*40692 % 10037) mp;have b4:=Int.fmod_lt_of_pos (c*40692 % 10037) mp;have g0:=Int.emod_nonneg c (show (7:Int)≠0 by decide);have g7:=Int.emod_lt_of_pos c (show (0:Int) < 7 by decide);refine⟨_,rfl,.inl ⟨rfl,_,SqL.of er5⟩,_,rfl,_,rfl,_,_,rfl,rfl,⟨by decide,by decide⟩,_,rfl,_,_,rfl,rfl,m0,_,rfl,_,_,rfl,rfl,Or.inr ⟨by decide,by decide⟩,_,_,rfl,rfl,(show (0:Int) < 10037 by decide),_,rfl,_,_,rfl,rfl,m0,_,rfl,_,_,rfl,rfl,(show (0:Int) < 7 by decide),_,_,rfl,rfl,zl9 2,fun z hz=>?_⟩;have s6:=aD hz (.tup [.int (1+c % 7),.int 1]);have ez:SqT K (upd H5 z (.tup [.int (1+c % 7),.int 1])) z [.int (1+c % 7),.int 1]:=SqT.of aB;generalize upd H5 z (.tup [.int (1+c % 7),.int 1])=H7 at s6 ez ⊢;refine⟨zl9 4,fun t ht=>?_⟩;have s8:=aD ht (.tup [.str k.wd,.int (Int.fmod (c / 3) m),.int (Int.fmod (c*40692 % 10037) m),.ref z]);have et:SqT K (upd H7 t (.tup [.str k.wd,.int (Int.fmod (c / 3) m),.int (Int.fmod (c*40692 % 10037) m),.ref z])) t [.str k.wd,.int (Int.fmod (c / 3) m),.int (Int.fmod (c*40692 % 10037) m),.ref z]:=SqT.of aB;generalize upd H7 t (.tup [.str k.wd,.int (Int.fmod (c / 3) m),.int (Int.fmod (c*40692 % 10037) m),.ref z])=H8 at s8 et ⊢;have er8:=s8 _ _ (s6 _ _ er5);have s48:=s5.trans (s6.trans s8);have fz:Fq K H8 z (1+c % 7,1):=s8.seqT ez;obtain⟨lo,bo⟩:=Mj (n:=1+c % 7) (by lia);refine⟨r,us,.ref t,rfl,rfl,er8,aW (by lia),?_⟩;refine⟨(s4.trans s48).change hr0,by rw[aM nCr];exact s48 _ _ eC4,us++[.ref t],ds++[(k,Int.fmod (c / 3) m,Int.fmod (c*40692 % 10037) m,(1+c % 7,1))],_,_,rfl,aB,Rts.upd er8 ((hR.same s48).app (.cons et fz .nil)),fun d hd=>?_,by rw[List.length_append,hlen];rfl⟩;rcases mem_append.mp hd with z | z
  ·exact hK d z
  ·have:d=(k,Int.fmod (c / 3) m,Int.fmod (c*40692 % 10037) m,(1+c % 7,1)):=by simpa using z
   rw[this];exact⟨⟨⟨b1,b2,b3,b4,lo,fun _=>by show 0 < 1+c % 7;lia,bo.mono (by decide)⟩,bo,Yh g0 g7⟩,kh⟩
 rintro σ H4 ⟨s4,-,us,ds,z4,z5,rfl,er,hR,hK,hlen⟩;rw[length_map] at hlen;exact⟨_,rfl,q r us ds H4 s4 hr0 er hR hK (by lia)⟩
theorem Rts.take {K:Frag}{H:Hp}:∀{xs:List V} {ds:List RD} (n:Nat),Rts K H xs ds->Rts K H (xs.take n) (ds.take n)
 |_,_,0,_=>.nil
 |_,_,_+1,.nil=>.nil
 |_,_,n+1,.cons h f q=>.cons h f (Rts.take n q)
theorem Rts.drop {K:Frag}{H:Hp}:∀{xs:List V} {ds:List RD} (n:Nat),Rts K H xs ds->Rts K H (xs.drop n) (ds.drop n)
 |_,_,0,h=>h
 |_,_,_+1,.nil=>.nil
 |_,_,n+1,.cons _ _ q=>Rts.drop n q
def Bj (K:Frag):Sp:=fun vs H Q _=>∃(a r:Addr) (ns:List Int) (m:Nat) (us:List V) (ds:List RD) (H0:Hp),vs=[.ref a,.ref r,.int (m:Int)]/\aK H0 H/\H0 r=none/\SqL K H0 a (ns.map V.int)/\ns.length<=63/\1<=m/\H r=some (.lst us)/\Rts K H us ds/\(∀d∈ds,DrR m d)/\ds.length<=12/\∀us' ds' H',aK H0 H'->H' r=some (.lst us')->Rts K H' us' ds'->(∀d∈ds',DrR m d)->ds'.length<=15->Q (.ref r) H'
abbrev Ej:Stmt:=top 75
theorem oM:aQ ["_law_script","_law_rows_here","_law_many","_law_cell","_law_k","_law_other","_law_row"] ["_law_script","_law_rows_here","_law_many"] (aH Ej):=sK9 rfl rfl rfl rfl (by decide +kernel)
theorem Oz {dV:Value}(F:aU K "_law_holds" "_law_holds" Ej dV f fd)(mr:mg "range"=none)(ml:mg "len"=none)(G1:aJ P w K mg base CX0 1 g1 gd1 ["_law_script","_law_k"] (Fj K))(b1:aP K gd1 ["_law_script","_law_k"] [])(k1:kI9 K g1)(m1:mI9 mg "_law_nth" g1) :
  aJ P w K mg base CX 2 f fd ["_law_script","_law_rows_here","_law_many"] (Bj K):=by
 refine F.ok oM (fun vs H Q E h=>?_) fun cdv A outer s H vs Q E hr h=>?_
 ·obtain⟨_,_,_,_,_,_,_,rfl,_⟩:=h;rfl
 obtain⟨a,r,ns,m,us,ds,H0,rfl,s0,nr,hS,h63,hm1,er,hR,hK,h12,q⟩:=h;refine⟨_,(aE (aV (i:=3) oM.nd rfl (Or.inl rfl) (aI G1 hr rfl m1 k1 b1 .nil aS (aA (pv 0) (aA aG aC))))
  (aE (cS (bK gQ (aZ gE (pv 3) aG) aG (bN _)) (aF (dP PassesOwn.never rfl (gF rfl mr (aA (aZ kW aG (aZ gE (aZ pA (pv 3) aG) aG)) aC)) (aR (i:=4) oM.nd rfl (Or.inl rfl))
   (aE (aV (i:=5) oM.nd rfl (Or.inl rfl) (aI G1 hr rfl m1 k1 b1 .nil aS (aA (pv 0) (aA (aZ kW aG (pv 4)) aC))))
  (aE (aV (i:=6) oM.nd rfl (Or.inl rfl) (cV (aA bV (aA (aZ jU (pv 5) (pv 2)) (aA (aZ jU (aZ gE (aZ De (pv 5) aG) aG) (pv 2)) (aA (cV (aA (aZ uJ (aZ gE (pv 5) aG) aG) (aA aG aC))) aC))))))
  (aF (cG (uV PySem.F.plainAttrs_list PySem.F.slot_list_insert PySem.F.type_list_insert Jx (pv 1) (aA (aZ gE (aZ pA (pv 5) aG) (aZ kW (bH bD rfl ml PySem.boot_len (aA (pv 1) aC)) aG)) (aA (pv 6) aC))))))))) bM)
  (aF (aX (pv 1))))),?_⟩
 refine fU (fun σ' H'=>aK H H'/\∃v:Int,σ'=[some (.ref a),some (.ref r),some (.int (m:Int)),some (.int v),none,none,none]) (fun X hX=>?_) ?_
 ·exact⟨_,rfl,a,ns,1,1,rfl,rfl,s0.seq hS,h63,by lia,fun v H1 s1=>hX _ _ ⟨s1,v,rfl⟩⟩
 rintro σ1 H1 ⟨s1,v,rfl⟩;refine fU (fun σ' H'=>aK H0 H'/\∃(us':List V) (ds':List RD) (z3 z4 z5 z6:Option V),σ'=[some (.ref a),some (.ref r),some (.int (m:Int)),z3,z4,z5,z6]/\H' r=some (.lst us')/\Rts K H' us' ds'/\(∀d∈ds',DrR m d)/\ds'.length<=15) (fun X hX=>?_) ?_
 ·refine⟨_,rfl,_,_,rfl,rfl,(show (0:Int) < 2 by decide),rfl,_,rfl,?_⟩
  by_cases c1:v % 2=1
  ·refine L2.ifT (decide_eq_true (by show V.int (v % 2)=V.int 1;rw[c1])) ?_;have g0:=Int.emod_nonneg (v / 2) (show (3:Int)≠0 by decide);have g3:=Int.emod_lt_of_pos (v / 2) (show (0:Int) < 3 by decide);obtain⟨N,hN⟩:∃N:Nat,1+v / 2 % 3=(N:Int):=⟨(1+v / 2 % 3).toNat,by lia⟩
   refine⟨_,rfl,_,_,rfl,rfl,⟨by decide,by decide⟩,_,_,rfl,rfl,(show (0:Int) < 3 by decide),_,_,rfl,rfl,1+v / 2 % 3,rfl,by lia,by lia,?_⟩;rw[hN,Int.toNat_natCast];refine qD (lo:=0) (n:=N) (fun i σ' H'=>aK H0 H'/\∃(us':List V) (ds':List RD) (z3 z4 z5 z6:Option V),σ'=[some (.ref a),some (.ref r),some (.int (m:Int)),z3,z4,z5,z6]/\H' r=some (.lst us')/\Rts K H' us' ds'/\(∀d∈ds',DrR m d)/\ds'.length<=12+i) ⟨s0.trans s1,us,ds,_,_,_,_,rfl,s1 _ _ er,hR.same s1,hK,by lia⟩ ?_ ?_
   ·rintro i σ H2 hi ⟨s2,us',ds',z3,z4,z5,z6,rfl,er2,hR2,hK2,hl2⟩;rw[Int.zero_add];have lu:=hR2.length;refine⟨_,rfl,_,rfl,_,_,rfl,rfl,a,ns,_,21+i,rfl,by lia,s2.seq hS,h63,by lia,fun c H3 s3=>?_⟩;have er3:=s3 _ _ er2;have m0:(m:Int)≠0:=by lia
    have mp:0 < (m:Int):=by lia
    have b1:=Int.fmod_nonneg_of_pos (a:=c) mp;have b2:=Int.fmod_lt_of_pos c mp;have b3:=Int.fmod_nonneg_of_pos (a:=c*48271 % 10007) mp;have b4:=Int.fmod_lt_of_pos (c*48271 % 10007) mp;have h0:=Int.emod_nonneg c (show (5:Int)≠0 by decide);have h5:=Int.emod_lt_of_pos c (show (0:Int) < 5 by decide);refine⟨_,rfl,_,rfl,_,_,rfl,rfl,m0,_,rfl,_,_,rfl,rfl,Or.inr ⟨by decide,by decide⟩,_,_,rfl,rfl,(show (0:Int) < 10007 by decide),_,rfl,_,_,rfl,rfl,m0,_,rfl,_,_,rfl,rfl,(show (0:Int) < 5 by decide),_,_,rfl,rfl,zl9 2,fun z hz=>?_⟩;have s6:=aD hz (.tup [.int (c % 5 - 2),.int 1]);have ez:SqT K (upd H3 z (.tup [.int (c % 5 - 2),.int 1])) z [.int (c % 5 - 2),.int 1]:=SqT.of aB;generalize upd H3 z (.tup [.int (c % 5 - 2),.int 1])=H7 at s6 ez ⊢;refine⟨zl9 4,fun t ht=>?_⟩;have s8:=aD ht (.tup [.str "hold",.int (Int.fmod c m),.int (Int.fmod (c*48271 % 10007) m),.ref z]);have et:SqT K (upd H7 t (.tup [.str "hold",.int (Int.fmod c m),.int (Int.fmod (c*48271 % 10007) m),.ref z])) t [.str Kd.ho.wd,.int (Int.fmod c m),.int (Int.fmod (c*48271 % 10007) m),.ref z]:=SqT.of aB;generalize upd H7 t (.tup [.str "hold",.int (Int.fmod c m),.int (Int.fmod (c*48271 % 10007) m),.ref z])=H8 at s8 et ⊢;have er8:=s8 _ _ (s6 _ _ er3);have s38:=s3.trans (s6.trans s8);have fz:Fq K H8 z (c % 5 - 2,1):=s8.seqT ez;obtain⟨lo,bo⟩:=Mj (n:=c % 5 - 2) (by lia);have lp:(0:Int) < (us'.length:Int)+1:=by lia
    have y0:=Int.emod_nonneg (c / 7) (show (us'.length:Int)+1≠0 by lia);have y1:=Int.emod_lt_of_pos (c / 7) lp;obtain⟨y,hy⟩:∃y:Nat,c / 7 % ((us'.length:Int)+1)=(y:Int):=⟨(c / 7 % ((us'.length:Int)+1)).toNat,by lia⟩
    refine⟨_,rfl,.inl ⟨rfl,_,SqL.of er8⟩,_,rfl,_,_,rfl,rfl,⟨by decide,by decide⟩,_,rfl,r,us',rfl,.inl (SqL.of er8),_,_,rfl,rfl,_,_,rfl,rfl,lp,_,rfl,r,us',y,_,.ref t,rfl,rfl,hy,by lia,er8,Nat.lt_of_lt_of_le (show us'.length < 100 by lia) (by decide),?_⟩;refine⟨(s2.trans s38).change nr,us'.take y++.ref t :: us'.drop y,ds'.take y++(.ho,Int.fmod c m,Int.fmod (c*48271 % 10007) m,(c % 5 - 2,1)) :: ds'.drop y,_,_,_,_,rfl,aB,Rts.upd er8 (((Rts.take y hR2).same s38).app (.cons et fz ((Rts.drop y hR2).same s38))),fun d hd=>?_,?_⟩
    ·rcases mem_append.mp hd with z | z
     ·exact hK2 d (mem_of_mem_take z)
     ·rcases mem_cons.mp z with z | z
      ·rw[z];exact⟨⟨b1,b2,b3,b4,lo,(fun h=>by cases h),bo.mono (by decide)⟩,bo,⟨fun h=>(by cases h),fun h=>(by cases h)⟩⟩
      ·exact hK2 d (mem_of_mem_drop z)
    ·rw[List.length_append,length_cons,length_take,length_drop];lia
   ·rintro σ H2 ⟨s2,us',ds',z3,z4,z5,z6,rfl,er2,hR2,hK2,hl2⟩;exact hX _ _ ⟨s2,us',ds',z3,z4,z5,z6,rfl,er2,hR2,hK2,by lia⟩
  ·refine L2.ifF (decide_eq_false (fun z=>c1 (by injection z))) ?_;exact hX _ _ ⟨s0.trans s1,us,ds,_,_,_,_,rfl,s1 _ _ er,hR.same s1,hK,by lia⟩
 rintro σ2 H2 ⟨s2,us',ds',z3,z4,z5,z6,rfl,er2,hR2,hK2,hl2⟩;exact⟨_,rfl,q us' ds' H2 s2 er2 hR2 hK2 hl2⟩
theorem qh0:(["_law_k"]:List Str).Nodup:=by decide +kernel
theorem oZ:(["_law_mark","_law_other","_law_one"]:List Str).Nodup:=by decide +kernel
theorem yD:(["_law_end","_law_marks"]:List Str).Nodup:=by decide +kernel
theorem kL:(["_law_point","_law_marks","_law_known"]:List Str).Nodup:=by decide +kernel
def Fw (K:Frag):Sp:=fun vs H Q _=>∃(r b:Addr) (us:List V) (m:Nat) (ds:List RD) (es:List Nat),vs=[.int (m:Int),.ref r,.ref b]/\SqL K H r us/\Rts K H us ds/\(∀d∈ds,fR (m:Int) d.2.1 d.2.2.1)/\jP ds/\m<=20/\SqL K H b ((ups es).map V.int)/\(∀e∈es,e < m)/\es.length<=20/\∀l H',aK H H'->H l=none->H' l=some (.lst ((ups (lsP (mk m ds) m es)).map V.int))->Q (.ref l) H'
theorem As (F:Nat->Int)(m:Nat)(es:List Nat):lsP F (m+1) es=lsP F m es++if es.all (fun e=>decide (F e≠F m))=true then [m] else []:=by
 unfold lsP;rw[range_succ,filter_append];congr 1
 cases c:es.all (fun e=>decide (F e≠F m)) with
 |true=>rw[filter_cons_of_pos (by exact c)];rfl
 |false=>rw[filter_cons_of_neg (by show ¬(es.all (fun e=>decide (F e≠F m))=true);rw[c];decide)];rfl
theorem Ty (F:Nat->Int)(es:List Nat)(m:Nat):(!decide (F m∈es.map F))=es.all (fun e=>decide (F e≠F m)):=by
 cases c:es.all (fun e=>decide (F e≠F m)) with
 |true=>
  rw[decide_eq_false (fun z=>?_)];rfl;obtain⟨e,he,ee⟩:=mem_map.mp z;exact of_decide_eq_true (all_eq_true.mp c e he) ee
 |false=>
  obtain⟨e,he,ee⟩:=all_eq_false.mp c;rw[decide_eq_true (mem_map.mpr ⟨e,he,?_⟩)];rfl;exact Classical.byContradiction fun z=>ee (decide_eq_true z)
theorem Kw (F:Nat->Int)(m:Nat)(es:List Nat):(lsP F m es).length<=m:=by
 have:=length_filter_le (fun p=>es.all fun e=>decide (F e≠F p)) (List.range m);rw[length_range] at this;exact this
abbrev Dm:Stmt:=top 76
theorem gK:aQ ["_law_many","_law_rows_here","_law_ends","_law_marks","_law_word","_law_start","_law_goal","_law_size","_law_one","_law_other","_law_known"] ["_law_many","_law_rows_here","_law_ends"] (aH Dm):=sK9 rfl rfl rfl rfl (by decide +kernel)
theorem Ol {dV:Value}(F:aU K "_law_apart" "_law_apart" Dm dV f fd)(mr:mg "range"=none) :
  aJ P w K mg base CX 1 f fd ["_law_many","_law_rows_here","_law_ends"] (Fw K):=by
 refine F.ok gK (fun vs H Q E h=>?_) fun cdv A outer s H vs Q E hr h=>?_
 ·obtain⟨_,_,_,_,_,_,rfl,_⟩:=h;rfl
 obtain⟨r,b,us,m,ds,es,rfl,hS,hR,pt,nh,hm,hB,hE,h20,q⟩:=h;refine⟨_,(aE (aV (i:=3) gK.nd rfl (Or.inr rfl) (cL (nl:=1) (fr:=[]) (Nc:=["_law_k"]) (cl:=[]) rfl ⟨rfl,rfl,by decide +kernel,by decide +kernel,fun x c h=>(by cases h),cC rfl,rfl,fun i n h=>(by simp at h)⟩
    (gF rfl mr (aA (pv 0) aC)) (fun C s3 H3 fp pins=>(aR (i:=0) qh0 rfl (Or.inl rfl))) (fun C s3 H3 fp pins=>cA)
    (fun C s3 H3 fp pins=>(pv 0))))
  (aE (dP PassesOwn.never rfl (bO (pv 1)) (gW rfl (bQ (aR (i:=4) gK.nd rfl (Or.inl rfl)) (bQ (aR (i:=5) gK.nd rfl (Or.inl rfl)) (bQ (aR (i:=6) gK.nd rfl (Or.inl rfl)) (bQ (aR (i:=7) gK.nd rfl (Or.inl rfl)) fE)))))
   (aF (cS (bK gQ (pv 4) bV (bN _)) (aE (aV (i:=8) gK.nd rfl (Or.inr rfl) (aY cF (pv 3) (pv 5) (fun _ _=>rfl)))
  (aE (aV (i:=9) gK.nd rfl (Or.inr rfl) (aY cF (pv 3) (pv 6) (fun _ _=>rfl)))
  (aF (aV (i:=3) gK.nd rfl (Or.inr rfl) (cL (nl:=1) (fr:=[9,8]) (Nc:=["_law_mark","_law_other","_law_one"]) (cl:=[("_law_other",s.heap.objs.size+3),("_law_one",s.heap.objs.size+2)]) rfl ⟨rfl,rfl,by decide +kernel,by decide +kernel,(bG rfl (bG rfl (dA))),cC rfl,rfl,fun i n h=>match i,h with | 0,h=>by cases h;exact⟨9,rfl,rfl,rfl,rfl,.inl rfl⟩ | 1,h=>by cases h;exact⟨8,rfl,rfl,rfl,rfl,.inl rfl⟩ | k+2,h=>by rw[show 1+(k+2)=k+3 by lia] at h;cases h⟩
    (bO (pv 3)) (fun C s3 H3 fp pins=>(aR (i:=0) oZ rfl (Or.inl rfl))) (fun C s3 H3 fp pins=>cA)
    (fun C s3 H3 fp pins=>(uI (bK gQ (pv 0) (pv 1) (bN _)) (pv 2) (pv 0)))))))) bM)))
  (aE (aV (i:=10) gK.nd rfl (Or.inr rfl) (cL (nl:=1) (fr:=[3]) (Nc:=["_law_end","_law_marks"]) (cl:=[("_law_marks",s.heap.objs.size+1)]) rfl ⟨rfl,rfl,by decide +kernel,by decide +kernel,(bG rfl (dA)),cC rfl,rfl,fun i n h=>match i,h with | 0,h=>by cases h;exact⟨3,rfl,rfl,rfl,rfl,.inl rfl⟩ | k+1,h=>by rw[show 1+(k+1)=k+2 by lia] at h;cases h⟩
    (bO (pv 2)) (fun C s3 H3 fp pins=>(aR (i:=0) yD rfl (Or.inl rfl))) (fun C s3 H3 fp pins=>cA)
    (fun C s3 H3 fp pins=>(aY (fD (K:=K) rfl) (pv 1) (pv 0) (fun _ _=>rfl)))))
  (aF (aX (cL (nl:=1) (fr:=[3,10]) (Nc:=["_law_point","_law_marks","_law_known"]) (cl:=[("_law_marks",s.heap.objs.size+1),("_law_known",s.heap.objs.size+4)]) rfl ⟨rfl,rfl,by decide +kernel,by decide +kernel,(bG rfl (bG rfl (dA))),cC rfl,rfl,fun i n h=>match i,h with | 0,h=>by cases h;exact⟨3,rfl,rfl,rfl,rfl,.inl rfl⟩ | 1,h=>by cases h;exact⟨10,rfl,rfl,rfl,rfl,.inl rfl⟩ | k+2,h=>by rw[show 1+(k+2)=k+3 by lia] at h;cases h⟩
    (gF rfl mr (aA (pv 0) aC)) (fun C s3 H3 fp pins=>(aR (i:=0) kL rfl (Or.inl rfl))) (fun C s3 H3 fp pins=>(sG (bK (iY (K:=K) rfl) (aY (fD (K:=K) rfl) (pv 1) (pv 0) (fun _ _=>rfl)) (pv 2) rfl)))
    (fun C s3 H3 fp pins=>(pv 0)))))))),?_⟩
 have lus:=hR.length;refine fU (fun σ' H'=>aK H H'/\∃D,H D=none/\H' D=some (.lst ((mks m (ds.take 0)).map V.int))/\σ'=[some (.int (m:Int)),some (.ref r),some (.ref b),some (.ref D),none,none,none,none,none,none,none]) (fun X hX=>?_) ?_
 ·refine⟨_,rfl,(m:Int),rfl,by lia,by lia,fun D hD=>?_⟩;rw[Int.toNat_natCast];have sD:=aD hD (.lst []);refine iE (n:=m) (fun i zs H'=>aK H H'/\H' D=some (.lst zs)/\zs=(zB i).map V.int) ⟨sD,aB,rfl⟩ (fun i zs H' h=>h.2.1) ?_ ?_
  ·rintro i zs H3 hi ⟨s3,e3,rfl⟩ C hC;refine⟨bU.1,bU.2,cT ?_⟩
   try rw[Int.zero_add]
   refine⟨_,rfl,e3,aW (by unfold zB;rw[length_map,length_map,length_range];lia),hC _ _ ⟨s3.change hD,aB,?_⟩⟩
   try rw[Int.zero_add]
   unfold zB;rw[range_succ,map_append,map_append];rfl
  ·rintro zs H3 ⟨s3,e3,rfl⟩;exact hX _ _ ⟨s3,D,hD,e3,rfl⟩
 rintro σ1 H1 ⟨sD,D,hD,eD,rfl⟩;refine fU (fun σ' H'=>aK H H'/\∃(c:Addr) (z4 z5 z6 z7 z8 z9:Option V),σ'=[some (.int (m:Int)),some (.ref r),some (.ref b),some (.ref c),z4,z5,z6,z7,z8,z9,none]/\H' c=some (.lst ((mks m ds).map V.int))) (fun X hX=>?_) ?_
 ·refine⟨_,rfl,r,rfl,⟨_,sD.seq hS⟩,?_⟩;refine dW (xs:=us) (fun i σ H'=>aK H H'/\∃(c:Addr) (z4 z5 z6 z7 z8 z9:Option V),σ=[some (.int (m:Int)),some (.ref r),some (.ref b),some (.ref c),z4,z5,z6,z7,z8,z9,none]/\H c=none/\H' c=some (.lst ((mks m (ds.take i)).map V.int))) ⟨sD,D,none,none,none,none,none,none,rfl,hD,eD⟩ (fun i σ H' _ h=>h.1.seq hS) ?_ ?_
  ·rintro i w σ H2 hw ⟨s2,c,z4,z5,z6,z7,z8,z9,rfl,nc,ec⟩;have hi:i < ds.length:=by have:=(List.getElem?_eq_some_iff.mp hw).1;lia
   obtain⟨⟨kd,u,v,p⟩,hd⟩:∃d,ds[i]?=some d:=⟨_,getElem?_eq_getElem hi⟩
   obtain⟨t,z,et,ht,fz⟩:=hR.at hd;have ew:w=.ref t:=by rw[et] at hw;exact(Option.some.inj hw).symm
   subst ew;have kn:kd≠.ho:=nh _ (mem_of_getElem? hd);obtain⟨i0,i1,j0,j1⟩:fR (m:Int) u v:=pt _ (mem_of_getElem? hd);refine⟨t,_,rfl,s2.seqT ht,rfl,_,_,rfl,_,_,rfl,_,_,rfl,_,_,rfl,rfl,?_⟩;have eT:mks m (ds.take (i+1))=hJ (mks m (ds.take i)) (kd,u,v,p):=by rw[take_add_one,hd];exact lJ _ _ _
   rw[eT];have lm:=jV m (ds.take i);generalize mks m (ds.take i)=ms at ec lm ⊢
   by_cases hk:kd=.pc
   rotate_left
   ·have sk:hJ ms (kd,u,v,p)=ms:=by
     unfold hJ;rw[if_pos (by show kd=.pu;cases kd with | pc=>exact absurd rfl hk | pu=>rfl | ho=>exact absurd rfl kn)]
    rw[sk];refine⟨_,rfl,rfl,_,rfl,L2.ifF (by show decide (V.str kd.wd=V.str Kd.pc.wd)=false;rw[eS];exact decide_eq_false hk) ?_⟩;exact⟨s2,c,_,_,_,_,z8,z9,rfl,nc,ec⟩
   ·have sk:hJ ms (kd,u,v,p)=jn ms u.toNat v.toNat:=by
     unfold hJ;rw[if_neg (by show ¬kd=.pu;rw[hk];exact fun z=>by cases z)]
    rw[sk];refine⟨_,rfl,rfl,_,rfl,L2.ifT (by show decide (V.str kd.wd=V.str Kd.pc.wd)=true;rw[eS];exact decide_eq_true hk) ?_⟩;have gi:∀{j:Int},0<=j->j < (m:Int)->atI (ms.map V.int) j=some (.int (ms.getD j.toNat 0)):=fun {j} h0 h1=>by
     have hj:j.toNat < ms.length:=by lia
     have:=cH (xs:=ms.map V.int) (j:=j.toNat) (v:=.int (ms.getD j.toNat 0)) (by rw[getElem?_map,getElem?_eq_getElem hj,getD_eq_getElem?_getD,getElem?_eq_getElem hj];rfl)
     rwa [show ((j.toNat:Nat):Int)=j by lia] at this
    refine⟨_,rfl,_,rfl,c,_,_,_,rfl,rfl,SqL.of ec,gi i0 i1,?_⟩;refine⟨_,rfl,_,rfl,c,_,_,_,rfl,rfl,SqL.of ec,gi j0 j1,?_⟩;refine⟨_,rfl,c,rfl,⟨_,SqL.of ec⟩,fun D2 hD2=>?_⟩;have sD2:=aD hD2 (.lst []);have lj:(jn ms u.toNat v.toNat).length=ms.length:=by unfold jn;rw[length_map]
    refine bX (xs:=ms.map V.int) (fun i zs H'=>aK H2 H'/\H' D2=some (.lst zs)/\zs=((jn ms u.toNat v.toNat).take i).map V.int) ⟨sD2,aB,rfl⟩ (fun i zs H' h=>h.2.1) (fun i zs H' _ h=>h.1.seq (SqL.of ec)) ?_ ?_
    ·rintro i' zs x H3 hx' ⟨s3,e3,rfl⟩ C hC;rw[getElem?_map] at hx';obtain⟨cc,hc,rfl⟩:=Option.map_eq_some_iff.mp hx';have hi':i' < ms.length:=(List.getElem?_eq_some_iff.mp hc).1;have ej:(jn ms u.toNat v.toNat)[i']?=some (if cc=ms.getD v.toNat 0 then ms.getD u.toNat 0 else cc):=by unfold jn;rw[getElem?_map,hc];rfl
     refine⟨bU.1,bU.2,cT ?_⟩;refine⟨_,rfl,_,rfl,rfl,_,rfl,?_⟩
     by_cases h:cc=ms.getD v.toNat 0
     ·rw[if_pos h] at ej;refine L2.ifT (decide_eq_true (by rw[h])) ⟨_,rfl,e3,aW (by rw[length_map,length_take];lia),hC _ _ ⟨s3.change hD2,aB,?_⟩⟩;rw[take_add_one,ej,map_append];rfl
     ·rw[if_neg h] at ej;refine L2.ifF (decide_eq_false (fun z=>h (by injection z))) ⟨_,rfl,e3,aW (by rw[length_map,length_take];lia),hC _ _ ⟨s3.change hD2,aB,?_⟩⟩;rw[take_add_one,ej,map_append];rfl
    ·rintro zs H3 ⟨s3,e3,rfl⟩;rw[length_map,<- lj,take_length] at e3;exact⟨s2.trans s3,D2,_,_,_,_,_,_,rfl,s2.free hD2,e3⟩
  ·rintro σ H2 ⟨s2,c,z4,z5,z6,z7,z8,z9,rfl,nc,ec⟩;rw[show us.length=ds.length by lia,take_length] at ec;exact hX _ _ ⟨s2,c,z4,z5,z6,z7,z8,z9,rfl,ec⟩
 rintro σ2 H2 ⟨s2,c,z4,z5,z6,z7,z8,z9,rfl,ec⟩;have lm:=jV m ds;have gi:∀{j:Nat},j < m->atI ((mks m ds).map V.int) (j:Int)=some (.int (mk m ds j)):=fun {j} h1=>by
  have hj:j < (mks m ds).length:=by lia
  exact cH (xs:=(mks m ds).map V.int) (j:=j) (v:=.int (mk m ds j)) (by unfold mk;rw[getElem?_map,getElem?_eq_getElem hj,getD_eq_getElem?_getD,getElem?_eq_getElem hj];rfl)
 refine fU (fun σ' H'=>aK H2 H'/\∃k:Addr,σ'=[some (.int (m:Int)),some (.ref r),some (.ref b),some (.ref c),z4,z5,z6,z7,z8,z9,some (.ref k)]/\H' k=some (.lst ((es.map (mk m ds)).map V.int))) (fun X hX=>?_) ?_
 ·refine⟨_,rfl,b,rfl,⟨_,s2.seq hB⟩,fun D hD=>?_⟩;have sD:=aD hD (.lst []);refine bX (xs:=(ups es).map V.int) (fun i zs H'=>aK H2 H'/\H' D=some (.lst zs)/\zs=((es.take i).map (mk m ds)).map V.int) ⟨sD,aB,rfl⟩ (fun i zs H' h=>h.2.1) (fun i zs H' _ h=>(s2.trans h.1).seq hB) ?_ ?_
  ·rintro i zs x H3 hx ⟨s3,e3,rfl⟩ C hC;rw[gS,getElem?_map] at hx;obtain⟨e,he,rfl⟩:=Option.map_eq_some_iff.mp hx;have hi:i < es.length:=(List.getElem?_eq_some_iff.mp he).1;refine⟨bU.1,bU.2,cT ?_⟩;refine⟨_,rfl,_,rfl,c,_,_,_,rfl,rfl,SqL.of (s3 _ _ ec),gi (hE e (mem_of_getElem? he)),?_⟩;refine⟨e3,aW (by rw[length_map,length_map,length_take];lia),hC _ _ ⟨s3.change hD,aB,?_⟩⟩;rw[take_add_one,he,map_append,map_append];rfl
  ·rintro zs H3 ⟨s3,e3,rfl⟩;rw[length_map,length_map,take_length] at e3;exact hX _ _ ⟨s3,D,rfl,e3⟩
 rintro σ3 H3 ⟨s3,k,rfl,ek⟩;refine⟨_,rfl,(m:Int),rfl,by lia,by lia,fun D hD=>?_⟩;rw[Int.toNat_natCast];have sD:=aD hD (.lst []);refine iE (n:=m) (fun i zs H'=>aK H3 H'/\H' D=some (.lst zs)/\zs=(ups (lsP (mk m ds) i es)).map V.int) ⟨sD,aB,rfl⟩ (fun i zs H' h=>h.2.1) ?_ ?_
 ·rintro i zs H4 hi ⟨s4,e4,rfl⟩ C hC
  try rw[Int.zero_add]
  refine⟨bU.1,bU.2,_,rfl,_,rfl,c,_,_,_,rfl,rfl,SqL.of ((s3.trans s4) _ _ ec),gi hi,_,rfl,k,_,rfl,.inl (SqL.of (s4 _ _ ek)),rfl,jF _,?_⟩;rw[lL,Ty];refine⟨_,rfl,?_⟩;have ll:=Kw (mk m ds) i es
  cases ca:es.all (fun e=>decide (mk m ds e≠mk m ds i)) with
  |false=>
   refine L2.ifF rfl ?_;exact hC _ _ ⟨s4,e4,by rw[As,ca,if_neg (by decide),append_nil]⟩
  |true=>
   refine L2.ifT rfl ?_;refine⟨_,rfl,e4,aW (by rw[length_map,length_map];lia),hC _ _ ⟨s4.change hD,aB,?_⟩⟩
   try rw[Int.zero_add]
   rw[As,ca,if_pos rfl,gS,gS];show _=map _ _;rw[map_append];rfl
 ·rintro zs H4 ⟨s4,e4,rfl⟩;exact q D H4 (s2.trans (s3.trans s4)) ((s2.trans s3).free hD) e4
theorem oR {X:Cx}{K:Frag}(h:X.K=K):fK X (.builtin "isinstance") (fun xs H Q=>∃(a C dx:Addr) (fs:List (Str × V)) (tp:Addr) (cs:List Addr) (b:Bool),xs=[.ref a,.ref tp]/\H a=some (dM a (.ref C) (some dx))/\H dx=some (.xd fs)/\mD K C/\H tp=some (.tup (cs.map V.ref))/\W.kitAny K (.ref C) (cs.map Value.ref)=some b/\Q (.bl b) H):=by subst h;exact Az
theorem qX {X:Cx}{K:Frag}(h:X.K=K):fK X (.builtin "isinstance") (fun xs H Q=>∃a C dx fs c cv b,xs=[.ref a,c]/\H a=some (dM a (.ref C) (some dx))/\H dx=some (.xd fs)/\mD K C/\bS c cv/\(∀u,bS c u->u=cv)/\W.kitOne K (.ref C) cv=some b/\Q (.bl b) H):=by subst h;exact Es
theorem Am {X:Cx}{K:Frag}(h:X.K=K):fK X (.builtin "isinstance") (fun xs H Q=>∃(a C tp:Addr) (cs:List Addr) (b:Bool),xs=[.ref a,.ref tp]/\H a=some (dM a (.ref C) none)/\mD K C/\H tp=some (.tup (cs.map V.ref))/\W.kitAny K (.ref C) (cs.map Value.ref)=some b/\Q (.bl b) H):=by subst h;exact Do
theorem Dp {X:Cx}{K:Frag}(h:X.K=K):fK X (.builtin "isinstance") (fun xs H Q=>∃a C c cv b,xs=[.ref a,c]/\H a=some (dM a (.ref C) none)/\mD K C/\bS c cv/\(∀u,bS c u->u=cv)/\W.kitOne K (.ref C) cv=some b/\Q (.bl b) H):=by subst h;exact Ji
structure ErC (K:Frag) (mg:Str->Option Value) (CP CH CF CG CO:Addr):Prop where
 mF:mg "Floats"=some (.ref CF)
 mH:mg "Held"=some (.ref CH)
 mN:mg "NoPoint"=some (.ref CP)
 mR:mg "Ring"=some (.ref CG)
 mO:mg "OhmError"=some (.ref CO)
 xF:mD K CF
 xH:mD K CH
 xP:mD K CP
 dF:W.hasDictIn K CF=true
 dH:W.hasDictIn K CH=true
 nF:W.findIn K (.ref CF) "points"=some none
 nH:W.findIn K (.ref CH) "number"=some none
 eFF:W.exmOne K (.ref CF) (.ref CF)=some true
 eHF:W.exmOne K (.ref CH) (.ref CF)=some false
 eHH:W.exmOne K (.ref CH) (.ref CH)=some true
 ePF:W.exmOne K (.ref CP) (.ref CF)=some false
 ePH:W.exmOne K (.ref CP) (.ref CH)=some false
 ePP:W.exmOne K (.ref CP) (.ref CP)=some true
 tF:W.kitAny K (.ref CF) [.ref CH,.ref CP,.ref CG]=some false
 tH:W.kitAny K (.ref CH) [.ref CF,.ref CP,.ref CG]=some false
 tP:W.kitAny K (.ref CP) [.ref CF,.ref CH,.ref CG]=some false
 oF:W.kitOne K (.ref CF) (.ref CO)=some true
 oH:W.kitOne K (.ref CH) (.ref CO)=some true
 oP:W.kitOne K (.ref CP) (.ref CO)=some true
inductive Du where
 |np
 |hd (i:Nat)
 |fl (ps:List Nat)
def Du.at (H:Hp)(t:Addr)(xs:List V):Du->Prop
 | .np=>H t=some (.tup (.str "no point" :: .int 0 :: xs))
 | .hd i=>H t=some (.tup (.str "held" :: .int (i:Int) :: xs))
 | .fl ps=>∃l,H l=some (.lst ((ups ps).map V.int))/\H t=some (.tup (.str "floats" :: .ref l :: xs))
def Iw (K:Frag)(H:Hp)(m:Nat)(ds:List RD)(x:V):Du->Prop
 | .np=>Bv K H m x
 | .hd i=>∃b es,x=.ref b/\H b=some (.lst ((ups es).map V.int))/\kF m es/\Ki ds i
 | .fl ps=>∃b es,x=.ref b/\H b=some (.lst ((ups es).map V.int))/\kF m es/\jP ds/\lsP (mk m ds) m es=ps/\ps≠[]
theorem iS {ds:List RD}{i:Nat}(h:Ki ds i)(n:jP ds):False:=by
 obtain⟨⟨d,hd,hk⟩,_⟩:=h;exact n d (mem_of_getElem? hd) hk
theorem Hl {ds:List RD}{i j:Nat}(h:Ki ds i)(g:Ki ds j):i=j:=by
 obtain⟨⟨d,hd,hk⟩,h2⟩:=h;obtain⟨⟨e,he,hk'⟩,g2⟩:=g;rcases Nat.lt_trichotomy i j with z | z | z
 ·exact absurd hk (g2 i d z hd)
 ·exact z
 ·exact absurd hk' (h2 j e z he)
def xL (CN CT : Addr)(K : Frag) : Sp := fun vs H Q _ => ∃ (n l hA : Addr) (m : Nat) (ds : List RD) (x : V) (zh : List V) (bw : Bool), vs = [.ref n, x, .ref hA, .bl bw] /\ eJ CN K H n l (m : Int) ds /\ rM m ds /\ SqL K H hA zh /\
  ((∃ u : Du, Iw K H m ds x u /\ ∀ t H', aK H H' -> u.at H' t [.bl false, .bl true] -> Q (.ref t) H') \/
   ∃ b es X cs, x = .ref b /\ H b = some (.lst ((ups es).map V.int)) /\ kF m es /\ jP ds /\ lsP (mk m ds) m es = [] /\ TbV m ds X cs 17 17 /\ Vp m es X cs 23 35 /\ Fqs K H zh (replicate es.length (5, 7)) /\
    (bw = false -> ∀ t Y ys H', aK H H' -> iK CT K H' t (ups es) Y ys -> Q (.ref t) H') /\
    (bw = true -> ∀ l' zs ps H', aK H H' -> H' l' = some (.lst zs) -> Fqs K H' zs ps -> ps.length = m -> (∀ e ∈ es, ps[e]? = some (5, 7)) -> Q (.ref l') H'))
abbrev Dy:Stmt:=top 77
theorem gN:aQ ["_law_net_here","_law_ends","_law_heights","_law_backwards","_law_found","e"] ["_law_net_here","_law_ends","_law_heights","_law_backwards"] (aH Dy):=sK9 rfl rfl rfl rfl (by decide +kernel)
theorem Pk {dV : Value}(F : aU K "_law_asked" "_law_asked" Dy dV f fd){CN CT CP CH CF CG CO : Addr}(b : Bl mg)(c : ErC K mg CP CH CF CG CO)(G1 : aJ P w K mg base (CX1 P w) 9 g1 gd1 ["net", "ends", "heights"] (Vc CN CP CH CF K))(b1 : aP K gd1 ["net", "ends", "heights"] [])(k1 : W.keepIn K (.ref g1) = true)(m1 : mg "inner_heights" = some (.ref g1))(G2 : aJ P w K mg base (CX1 P w) 9 g2 gd2 ["net", "ends"] (Pu CN CT CP CH CF K))(b2 : aP K gd2 ["net", "ends"] [])(k2 : W.keepIn K (.ref g2) = true)(m2 : mg "table_of" = some (.ref g2)) :
    aJ P w K mg base CX 10 f fd ["_law_net_here", "_law_ends", "_law_heights", "_law_backwards"] (xL CN CT K) := by
  refine F.ok gN (fun vs H Q E h => ?_) (fun cdv A outer s H vs Q E hr h => ?_)
  · obtain ⟨n, l, hA, m, ds, x, zh, bw, rfl, nt, nb, hh, h⟩ := h
    rfl
  obtain ⟨n, l, hA, m, ds, x, zh, bw, rfl, nt, nb, hh, h⟩ := h;refine ⟨_, (aE (aV (i := 4) gN.nd rfl (Or.inl rfl) yT)
    (aE (Xx ⟨rfl, rfl, rfl⟩ (vE (Xw (cY (pv 3)) (vE (Hb (i := 4) gN.nd rfl (Or.inl rfl) (Gm G1 ⟨rfl, rfl, rfl⟩ hr rfl m1 k1 b1 .nil (aA (pv 0) (aA (pv 1) (aA (pv 2) aC)))))) (vE (Hb (i := 4) gN.nd rfl (Or.inl rfl) (Gm G2 ⟨rfl, rfl, rfl⟩ hr rfl m2 k2 b2 .nil (aA (pv 0) (aA (pv 1) aC))))))) bM
      (Mu (j := 5) ⟨rfl, rfl, rfl⟩ gN.nd rfl rfl rfl (.inl c.mF) (fun a => aF (aV (i := 4) gN.nd rfl (Or.inl rfl) (cV (aA bV (aA (Bb (K := K) rfl (pv 5) rfl) (aA (bH (oR (K := K) rfl) rfl b.isi PyProof.Rows.boot_isinstance (aA (pv 5) (aA (cV (aA (gV rfl c.mH) (aA (gV rfl c.mN) (aA (gV rfl c.mR) aC)))) aC))) (aA (bH (qX (K := K) rfl) rfl b.isi PyProof.Rows.boot_isinstance (aA (pv 5) (aA (gV rfl c.mO) aC))) aC)))))))
      (Mu (j := 5) ⟨rfl, rfl, rfl⟩ gN.nd rfl rfl rfl (.inl c.mH) (fun a => aF (aV (i := 4) gN.nd rfl (Or.inl rfl) (cV (aA bV (aA (Bb (K := K) rfl (pv 5) rfl) (aA (bH (oR (K := K) rfl) rfl b.isi PyProof.Rows.boot_isinstance (aA (pv 5) (aA (cV (aA (gV rfl c.mF) (aA (gV rfl c.mN) (aA (gV rfl c.mR) aC)))) aC))) (aA (bH (qX (K := K) rfl) rfl b.isi PyProof.Rows.boot_isinstance (aA (pv 5) (aA (gV rfl c.mO) aC))) aC)))))))
      (Mu (j := 5) ⟨rfl, rfl, rfl⟩ gN.nd rfl rfl rfl (.inl c.mN) (fun a => aF (aV (i := 4) gN.nd rfl (Or.inl rfl) (cV (aA bV (aA aG (aA (bH (Am (K := K) rfl) rfl b.isi PyProof.Rows.boot_isinstance (aA (pv 5) (aA (cV (aA (gV rfl c.mF) (aA (gV rfl c.mH) (aA (gV rfl c.mR) aC)))) aC))) (aA (bH (Dp (K := K) rfl) rfl b.isi PyProof.Rows.boot_isinstance (aA (pv 5) (aA (gV rfl c.mO) aC))) aC)))))))
      Md))))
    (aF (aX (pv 4))))), ?_⟩
  try dsimp only
  refine ⟨_, rfl, _, rfl, ?_⟩
  cases bw with
  | true =>
   refine cT ?_
   · rcases h with ⟨u, hu, qu⟩ | ⟨b', es, X, cs, rfl, hb, ge, nh, le, TV, SV, fh, q0, q1⟩
     · cases u with
       | np =>
         refine ⟨_, rfl, _, rfl, _, rfl, n, l, hA, m, ds, _, zh, rfl, nt, nb, hh, .inl ⟨hu, fun H1 s1 => ?_⟩⟩;intro a ha;refine ⟨false, c.ePF, ?_⟩;rw [if_neg (by decide)];refine ⟨false, c.ePH, ?_⟩;rw [if_neg (by decide)];refine ⟨true, c.ePP, ?_⟩;rw [if_pos rfl];have sa := aD ha (dM a (.ref CP) none);have ea : upd H1 a (dM a (.ref CP) none) a = some (dM a (.ref CP) none) := aB;generalize upd H1 a (dM a (.ref CP) none) = H2 at sa ea ⊢;refine ⟨_, rfl, by show 3 <= sizeLine; decide, fun p hp => ?_⟩;have s2 := aD hp (.tup [.ref CF, .ref CH, .ref CG]);refine ⟨a, CP, p, [CF, CH, CG], false, rfl, s2 _ _ ea, c.xP, aB, c.tP, ?_⟩;have ea3 := s2 _ _ ea;generalize upd H2 p (.tup [.ref CF, .ref CH, .ref CG]) = H3 at s2 ea3 ⊢;refine ⟨_, rfl, a, CP, _, _, true, rfl, ea3, c.xP, rfl, fun _ h => h, c.oP, by show 4 <= sizeLine; decide, fun t ht => ?_⟩;have s4 := aD ht (.tup [.str "no point", .int 0, .bl false, .bl true]);have e4 : upd H3 t (.tup [.str "no point", .int 0, .bl false, .bl true]) t = some (.tup [.str "no point", .int 0, .bl false, .bl true]) := aB;generalize upd H3 t (.tup [.str "no point", .int 0, .bl false, .bl true]) = H4 at s4 e4 ⊢;have s04 := s1.trans (sa.trans (s2.trans s4));exact ⟨_, rfl, qu t H4 s04 e4⟩
       | hd i =>
         obtain ⟨b', es, rfl, hb, ge, fi⟩ := hu;refine ⟨_, rfl, _, rfl, _, rfl, n, l, hA, m, ds, _, zh, rfl, nt, nb, hh, .inr ⟨b', es, rfl, hb, ge, fun j fj dx H1 s1 ed => ?_, fun nh _ => (iS fi nh).elim, fun nh _ => (iS fi nh).elim⟩⟩;have ij := Hl fj fi;subst ij;intro a ha;refine ⟨false, c.eHF, ?_⟩;rw [if_neg (by decide)];refine ⟨true, c.eHH, ?_⟩;rw [if_pos rfl];have sa := aD ha (dM a (.ref CH) (some dx));have ea : upd H1 a (dM a (.ref CH) (some dx)) a = some (dM a (.ref CH) (some dx)) := aB;generalize upd H1 a (dM a (.ref CH) (some dx)) = H2 at sa ea ⊢;have ed2 := sa _ _ ed;refine ⟨_, rfl, a, CH, dx, _, _, rfl, ea, ed2, c.xH, c.dH, c.nH, rfl, ?_⟩;refine ⟨_, rfl, by show 3 <= sizeLine; decide, fun p hp => ?_⟩;have s2 := aD hp (.tup [.ref CF, .ref CP, .ref CG]);refine ⟨a, CH, dx, _, p, [CF, CP, CG], false, rfl, s2 _ _ ea, s2 _ _ ed2, c.xH, aB, c.tH, ?_⟩;have ea3 := s2 _ _ ea;have ed3 := s2 _ _ ed2;generalize upd H2 p (.tup [.ref CF, .ref CP, .ref CG]) = H3 at s2 ea3 ed3 ⊢;refine ⟨_, rfl, a, CH, dx, _, _, _, true, rfl, ea3, ed3, c.xH, rfl, fun _ h => h, c.oH, by show 4 <= sizeLine; decide, fun t ht => ?_⟩;have s4 := aD ht (.tup [.str "held", .int (j : Int), .bl false, .bl true]);have e4 : upd H3 t (.tup [.str "held", .int (j : Int), .bl false, .bl true]) t = some (.tup [.str "held", .int (j : Int), .bl false, .bl true]) := aB;generalize upd H3 t (.tup [.str "held", .int (j : Int), .bl false, .bl true]) = H4 at s4 e4 ⊢;have s04 := s1.trans (sa.trans (s2.trans s4));exact ⟨_, rfl, qu t H4 s04 e4⟩
       | fl ps =>
         obtain ⟨b', es, rfl, hb, ge, nh, rfl, ne⟩ := hu;refine ⟨_, rfl, _, rfl, _, rfl, n, l, hA, m, ds, _, zh, rfl, nt, nb, hh, .inr ⟨b', es, rfl, hb, ge, fun j fj => (iS fj nh).elim, fun _ _ dx l1 H1 s1 ed e1 => ?_, fun _ z => absurd z ne⟩⟩;intro a ha;refine ⟨true, c.eFF, ?_⟩;rw [if_pos rfl];have sa := aD ha (dM a (.ref CF) (some dx));have ea : upd H1 a (dM a (.ref CF) (some dx)) a = some (dM a (.ref CF) (some dx)) := aB;generalize upd H1 a (dM a (.ref CF) (some dx)) = H2 at sa ea ⊢;have ed2 := sa _ _ ed;refine ⟨_, rfl, a, CF, dx, _, _, rfl, ea, ed2, c.xF, c.dF, c.nF, rfl, ?_⟩;refine ⟨_, rfl, by show 3 <= sizeLine; decide, fun p hp => ?_⟩;have s2 := aD hp (.tup [.ref CH, .ref CP, .ref CG]);refine ⟨a, CF, dx, _, p, [CH, CP, CG], false, rfl, s2 _ _ ea, s2 _ _ ed2, c.xF, aB, c.tF, ?_⟩;have ea3 := s2 _ _ ea;have ed3 := s2 _ _ ed2;generalize upd H2 p (.tup [.ref CH, .ref CP, .ref CG]) = H3 at s2 ea3 ed3 ⊢;refine ⟨_, rfl, a, CF, dx, _, _, _, true, rfl, ea3, ed3, c.xF, rfl, fun _ h => h, c.oF, by show 4 <= sizeLine; decide, fun t ht => ?_⟩;have s4 := aD ht (.tup [.str "floats", .ref l1, .bl false, .bl true]);have e4 : upd H3 t (.tup [.str "floats", .ref l1, .bl false, .bl true]) t = some (.tup [.str "floats", .ref l1, .bl false, .bl true]) := aB;generalize upd H3 t (.tup [.str "floats", .ref l1, .bl false, .bl true]) = H4 at s4 e4 ⊢;have s04 := s1.trans (sa.trans (s2.trans s4));exact ⟨_, rfl, qu t H4 s04 ⟨l1, (sa.trans (s2.trans s4)) _ _ e1, e4⟩⟩
     · refine ⟨_, rfl, _, rfl, _, rfl, n, l, hA, m, ds, _, zh, rfl, nt, nb, hh, .inr ⟨b', es, rfl, hb, ge, fun j fj => (iS fj nh).elim, fun _ z => absurd le z, fun _ _ => ⟨X, cs, 17, 17, 23, 35, TV, by decide, SV, fh, fun l2 zs ps H1 s1 e1 f1 lp hp => ⟨_, rfl, q1 rfl l2 zs ps H1 s1 e1 f1 lp hp⟩⟩⟩⟩
  | false =>
   refine eH ?_
   · rcases h with ⟨u, hu, qu⟩ | ⟨b', es, X, cs, rfl, hb, ge, nh, le, TV, SV, fh, q0, q1⟩
     · cases u with
       | np =>
         refine ⟨_, rfl, _, rfl, n, l, m, ds, _, rfl, nt, nb, .inl ⟨hu, fun H1 s1 => ?_⟩⟩;intro a ha;refine ⟨false, c.ePF, ?_⟩;rw [if_neg (by decide)];refine ⟨false, c.ePH, ?_⟩;rw [if_neg (by decide)];refine ⟨true, c.ePP, ?_⟩;rw [if_pos rfl];have sa := aD ha (dM a (.ref CP) none);have ea : upd H1 a (dM a (.ref CP) none) a = some (dM a (.ref CP) none) := aB;generalize upd H1 a (dM a (.ref CP) none) = H2 at sa ea ⊢;refine ⟨_, rfl, by show 3 <= sizeLine; decide, fun p hp => ?_⟩;have s2 := aD hp (.tup [.ref CF, .ref CH, .ref CG]);refine ⟨a, CP, p, [CF, CH, CG], false, rfl, s2 _ _ ea, c.xP, aB, c.tP, ?_⟩;have ea3 := s2 _ _ ea;generalize upd H2 p (.tup [.ref CF, .ref CH, .ref CG]) = H3 at s2 ea3 ⊢;refine ⟨_, rfl, a, CP, _, _, true, rfl, ea3, c.xP, rfl, fun _ h => h, c.oP, by show 4 <= sizeLine; decide, fun t ht => ?_⟩;have s4 := aD ht (.tup [.str "no point", .int 0, .bl false, .bl true]);have e4 : upd H3 t (.tup [.str "no point", .int 0, .bl false, .bl true]) t = some (.tup [.str "no point", .int 0, .bl false, .bl true]) := aB;generalize upd H3 t (.tup [.str "no point", .int 0, .bl false, .bl true]) = H4 at s4 e4 ⊢;have s04 := s1.trans (sa.trans (s2.trans s4));exact ⟨_, rfl, qu t H4 s04 e4⟩
       | hd i =>
         obtain ⟨b', es, rfl, hb, ge, fi⟩ := hu;refine ⟨_, rfl, _, rfl, n, l, m, ds, _, rfl, nt, nb, .inr ⟨b', es, rfl, hb, ge, fun j fj dx H1 s1 ed => ?_, fun nh _ => (iS fi nh).elim, fun nh _ => (iS fi nh).elim⟩⟩;have ij := Hl fj fi;subst ij;intro a ha;refine ⟨false, c.eHF, ?_⟩;rw [if_neg (by decide)];refine ⟨true, c.eHH, ?_⟩;rw [if_pos rfl];have sa := aD ha (dM a (.ref CH) (some dx));have ea : upd H1 a (dM a (.ref CH) (some dx)) a = some (dM a (.ref CH) (some dx)) := aB;generalize upd H1 a (dM a (.ref CH) (some dx)) = H2 at sa ea ⊢;have ed2 := sa _ _ ed;refine ⟨_, rfl, a, CH, dx, _, _, rfl, ea, ed2, c.xH, c.dH, c.nH, rfl, ?_⟩;refine ⟨_, rfl, by show 3 <= sizeLine; decide, fun p hp => ?_⟩;have s2 := aD hp (.tup [.ref CF, .ref CP, .ref CG]);refine ⟨a, CH, dx, _, p, [CF, CP, CG], false, rfl, s2 _ _ ea, s2 _ _ ed2, c.xH, aB, c.tH, ?_⟩;have ea3 := s2 _ _ ea;have ed3 := s2 _ _ ed2;generalize upd H2 p (.tup [.ref CF, .ref CP, .ref CG]) = H3 at s2 ea3 ed3 ⊢;refine ⟨_, rfl, a, CH, dx, _, _, _, true, rfl, ea3, ed3, c.xH, rfl, fun _ h => h, c.oH, by show 4 <= sizeLine; decide, fun t ht => ?_⟩;have s4 := aD ht (.tup [.str "held", .int (j : Int), .bl false, .bl true]);have e4 : upd H3 t (.tup [.str "held", .int (j : Int), .bl false, .bl true]) t = some (.tup [.str "held", .int (j : Int), .bl false, .bl true]) := aB;generalize upd H3 t (.tup [.str "held", .int (j : Int), .bl false, .bl true]) = H4 at s4 e4 ⊢;have s04 := s1.trans (sa.trans (s2.trans s4));exact ⟨_, rfl, qu t H4 s04 e4⟩
       | fl ps =>
         obtain ⟨b', es, rfl, hb, ge, nh, rfl, ne⟩ := hu;refine ⟨_, rfl, _, rfl, n, l, m, ds, _, rfl, nt, nb, .inr ⟨b', es, rfl, hb, ge, fun j fj => (iS fj nh).elim, fun _ _ dx l1 H1 s1 ed e1 => ?_, fun _ z => absurd z ne⟩⟩;intro a ha;refine ⟨true, c.eFF, ?_⟩;rw [if_pos rfl];have sa := aD ha (dM a (.ref CF) (some dx));have ea : upd H1 a (dM a (.ref CF) (some dx)) a = some (dM a (.ref CF) (some dx)) := aB;generalize upd H1 a (dM a (.ref CF) (some dx)) = H2 at sa ea ⊢;have ed2 := sa _ _ ed;refine ⟨_, rfl, a, CF, dx, _, _, rfl, ea, ed2, c.xF, c.dF, c.nF, rfl, ?_⟩;refine ⟨_, rfl, by show 3 <= sizeLine; decide, fun p hp => ?_⟩;have s2 := aD hp (.tup [.ref CH, .ref CP, .ref CG]);refine ⟨a, CF, dx, _, p, [CH, CP, CG], false, rfl, s2 _ _ ea, s2 _ _ ed2, c.xF, aB, c.tF, ?_⟩;have ea3 := s2 _ _ ea;have ed3 := s2 _ _ ed2;generalize upd H2 p (.tup [.ref CH, .ref CP, .ref CG]) = H3 at s2 ea3 ed3 ⊢;refine ⟨_, rfl, a, CF, dx, _, _, _, true, rfl, ea3, ed3, c.xF, rfl, fun _ h => h, c.oF, by show 4 <= sizeLine; decide, fun t ht => ?_⟩;have s4 := aD ht (.tup [.str "floats", .ref l1, .bl false, .bl true]);have e4 : upd H3 t (.tup [.str "floats", .ref l1, .bl false, .bl true]) t = some (.tup [.str "floats", .ref l1, .bl false, .bl true]) := aB;generalize upd H3 t (.tup [.str "floats", .ref l1, .bl false, .bl true]) = H4 at s4 e4 ⊢;have s04 := s1.trans (sa.trans (s2.trans s4));exact ⟨_, rfl, qu t H4 s04 ⟨l1, (sa.trans (s2.trans s4)) _ _ e1, e4⟩⟩
     · refine ⟨_, rfl, _, rfl, n, l, m, ds, _, rfl, nt, nb, .inr ⟨b', es, rfl, hb, ge, fun j fj => (iS fj nh).elim, fun _ z => absurd le z, fun _ _ => ⟨X, cs, 17, 17, TV, fun t Y ys H1 s1 T1 => ⟨_, rfl, q0 rfl t Y ys H1 s1 T1⟩⟩⟩⟩
theorem NoL.same {K:Frag}{H H':Hp}{x:V}(s:aK H H')(h:NoL K H x):NoL K H' x:=by
 obtain⟨t,a,b⟩:=h;exact⟨t,a.same s,b⟩
theorem Bv.same {K:Frag}{H H':Hp}{m:Nat}{x:V}(s:aK H H')(h:Bv K H m x):Bv K H' m x:=by
 rcases h with h | ⟨b,xs,rfl,h,l,a,q⟩
 ·exact .inl (h.same s)
 ·exact .inr ⟨b,xs,rfl,s.seq h,l,fun y hy=>(a y hy).same s,q⟩
theorem Iw.same {K:Frag}{H H':Hp}{m:Nat}{ds:List RD}{x:V}{u:Du}(s:aK H H')(h:Iw K H m ds x u):Iw K H' m ds x u:=by
 cases u with
 |np=>exact Bv.same s h
 |hd i=>obtain⟨b,es,rfl,hb,g,f⟩:=h;exact⟨b,es,rfl,s _ _ hb,g,f⟩
 |fl ps=>obtain⟨b,es,rfl,hb,g,f⟩:=h;exact⟨b,es,rfl,s _ _ hb,g,f⟩
theorem Du.at.same {H H':Hp}{t:Addr}{xs:List V}{u:Du}(s:aK H H')(h:u.at H t xs):u.at H' t xs:=by
 cases u with
 |np=>exact s _ _ h
 |hd i=>exact s _ _ h
 |fl ps=>obtain⟨l,a,b⟩:=h;exact⟨l,s _ _ a,s _ _ b⟩
theorem Sl {K:Frag}{H:Hp}{m:Nat}{ds:List RD}{x:V}{u:Du}(m8:m<=8)(h:Iw K H m ds x u):∃t b,TyQ K H x t/\W.kitOne K t (.type "list")=some b/\(b=true->∃a xs,x=.ref a/\SqL K H a xs/\xs.length<=60):=by
 have good:∀(b:Addr) (es:List Nat),x=.ref b->H b=some (.lst ((ups es).map V.int))->kF m es->∃t b,TyQ K H x t/\W.kitOne K t (.type "list")=some b/\(b=true->∃a xs,x=.ref a/\SqL K H a xs/\xs.length<=60):=fun b es ex hb g=>by
  subst ex;exact⟨_,true,.lst (SqL.of hb),rfl,fun _=>⟨b,_,rfl,SqL.of hb,by have:=(kP g).2;rw[length_map,length_map];lia⟩⟩
 cases u with
 |np=>
  rcases h with ⟨t,a,b⟩ | ⟨b,xs,rfl,h,l,a,q⟩
  ·exact⟨t,false,a,b,fun z=>by cases z⟩
  ·exact⟨_,true,.lst h,rfl,fun _=>⟨b,xs,rfl,h,l⟩⟩
 |hd i=>obtain⟨b,es,rfl,hb,g,f⟩:=h;exact good b es rfl hb g
 |fl ps=>obtain⟨b,es,rfl,hb,g,f⟩:=h;exact good b es rfl hb g
def Du.dat:Du->PyData
 | .np=>.tuple [.str "no point",.int 0,.bool false,.bool true]
 | .hd i=>.tuple [.str "held",.int (i:Int),.bool false,.bool true]
 | .fl ps=>.tuple [.str "floats",.list ((ups ps).map PyData.int),.bool false,.bool true]
def Du.wd:Du->Str
 | .np=>"no point"
 | .hd _=>"held"
 | .fl _=>"floats"
theorem Du.lay (u:Du):u.dat.canLay0=true:=by
 cases u with
 |np=>decide +kernel
 |hd i=>
  show ((PyData.str "held").canLay0 && ((PyData.int i).canLay0 && ((PyData.bool false).canLay0 && ((PyData.bool true).canLay0 && true))))=true;rw[show (PyData.str "held").canLay0=true by decide +kernel];rfl
 |fl ps=>
  show ((PyData.str "floats").canLay0 && (PyData.canLayAll0 ((ups ps).map PyData.int) && ((PyData.bool false).canLay0 && ((PyData.bool true).canLay0 && true))))=true;rw[show (PyData.str "floats").canLay0=true by decide +kernel,pK];rfl
theorem qY:∀ns:List Int,PyData.depthAll (ns.map PyData.int)<=1
 | []=>by simp[PyData.depthAll]
 |n :: r=>by
  have h:=qY r;simp only[map_cons,PyData.depthAll,PyData.depth];lia
theorem Du.dep (u:Du):u.dat.depth<=16:=by
 cases u with
 |np=>simp[Du.dat,PyData.depth,PyData.depthAll]
 |hd i=>simp[Du.dat,PyData.depth,PyData.depthAll]
 |fl ps=>
  have h:=qY (ups ps);simp only[Du.dat,PyData.depth,PyData.depthAll];lia
theorem Du.datV {K:Frag}{H:Hp}{t:Addr}{u:Du}(h:u.at H t [.bl false,.bl true]):mE K H (.ref t) u.dat:=by
 cases u with
 |np=>exact .tup (SqT.of h) (.cons (.str _) (.cons (.int _) (.cons (.bl _) (.cons (.bl _) .nil))))
 |hd i=>exact .tup (SqT.of h) (.cons (.str _) (.cons (.int _) (.cons (.bl _) (.cons (.bl _) .nil))))
 |fl ps=>obtain⟨l,a,b⟩:=h;exact .tup (SqT.of b) (.cons (.str _) (.cons (.lst (SqL.of a) (pD _)) (.cons (.bl _) (.cons (.bl _) .nil))))
theorem Du.parts {H:Hp}{t:Addr}{ys:List V}{u:Du}(h:u.at H t ys):∃v,H t=some (.tup (.str u.wd :: v :: ys))/\(∀i,u=.hd i->v=.int (i:Int))/\∀H' p,aK H H'->H' p=some (.tup (.str u.wd :: v :: [.bl false,.bl true]))->u.at H' p [.bl false,.bl true]:=by
 cases u with
 |np=>exact⟨_,h,(fun i z=>by cases z),fun H' p s e=>e⟩
 |hd i=>exact⟨_,h,(fun i z=>by cases z;rfl),fun H' p s e=>e⟩
 |fl ps=>obtain⟨l,a,b⟩:=h;exact⟨_,b,(fun i z=>by cases z),fun H' p s e=>⟨l,s _ _ a,e⟩⟩
theorem Rh (u:Du):decide (V.str u.wd=V.str "held")=true->∃i,u=.hd i:=fun h=>by
 cases u with
 |np=>exact absurd (of_decide_eq_true h) (by intro z;injection z with z;exact absurd z (by decide))
 |hd i=>exact⟨i,rfl⟩
 |fl ps=>exact absurd (of_decide_eq_true h) (by intro z;injection z with z;exact absurd (show ("floats":Str) = "held" from z) (by decide))
def Nr (CN:Addr)(K:Frag):Sp:=fun vs H Q _=>∃(n l tD:Addr) (m:Nat) (ds:List RD) (x:V) (u:Du),vs=[.ref n,x,.ref tD]/\eJ CN K H n l (m:Int) ds/\rM m ds/\Iw K H m ds x u/\u.at H tD []/\∀H',aK H H'->Q (.bl true) H'
abbrev Mi:Stmt:=top 78
theorem uZ:aQ ["_law_net_here","_law_ends","_law_due","_law_many","_law_backwards","_law_found"] ["_law_net_here","_law_ends","_law_due"] (aH Mi):=sK9 rfl rfl rfl rfl (by decide +kernel)
theorem Qv {dV:Value}(F:aU K "_law_both" "_law_both" Mi dV f fd){CN CT:Addr}(b:Bl mg)(mli:mg "list"=none)(ml:mg "len"=none)(mt:mg "tuple"=none)(G1:aJ P w K mg base CX0 10 g1 gd1 ["_law_net_here","_law_ends","_law_heights","_law_backwards"] (xL CN CT K))(b1:aP K gd1 ["_law_net_here","_law_ends","_law_heights","_law_backwards"] [])(k1:kI9 K g1)(m1:mI9 mg "_law_asked" g1)(G2:aJ P w K mg base CX0 1 g2 gd2 ["_law_found"] Gp)(b2:aP K gd2 ["_law_found"] [])(k2:kI9 K g2)(m2:mI9 mg "_law_an_int" g2) :
  aJ P w K mg base CX 11 f fd ["_law_net_here","_law_ends","_law_due"] (Nr CN K):=by
 refine F.ok uZ (fun vs H Q E h=>?_) fun cdv A outer s H vs Q E hr h=>?_
 ·obtain⟨_,_,_,_,_,_,_,rfl,_⟩:=h;rfl
 obtain⟨n,l,tD,m,ds,x,u,rfl,nt,nb,hU,hD,q⟩:=h;have hu:=hr.units;have r1:=hr.mono (show 1<=10 by lia);have r10:=hr;refine⟨_,(aE (aV (i:=3) uZ.nd rfl (Or.inl rfl) aG)
  (aE (cS (cY (fG (i:=1) rfl (Or.inl rfl) b.isi mli rfl rfl PyProof.Rows.boot_list)) (aF (aV (i:=3) uZ.nd rfl (Or.inl rfl) (bH bD rfl ml PySem.boot_len (aA (pv 1) aC)))) bM)
  (aE (dP PassesOwn.never rfl (bO (cX (aA fM (aA fM aC)))) (aR (i:=4) uZ.nd rfl (Or.inl rfl))
   (aE (aV (i:=5) uZ.nd rfl (Or.inl rfl) (aI G1 r10 rfl m1 k1 b1 .nil aS (aA (pv 0) (aA (pv 1) (aA (aZ nB (cX (aA (cV (aA aG (aA aG aC))) aC)) (pv 3)) (aA (pv 4) aC))))))
  (aE (cS (PW.pt (mX (fA (cY (fG (i:=5) rfl (Or.inl rfl) b.isi mt rfl rfl PyProof.Rows.boot_tuple))) (nJ (bK (Yt hu) (pv 5) (aZ Tu (pv 2) (cV (aA fM (aA fM aC)))) (bN _))))) (aF (aX fM)) bM)
  (aF (cS (PW.pt (pS (bK gQ (aY bC (pv 2) aG (fun _ _=>rfl)) bV (bN _)) (lS (fA (cY (aI G2 r1 rfl m2 k2 b2 .nil aS (aA (aY bC (pv 5) aG (fun _ _=>rfl)) aC))))))) (aF (aX fM)) bM)))))
  (aF (aX fM))))),?_⟩
 try dsimp only
 obtain⟨ty,bb,h1,h2,h3⟩:=Sl nb.m8 hU;refine Zh (fun σ' H'=>H'=H/\∃N:Nat,N<=60/\σ'=[some (.ref n),some x,some (.ref tD),some (.int (N:Int)),none,none]) (fun X hX=>?_) ?_
 ·refine⟨_,ty,bb,rfl,h1,h2,_,rfl,?_⟩
  cases bb with
  |false=>exact L2.ifF rfl (hX _ _ ⟨rfl,1,by decide,rfl⟩)
  |true=>
   obtain⟨a,xs,rfl,hx,l60⟩:=h3 rfl;exact L2.ifT rfl ⟨_,rfl,a,xs,rfl,.inl hx,hX _ _ ⟨rfl,xs.length,l60,rfl⟩⟩
 rintro σ1 H1 ⟨rfl,N,hN,rfl⟩;refine⟨zl9 2,fun L hL=>?_⟩;have s1:=aD hL (.lst [.bl false,.bl true]);have e1:upd H1 L (.lst [.bl false,.bl true]) L=some (.lst [.bl false,.bl true]):=aB;generalize upd H1 L (.lst [.bl false,.bl true])=H2 at s1 e1 ⊢;refine⟨L,rfl,⟨_,SqL.of e1⟩,?_⟩;refine dW (xs:=[.bl false,.bl true]) (fun i σ H'=>aK H2 H'/\∃z4 z5:Option V,σ=[some (.ref n),some x,some (.ref tD),some (.int (N:Int)),z4,z5]) ⟨aK.refl _,_,_,rfl⟩ (fun i σ H' _ h=>h.1.seq (SqL.of e1)) ?_ ?_
 ·rintro i y σ H3 hy ⟨s3,z4,z5,rfl⟩;obtain⟨bw,rfl⟩:∃bw,y=.bl bw:=by
   match i,hy with
   |0,hy=>cases hy;exact⟨_,rfl⟩
   |1,hy=>cases hy;exact⟨_,rfl⟩
   |k+2,hy=>cases hy
  have s03:=s1.trans s3;refine fU (fun σ' H'=>aK H3 H'/\∃t:Addr,σ'=[some (.ref n),some x,some (.ref tD),some (.int (N:Int)),some (.bl bw),some (.ref t)]/\u.at H' t [.bl false,.bl true]) (fun X hX=>?_) ?_
  ·refine⟨_,rfl,_,rfl,zl9 2,fun p hp=>?_⟩;have s4:=aD hp (.tup [.int 5,.int 7]);have e4:SqT K (upd H3 p (.tup [.int 5,.int 7])) p [.int 5,.int 7]:=SqT.of aB;generalize upd H3 p (.tup [.int 5,.int 7])=H4 at s4 e4 ⊢;refine⟨zl9 1,fun l1 hl1=>?_⟩;have s5:=aD hl1 (.lst [.ref p]);have e5:upd H4 l1 (.lst [.ref p]) l1=some (.lst [.ref p]):=aB;generalize upd H4 l1 (.lst [.ref p])=H5 at s5 e5 ⊢;refine⟨_,rfl,l1,(N:Int),[.ref p],rfl,rfl,e5,by lia,by lia,?_,fun A hA=>?_⟩
   ·rw[Int.toNat_natCast,sizeLine_eq];simp only[length_cons,length_nil];lia
   rw[Int.toNat_natCast,gO];have s6:=aD hA (.lst (replicate N (.ref p)));have e6:upd H5 A (.lst (replicate N (.ref p))) A=some (.lst (replicate N (.ref p))):=aB;generalize upd H5 A (.lst (replicate N (.ref p)))=H6 at s6 e6 ⊢;have s36:=s4.trans (s5.trans s6);refine⟨_,rfl,n,l,A,m,ds,x,_,bw,rfl,nt.same (s03.trans s36),nb,SqL.of e6,.inl ⟨u,hU.same (s03.trans s36),fun t H7 s7 e7=>?_⟩⟩;exact hX _ _ ⟨s36.trans s7,t,rfl,e7⟩
  rintro σ4 H4 ⟨s4,t,rfl,e4⟩;obtain⟨v,et,ei,_⟩:=Du.parts e4;obtain⟨v',eD,_,ep⟩:=Du.parts (Du.at.same (s03.trans s4) hD);refine fU (fun σ' H'=>aK H4 H'/\σ'=[some (.ref n),some x,some (.ref tD),some (.int (N:Int)),some (.bl bw),some (.ref t)]) (fun X hX=>?_) ?_
  ·refine⟨_,_,true,rfl,.tup (SqT.of et),rfl,_,rfl,eH ?_⟩;refine⟨_,rfl,_,rfl,zl9 2,fun p hp=>?_⟩;have s5:=aD hp (.tup [.bl false,.bl true]);have e5:SqT K (upd H4 p (.tup [.bl false,.bl true])) p [.bl false,.bl true]:=SqT.of aB;generalize upd H4 p (.tup [.bl false,.bl true])=H5 at s5 e5 ⊢;refine⟨tD,p,_,_,rfl,rfl,SqT.of (s5 _ _ eD),e5,(fun z=>by cases z),zl9 4,(fun z=>by cases z),fun _ c hc=>?_⟩;have s6:=aD hc (.tup ([.str u.wd,v']++[.bl false,.bl true]));have e6:=ep _ c (s5.trans s6) aB;generalize upd H5 c (.tup ([.str u.wd,v']++[.bl false,.bl true]))=H6 at s6 e6 ⊢;refine Fd (neg:=true) (Du.datV (Du.at.same (s5.trans s6) e4)) (Du.datV e6) u.lay u.dep ⟨_,rfl,eH ?_⟩;exact hX _ _ ⟨s5.trans s6,rfl⟩
  rintro σ5 H5 ⟨s5,rfl⟩;refine⟨_,rfl,tD,_,_,_,rfl,rfl,SqT.of (s5 _ _ eD),rfl,rfl,_,rfl,?_⟩
  cases ch:decide (V.str u.wd=V.str "held") with
  |false=>exact L2.ifF rfl ⟨s3.trans (s4.trans s5),_,_,rfl⟩
  |true=>
   obtain⟨j,hj⟩:=Rh u ch;have ev:=ei j hj;subst ev;refine L2.ifT rfl ?_;refine⟨_,rfl,t,_,_,_,rfl,rfl,SqT.of (s5 _ _ et),rfl,_,rfl,_,rfl,eH ?_⟩;exact⟨s3.trans (s4.trans s5),_,_,rfl⟩
 ·rintro σ H3 ⟨s3,z4,z5,rfl⟩;exact q H3 (s1.trans s3)
theorem Kt {xs:List V}{r:Int}(h0:0<=r)(h1:r < (xs.length:Int)):∃w∈xs,atI xs r=some w:=by
 have hi:r.toNat < xs.length:=by lia
 refine⟨xs[r.toNat],getElem_mem hi,?_⟩;have:=cH (xs:=xs) (j:=r.toNat) (getElem?_eq_getElem hi)
 rwa [show ((r.toNat:Nat):Int)=r by lia] at this
theorem Yb {es:List Nat}(h:es≠[]):∃e∈es,jR ((ups es).map V.int) none (some 1)=[.int (e:Int)]:=by
 cases es with
 |nil=>exact absurd rfl h
 |cons e r=>
  refine⟨e,mem_cons_self ..,?_⟩;unfold jR;simp[HT.sIx]
theorem Ah {es:List Nat}(h:es≠[])(h2:es.length<=2):∃e∈es,atI ((ups es).map V.int) (-1)=some (.int (e:Int)):=by
 match es,h,h2 with
 | [e],_,_=>exact⟨e,by simp,rfl⟩
 | [e,g],_,_=>exact⟨g,by simp,rfl⟩
theorem zM {K:Frag}{H:Hp}(ns:List Int):∀y∈ns.map V.int,yM K H y:=fun y hy=>by
 obtain⟨j,_,rfl⟩:=mem_map.mp hy;exact .inl ⟨j,rfl⟩
theorem Hw {K:Frag}{H:Hp}{m:Nat}{l:Addr}{ns:List Int}(h:H l=some (.lst (ns.map V.int)))(h60:ns.length<=60)(nd:¬ns.Nodup):Bv K H m (.ref l):=
 .inr ⟨l,_,rfl,SqL.of h,by rw[length_map];exact h60,zM ns,.inr (.inr ⟨ns,rfl,nd⟩)⟩
def Ur (K:Frag):Sp:=fun vs H Q _=>∃(a b:Addr) (ns:List Int) (m:Nat) (es:List Nat),vs=[.ref a,.int (m:Int),.ref b]/\SqL K H a (ns.map V.int)/\ns.length<=63/\H b=some (.lst ((ups es).map V.int))/\kF m es/\es.length<=2/\∀l xs H',aK H H'->H' l=some (.lst xs)->(∀x∈xs,Bv K H' m x)->xs.length<=5->Q (.ref l) H'
abbrev Xb:Stmt:=top 79
theorem Fo:aQ ["_law_script","_law_many","_law_ends","_law_wrong","_law_at","_law_none"] ["_law_script","_law_many","_law_ends"] (aH Xb):=sK9 rfl rfl rfl rfl (by decide +kernel)
theorem Wr {dV:Value}(F:aU K "_law_spoiled" "_law_spoiled" Xb dV f fd)(ml:mg "len"=none)(mt:mg "tuple"=none)(G1:aJ P w K mg base CX0 1 g1 gd1 ["_law_script","_law_k"] (Fj K))(b1:aP K gd1 ["_law_script","_law_k"] [])(k1:kI9 K g1)(m1:mI9 mg "_law_nth" g1) :
  aJ P w K mg base CX 2 f fd ["_law_script","_law_many","_law_ends"] (Ur K):=by
 refine F.ok Fo (fun vs H Q E h=>?_) fun cdv A outer s H vs Q E hr h=>?_
 ·obtain⟨_,_,_,_,_,rfl,_⟩:=h;rfl
 obtain⟨a,b,ns,m,es,rfl,hS,h63,hb,ge,h2,q⟩:=h;refine⟨_,(aE (aV (i:=3) Fo.nd rfl (Or.inl rfl) (aY cF (cX (aA (pv 1) (aA (sU nV aG) (aA fM (aA yT (aA (cV (aA aG (aA aG aC))) aC)))))) (aZ gE (aI G1 hr rfl m1 k1 b1 .nil aS (aA (pv 0) (aA aG aC))) aG) (fun _ _=>rfl)))
  (aE (aV (i:=4) Fo.nd rfl (Or.inl rfl) (aZ gE (aZ pA (aI G1 hr rfl m1 k1 b1 .nil aS (aA (pv 0) (aA aG aC))) aG) (aZ kW (bH bD rfl ml PySem.boot_len (aA (pv 2) aC)) aG)))
  (aE (aV (i:=5) Fo.nd rfl (Or.inl rfl) (aY cF (cX (aA (dL mI rfl mt PyProof.Rows.boot_tuple (aA (pv 2) aC)) (aA yT (aA (aZ uJ (pv 1) aG) (aA bV (aA (Hn (kQ aG aG Ha) rfl rfl (by simp) (by decide)) aC)))))) (aZ gE (aZ pA (aI G1 hr rfl m1 k1 b1 .nil aS (aA (pv 0) (aA aG aC))) aG) aG) (fun _ _=>rfl)))
  (aF (aX (cX (aA (cX aC) (aA (aZ nX (pv 2) (gA iV (pv 2) jS (fY aG))) (aA (aZ nX (aZ nX (gA iV (pv 2) jS (fY (pv 4))) (cX (aA (pv 3) aC))) (gA iV (pv 2) (fY (pv 4)) jS)) (aA (aZ nX (cX (aA (aY cF (pv 2) (sU nV aG) (fun _ _=>rfl)) aC)) (pv 2)) (aA (pv 5) aC))))))))))),?_⟩
 try dsimp only
 have e1:=ge.ne;have l1:1<=es.length:=(kP ge).1;have lu:((ups es).map V.int).length=es.length:=by rw[length_map,length_map]
 refine fU (fun σ' H'=>aK H H'/\∃w:V,σ'=[some (.ref a),some (.int (m:Int)),some (.ref b),some w,none,none]/\yM K H' w/\rO (m:Int) w=false) (fun X hX=>?_) ?_
 ·refine⟨_,rfl,1,rfl,zl9 2,fun p hp=>?_⟩;have s1:=aD hp (.tup [.int 0,.int 1]);have ep:upd H p (.tup [.int 0,.int 1]) p=some (.tup [.int 0,.int 1]):=aB;generalize upd H p (.tup [.int 0,.int 1])=H1 at s1 ep ⊢;refine⟨zl9 5,fun L hL=>?_⟩;have s2:=aD hL (.lst [.int (m:Int),.int (-1),.bl true,.non,.ref p]);have eL:upd H1 L (.lst [.int (m:Int),.int (-1),.bl true,.non,.ref p]) L=some (.lst [.int (m:Int),.int (-1),.bl true,.non,.ref p]):=aB;generalize upd H1 L (.lst [.int (m:Int),.int (-1),.bl true,.non,.ref p])=H2 at s2 eL ⊢;refine⟨_,rfl,a,ns,2,2,rfl,rfl,(s1.trans s2).seq hS,h63,by lia,fun v H3 s3=>?_⟩;obtain⟨w,hw,ew⟩:=Kt (xs:=[.int (m:Int),.int (-1),.bl true,.non,.ref p]) (Int.emod_nonneg v (show (5:Int)≠0 by decide)) (Int.emod_lt_of_pos v (show (0:Int) < 5 by decide));refine⟨_,_,rfl,rfl,(show (0:Int) < 5 by decide),L,_,_,_,rfl,rfl,SqL.of (s3 _ _ eL),ew,?_⟩;refine hX _ _ ⟨s1.trans (s2.trans s3),w,rfl,?_⟩;simp only[mem_cons,not_mem_nil,or_false] at hw;rcases hw with rfl | rfl | rfl | rfl | rfl
  ·exact⟨.inl ⟨_,rfl⟩,decide_eq_false (by lia)⟩
  ·exact⟨.inl ⟨_,rfl⟩,by show decide ((0:Int)<=-1/\(-1:Int) < m)=false;exact decide_eq_false (by lia)⟩
  ·exact⟨.inr ⟨_,.bl _,by simp[iD]⟩,rfl⟩
  ·exact⟨.inr ⟨_,.non,by simp[iD]⟩,rfl⟩
  ·exact⟨.inr ⟨_,.tup ((s2.trans s3) _ _ ep),by simp[iD]⟩,rfl⟩
 rintro σ1 H1 ⟨s1,w,rfl,hwA,hwP⟩;refine fU (fun σ' H'=>aK H H'/\∃k:Nat,σ'=[some (.ref a),some (.int (m:Int)),some (.ref b),some w,some (.int (k:Int)),none]/\k<=es.length/\yM K H' w) (fun X hX=>?_) ?_
 ·refine⟨_,rfl,a,ns,2,2,rfl,rfl,s1.seq hS,h63,by lia,fun v H3 s3=>?_⟩;have hp:(0:Int) < (((ups es).map V.int).length:Int)+1:=by lia
  have g0:=Int.emod_nonneg (v / 5) (show (((ups es).map V.int).length:Int)+1≠0 by lia);have g1:=Int.emod_lt_of_pos (v / 5) hp;obtain⟨k,hk⟩:∃k:Nat,v / 5 % ((((ups es).map V.int).length:Int)+1)=(k:Int):=⟨(v / 5 % ((((ups es).map V.int).length:Int)+1)).toNat,by lia⟩
  refine⟨_,_,rfl,rfl,⟨by decide,by decide⟩,_,rfl,b,_,rfl,.inl (SqL.of ((s1.trans s3) _ _ hb)),_,_,rfl,rfl,_,_,rfl,rfl,hp,?_⟩;refine hX _ _ ⟨s1.trans s3,k,?_,by lia,hwA.same s3⟩;rw[<- hk];rfl
 rintro σ2 H2 ⟨s2,k,rfl,hk,hwA2⟩;refine fU (fun σ' H'=>aK H2 H'/\∃x:V,σ'=[some (.ref a),some (.int (m:Int)),some (.ref b),some w,some (.int (k:Int)),some x]/\NoL K H' x) (fun X hX=>?_) ?_
 ·refine⟨_,rfl,b,_,rfl,.inl ⟨SqL.of (s2 _ _ hb),fun p hp=>?_⟩⟩;have s3:=aD hp (.tup ((ups es).map V.int));have e3:upd H2 p (.tup ((ups es).map V.int)) p=some (.tup ((ups es).map V.int)):=aB;generalize upd H2 p (.tup ((ups es).map V.int))=H3 at s3 e3 ⊢;refine⟨_,rfl,_,_,rfl,rfl,?_⟩;intro d hd;have s4:=aD hd (.dK []);have e4:upd H3 d (.dK []) d=some (.dK []):=aB;generalize upd H3 d (.dK [])=H4 at s4 e4 ⊢;refine⟨e4,[(.inl 0,.int 1)],rfl,by show 1<=15;decide,?_⟩;have e5:upd H4 d (.dK (iX [] [(.inl 0,.int 1)])) d=some (.dK (iX [] [(.inl 0,.int 1)])):=aB;have s5:aK H3 (upd H4 d (.dK (iX [] [(.inl 0,.int 1)]))):=s4.change hd;generalize upd H4 d (.dK (iX [] [(.inl 0,.int 1)]))=H5 at s5 e5 ⊢;refine⟨zl9 5,fun L hL=>?_⟩;have s6:=aD hL (.lst [.ref p,.non,.int ((m:Int) - 1),.str "0",.ref d]);have eL:upd H5 L (.lst [.ref p,.non,.int ((m:Int) - 1),.str "0",.ref d]) L=some (.lst [.ref p,.non,.int ((m:Int) - 1),.str "0",.ref d]):=aB;generalize upd H5 L (.lst [.ref p,.non,.int ((m:Int) - 1),.str "0",.ref d])=H6 at s6 eL ⊢;refine⟨_,rfl,a,ns,2,2,rfl,rfl,(s2.trans (s3.trans (s5.trans s6))).seq hS,h63,by lia,fun v H7 s7=>?_⟩;obtain⟨x,hx,ex⟩:=Kt (xs:=[.ref p,.non,.int ((m:Int) - 1),.str "0",.ref d]) (Int.emod_nonneg (v / 15) (show (5:Int)≠0 by decide)) (Int.emod_lt_of_pos (v / 15) (show (0:Int) < 5 by decide));refine⟨_,_,rfl,rfl,⟨by decide,by decide⟩,_,_,rfl,rfl,(show (0:Int) < 5 by decide),L,_,_,_,rfl,rfl,SqL.of (s7 _ _ eL),ex,?_⟩;refine hX _ _ ⟨s3.trans (s5.trans (s6.trans s7)),x,rfl,?_⟩;simp only[mem_cons,not_mem_nil,or_false] at hx;rcases hx with rfl | rfl | rfl | rfl | rfl
  ·exact⟨_,.of (.tup ((s5.trans (s6.trans s7)) _ _ e3)),(by with_unfolding_all rfl)⟩
  ·exact⟨_,.of .non,(by with_unfolding_all rfl)⟩
  ·exact⟨_,.of (.int _),(by with_unfolding_all rfl)⟩
  ·exact⟨_,.of (.str _),(by with_unfolding_all rfl)⟩
  ·exact⟨_,.of (.dK ((s6.trans s7) _ _ e5)),(by with_unfolding_all rfl)⟩
 rintro σ3 H3 ⟨s3,x,rfl,hx⟩;have s03:=s2.trans s3;have hb3:=s03 _ _ hb;have hw3:=hwA2.same s3;refine⟨zl9 0,fun l0 h0=>?_⟩;have t0:=aD h0 (.lst []);have f0:upd H3 l0 (.lst []) l0=some (.lst []):=aB;have hb4:=t0 _ _ hb3;generalize upd H3 l0 (.lst [])=H4 at t0 f0 hb4 ⊢;obtain⟨eh,mh,ch⟩:=Yb e1;refine⟨_,rfl,_,rfl,1,rfl,b,_,rfl,SqL.of hb4,fun q1 hq1=>?_⟩;rw[ch];have t1:=aD hq1 (.lst [.int (eh:Int)]);have f1:upd H4 q1 (.lst [.int (eh:Int)]) q1=some (.lst [.int (eh:Int)]):=aB;have hb5:=t1 _ _ hb4;generalize upd H4 q1 (.lst [.int (eh:Int)])=H5 at t1 f1 hb5 ⊢;refine⟨b,q1,_,_,rfl,rfl,hb5,f1,?_,fun q2 hq2=>?_⟩
 ·rw[lu,sizeLine_eq];simp only[length_cons,length_nil];lia
 rw[show (ups es).map V.int++[.int (eh:Int)]=(ups es++[(eh:Int)]).map V.int by rw[map_append];rfl];have t2:=aD hq2 (.lst ((ups es++[(eh:Int)]).map V.int));have f2:upd H5 q2 (.lst ((ups es++[(eh:Int)]).map V.int)) q2=some (.lst ((ups es++[(eh:Int)]).map V.int)):=aB;have hb6:=t2 _ _ hb5;generalize upd H5 q2 (.lst ((ups es++[(eh:Int)]).map V.int))=H6 at t2 f2 hb6 ⊢;obtain⟨n1,c1,d1⟩:=uX (ups es) none (some (k:Int));obtain⟨n2,c2,d2⟩:=uX (ups es) (some (k:Int)) none;rw[length_map] at d1 d2;refine⟨_,rfl,_,rfl,(k:Int),rfl,b,_,rfl,SqL.of hb6,fun q3 hq3=>?_⟩;rw[c1];have t3:=aD hq3 (.lst (n1.map V.int));have f3:upd H6 q3 (.lst (n1.map V.int)) q3=some (.lst (n1.map V.int)):=aB;have hb7:=t3 _ _ hb6;generalize upd H6 q3 (.lst (n1.map V.int))=H7 at t3 f3 hb7 ⊢;refine⟨_,rfl,zl9 1,fun q4 hq4=>?_⟩;have t4:=aD hq4 (.lst [w]);have f4:upd H7 q4 (.lst [w]) q4=some (.lst [w]):=aB;have hb8:=t4 _ _ hb7;have f3':=t4 _ _ f3;generalize upd H7 q4 (.lst [w])=H8 at t4 f4 hb8 f3' ⊢;refine⟨q3,q4,_,_,rfl,rfl,f3',f4,?_,fun q5 hq5=>?_⟩
 ·rw[length_map,sizeLine_eq];simp only[length_cons,length_nil];lia
 have t5:=aD hq5 (.lst (n1.map V.int++[w]));have f5:upd H8 q5 (.lst (n1.map V.int++[w])) q5=some (.lst (n1.map V.int++[w])):=aB;have hb9:=t5 _ _ hb8;generalize upd H8 q5 (.lst (n1.map V.int++[w]))=H9 at t5 f5 hb9 ⊢;refine⟨_,rfl,_,rfl,(k:Int),rfl,b,_,rfl,SqL.of hb9,fun q6 hq6=>?_⟩;rw[c2];have t6:=aD hq6 (.lst (n2.map V.int));have f6:upd H9 q6 (.lst (n2.map V.int)) q6=some (.lst (n2.map V.int)):=aB;have hbA:=t6 _ _ hb9;have f5':=t6 _ _ f5;generalize upd H9 q6 (.lst (n2.map V.int))=HA at t6 f6 hbA f5' ⊢;refine⟨q5,q6,_,_,rfl,rfl,f5',f6,?_,fun q7 hq7=>?_⟩
 ·rw[List.length_append,length_map,length_map,sizeLine_eq];simp only[length_cons,length_nil];lia
 have t7:=aD hq7 (.lst (n1.map V.int++[w]++n2.map V.int));have f7:upd HA q7 (.lst (n1.map V.int++[w]++n2.map V.int)) q7=some (.lst (n1.map V.int++[w]++n2.map V.int)):=aB;have hbB:=t7 _ _ hbA;generalize upd HA q7 (.lst (n1.map V.int++[w]++n2.map V.int))=HB at t7 f7 hbB ⊢;obtain⟨el,ml',al⟩:=Ah e1 h2;refine⟨_,rfl,1,rfl,b,_,_,_,rfl,rfl,SqL.of hbB,al,?_⟩;refine⟨zl9 1,fun q8 hq8=>?_⟩;have t8:=aD hq8 (.lst [.int (el:Int)]);have f8:upd HB q8 (.lst [.int (el:Int)]) q8=some (.lst [.int (el:Int)]):=aB;have hbC:=t8 _ _ hbB;generalize upd HB q8 (.lst [.int (el:Int)])=HC at t8 f8 hbC ⊢;refine⟨_,rfl,q8,b,_,_,rfl,rfl,f8,hbC,?_,fun q9 hq9=>?_⟩
 ·rw[lu,sizeLine_eq];simp only[length_cons,length_nil];lia
 rw[show [.int (el:Int)]++(ups es).map V.int=((el:Int) :: ups es).map V.int by rfl];have t9:=aD hq9 (.lst (((el:Int) :: ups es).map V.int));have f9:upd HC q9 (.lst (((el:Int) :: ups es).map V.int)) q9=some (.lst (((el:Int) :: ups es).map V.int)):=aB;generalize upd HC q9 (.lst (((el:Int) :: ups es).map V.int))=HD at t9 f9 ⊢;refine⟨_,rfl,zl9 5,fun L hL=>?_⟩;have tL:=aD hL (.lst [.ref l0,.ref q2,.ref q7,.ref q9,x]);have fL:upd HD L (.lst [.ref l0,.ref q2,.ref q7,.ref q9,x]) L=some (.lst [.ref l0,.ref q2,.ref q7,.ref q9,x]):=aB;generalize upd HD L (.lst [.ref l0,.ref q2,.ref q7,.ref q9,x])=HE at tL fL ⊢;have u9:=t9.trans tL;have u8:=t8.trans u9;have u7:=t7.trans u8;have u5:=t5.trans (t6.trans u7);have u3:=t3.trans (t4.trans u5);have u2:=t2.trans u3;have u1:=t1.trans u2;have u0:=t0.trans u1;refine q L _ HE (s03.trans u0) fL (fun y hy=>?_) (Nat.le_refl _);simp only[mem_cons,not_mem_nil,or_false] at hy;rcases hy with rfl | rfl | rfl | rfl | rfl
 ·exact .inr ⟨l0,[],rfl,SqL.of (u1 _ _ f0),by decide,(fun y hy=>by cases hy),.inl rfl⟩
 ·refine Hw (u3 _ _ f2) (by rw[List.length_append,length_map];simp only[length_cons,length_nil];lia) fun nd=>?_;exact(nodup_append.mp nd).2.2 (eh:Int) (lW.mpr mh) (eh:Int) (by simp) rfl
 ·refine .inr ⟨q7,_,rfl,SqL.of (u8 _ _ f7),?_,fun y hy=>?_,.inr (.inl ?_)⟩
  ·rw[List.length_append,List.length_append,length_map,length_map];simp only[length_cons,length_nil];lia
  ·rcases mem_append.mp hy with hy | hy
   ·rcases mem_append.mp hy with hy | hy
    ·exact zM n1 y hy
    ·have:y=w:=by simpa using hy
     rw[this];exact hw3.same u0
   ·exact zM n2 y hy
  ·exact all_eq_false.mpr ⟨w,by simp,by rw[hwP];decide⟩
 ·refine Hw (tL _ _ f9) (by rw[length_cons,length_map];lia) fun nd=>?_;exact(nodup_cons.mp nd).1 (lW.mpr ml')
 ·exact .inl (hx.same u0)
end
section
variable {P:Program} {w:World} {K:Frag} {mg:Str->Option Value} {base:Heap} {f g9 g1 g2 g3 g4 g5 g6 g7 g8:Addr} {fd gd9 gd1 gd2 gd3 gd4 gd5 gd6 gd7 gd8:FuncData} {CX:CXT}
variable {CR:Addr} {CK:Kd->Addr} {fW fJ fT fS:Kd->Addr} {fdW fdJ fdT fdS:Kd->FuncData}
theorem sX:(["_law_k","_law_rows_here"]:List Str).Nodup:=by decide +kernel
theorem xV:(["_law_end","_law_every"]:List Str).Nodup:=by decide +kernel
structure TyT (K:Frag) (CT:Addr):Prop where
 a:W.findIn K (.ref CT) "__class__"=some (some (.builtin "object.__class__"))
 n:W.specialIn K (.builtin "object.__class__") "__get__"=some (some (.builtin "getset_descriptor.__get__"))
 t:W.takesIn K (.builtin "object.__class__")=some true
 m:W.mroIn K CT (.type "object")=some true
 k:W.kitOne K (.ref CT) (.type "tuple")=some false
def nQ (ds:List RD)(i:Nat):List Nat:=(List.range i).filter fun k=>decide ((ds.getD k (.pc,0,0,(0,1))).1=.ho)
theorem wR (ds:List RD)(i:Nat):nQ ds (i+1)=nQ ds i++if (ds.getD i (.pc,0,0,(0,1))).1=.ho then [i] else []:=by
 unfold nQ;rw[range_succ,filter_append];congr 1
 by_cases c:(ds.getD i (.pc,0,0,(0,1))).1=.ho
 ·rw[if_pos c,filter_cons_of_pos (by exact decide_eq_true c)];rfl
 ·rw[if_neg c,filter_cons_of_neg (by rw[decide_eq_false c];decide)];rfl
theorem Tf (ds:List RD)(i:Nat):(nQ ds i).length<=i:=by
 have:=length_filter_le (fun k=>decide ((ds.getD k (.pc,0,0,(0,1))).1=.ho)) (List.range i)
 rwa [length_range] at this
theorem uO {ds:List RD}{i k:Nat}:k∈nQ ds i↔k < i/\(ds.getD k (.pc,0,0,(0,1))).1=.ho:=by
 unfold nQ;rw[mem_filter,mem_range];exact⟨fun h=>⟨h.1,of_decide_eq_true h.2⟩,fun h=>⟨h.1,decide_eq_true h.2⟩⟩
theorem pJ {ds:List RD}{k:Nat}{d:RD}(h:ds[k]?=some d):ds.getD k (.pc,0,0,(0,1))=d:=by
 rw[getD_eq_getElem?_getD,h];rfl
theorem Uc {ds:List RD}(h:nQ ds ds.length=[]):jP ds:=fun d hd hk=>by
 obtain⟨k,hk2⟩:=getElem?_of_mem hd;have hl:=(List.getElem?_eq_some_iff.mp hk2).1;have:k∈nQ ds ds.length:=uO.mpr ⟨hl,by rw[pJ hk2];exact hk⟩;rw[h] at this;cases this
theorem Mm {ds:List RD}{i:Nat}{r:List Nat}(h:nQ ds ds.length=i :: r):Ki ds i:=by
 have hi:i∈nQ ds ds.length:=by rw[h];exact mem_cons_self ..
 obtain⟨il,ih⟩:=uO.mp hi;refine⟨⟨ds[i],getElem?_eq_getElem il,by rw[pJ (getElem?_eq_getElem il)] at ih;exact ih⟩,fun j d hj hd hk=>?_⟩;have hjm:j∈nQ ds ds.length:=uO.mpr ⟨by lia,by rw[pJ hd];exact hk⟩;have so:(nQ ds ds.length).Pairwise (· < ·):=Pairwise.filter _ pairwise_lt_range;rw[h] at hjm so;rcases mem_cons.mp hjm with z | z
 ·lia
 ·have:=(pairwise_cons.mp so).1 j z;lia
def pcE (e p:Nat):RD:=(.pc,(e:Int),(p:Int),(2,3))
theorem Qe {m e p:Nat}(he:e < m)(hp:p < m):DrR m (pcE e p):=by
 have lo:Low (2,3):=⟨by decide,by decide⟩
 have b8:Bd 8 (2,3):=⟨show (2:Nat) < 2 ^ 8 by decide,show (3:Nat) < 2 ^ 8 by decide⟩
 refine⟨⟨?_,?_,?_,?_,lo,fun _=>?_,b8.mono (by decide)⟩,b8,⟨fun _=>?_,fun h=>by cases h⟩⟩
 ·show (0:Int)<=(e:Int);lia
 ·show (e:Int) < (m:Int);lia
 ·show (0:Int)<=(p:Int);lia
 ·show (p:Int) < (m:Int);lia
 ·show (0:Int) < 2;decide
 ·show 0 < Mq.val (2,3)/\Mq.Fr 420 2 (1 / Mq.val (2,3));have e:Mq.val (2,3)=2 / 3:=by unfold Mq.val;rfl
  rw[e];refine⟨by decide +kernel,?_⟩;exact⟨630,by grind,by decide⟩
theorem Qq {m:Nat}{ds:List RD}{es:List Nat}{e:Nat}(pt:∀d∈ds,fR (m:Int) d.2.1 d.2.2.1)(he:e∈es)(hes:∀e∈es,e < m):lsP (mk m (ds++(lsP (mk m ds) m es).map (pcE e))) m es=[]:=by
 have pt2:∀d∈ds++(lsP (mk m ds) m es).map (pcE e),fR (m:Int) d.2.1 d.2.2.1:=fun d hd=>by
  rcases mem_append.mp hd with z | z
  ·exact pt d z
  ·obtain⟨p,hp,rfl⟩:=mem_map.mp z;have:=(kA.mp hp).1;have:=hes e he;exact⟨by show (0:Int)<=(e:Int);lia,by show (e:Int) < m;lia,by show (0:Int)<=(p:Int);lia,by show (p:Int) < m;lia⟩
 refine eq_nil_iff_forall_not_mem.mpr fun p hp=>?_;obtain⟨pm,pn⟩:=kA.mp hp
 by_cases c:p∈lsP (mk m ds) m es
 ·have:=rQ _ _ rfl pt2 (pcE e p) (mem_append.mpr (.inr (mem_map.mpr ⟨p,c,rfl⟩))) (show Kd.pc≠Kd.pu by decide);exact pn e he this
 ·refine c (kA.mpr ⟨pm,fun e' he' z=>pn e' he' ?_⟩);exact(Mg pt2 (hes e' he') pm).mpr (((Mg pt (hes e' he') pm).mp z).mono fun d hd=>mem_append.mpr (.inl hd))
theorem Gz {m:Nat}{ds:List RD}(m1:1<=m)(m8:m<=8)(h:∀d∈ds,DrR m d)(l:ds.length<=40):rM m ds:=⟨m8,m1,l,fun d hd=>⟨(h d hd).ok,(h d hd).bd⟩⟩
theorem Bc {v:Int}{m:Nat}(h:1<=m):∃e:Nat,Int.fmod v m=(e:Int)/\e < m:=by
 have b1:=Int.fmod_nonneg_of_pos (a:=v) (show 0 < (m:Int) by lia);have b2:=Int.fmod_lt_of_pos v (show 0 < (m:Int) by lia);exact⟨(Int.fmod v m).toNat,by lia,by lia⟩
theorem Zc {m o:Nat}(h:o < m):kF m [o]:=⟨by simp,by simp,fun x hx=>by rw[mem_singleton.mp hx];exact h⟩
theorem Zi {m e o:Nat}(he:e < m)(ho:o < m)(n:e≠o):kF m [e,o]:=⟨by simp,by simp[n],fun x hx=>by
 rcases mem_cons.mp hx with z | z
 ·rw[z];exact he
 ·rw[mem_singleton.mp z];exact ho⟩
def Hi (K:Frag):Sp:=fun vs H Q _=>∃(a:Addr) (ns:List Int),vs=[.ref a]/\SqL K H a (ns.map V.int)/\ns.length<=63/\∀H',Q (.bl true) H'
abbrev yE:Stmt:=top 80
theorem kD:aQ ["_law_script","_law_many","_law_rows_here","_law_net_here","_law_ends","_law_other","_law_some","_law_holds_here","_law_apart_here","_law_point","_law_table","_law_every"] ["_law_script"] (aH yE):=sK9 rfl rfl rfl rfl (by decide +kernel)
theorem Xs {dV:Value}(F:aU K "law" "law" yE dV f fd){CN CT:Addr}(NTx:NT K mg CN)(TBx:TB K mg CT)(b0:Bl mg)(mr:mg "range"=none)(ml:mg "len"=none)(mli:mg "list"=none)(mt:mg "tuple"=none)(tT:TyT K CT){gTo:Addr}{gdTo:FuncData}(GTo:aJ P w K mg base CX0 1 gTo gdTo ["self"] (Gv CN K))(bTo:aP K gdTo ["self"] [])(mTo:iB K CN "told" gTo){gAd:Addr}{gdAd:FuncData}(GAd:aJ P w K mg base CX0 5 gAd gdAd ["self","row"] (Oy CN K CK))(bAd:aP K gdAd ["self","row"] [])(mAd:iB K CN "add" gAd){gEn:Addr}{gdEn:FuncData}(GEn:aJ P w K mg base CX0 1 gEn gdEn ["self"] (Gf CT K))(bEn:aP K gdEn ["self"] [])(mEn:iB K CT "ends" gEn)(G1:aJ P w K mg base CX0 1 g1 gd1 ["_law_script","_law_k"] (Fj K))(b1:aP K gd1 ["_law_script","_law_k"] [])(k1:kI9 K g1)(m1:mI9 mg "_law_nth" g1)(G2:aJ P w K mg base CX0 2 g2 gd2 ["_law_script","_law_rows_here","_law_many"] (Bj K))(b2:aP K gd2 ["_law_script","_law_rows_here","_law_many"] [])(k2:kI9 K g2)(m2:mI9 mg "_law_holds" g2)(G3:aJ P w K mg base CX0 1 g3 gd3 ["_law_script","_law_many"] (Gx K))(b3:aP K gd3 ["_law_script","_law_many"] [])(k3:kI9 K g3)(m3:mI9 mg "_law_rows" g3)(G4:aJ P w K mg base CX0 6 g4 gd4 ["_law_many","_law_rows_here"] (Fz CN K))(b4:aP K gd4 ["_law_many","_law_rows_here"] [])(k4:kI9 K g4)(m4:mI9 mg "_law_net" g4)(G5:aJ P w K mg base CX0 2 g5 gd5 ["_law_script","_law_many","_law_ends"] (Ur K))(b5:aP K gd5 ["_law_script","_law_many","_law_ends"] [])(k5:kI9 K g5)(m5:mI9 mg "_law_spoiled" g5)(G6:aJ P w K mg base CX0 11 g6 gd6 ["_law_net_here","_law_ends","_law_due"] (Nr CN K))(b6:aP K gd6 ["_law_net_here","_law_ends","_law_due"] [])(k6:kI9 K g6)(m6:mI9 mg "_law_both" g6)(G7:aJ P w K mg base CX0 1 g7 gd7 ["_law_many","_law_rows_here","_law_ends"] (Fw K))(b7:aP K gd7 ["_law_many","_law_rows_here","_law_ends"] [])(k7:kI9 K g7)(m7:mI9 mg "_law_apart" g7)(G8:aJ P w K mg base CX0 10 g8 gd8 ["_law_net_here","_law_ends","_law_heights","_law_backwards"] (xL CN CT K))(b8:aP K gd8 ["_law_net_here","_law_ends","_law_heights","_law_backwards"] [])(k8:kI9 K g8)(m8:mI9 mg "_law_asked" g8)(G9:aJ P w K mg base CX0 3 g9 gd9 ["told"] (oI K CK))(b9:aP K gd9 ["told"] [])(k9:kI9 K g9)(m9:mI9 mg "row_of" g9) :
  aJ P w K mg base CX 12 f fd ["_law_script"] (Hi K):=by
 refine F.ok kD (fun vs H Q E h=>?_) fun cdv A outer s H vs Q E hr h=>?_
 ·obtain⟨_,_,rfl,_⟩:=h;rfl
 obtain⟨a,ns,rfl,hS,h63,q⟩:=h;have hu:=hr.units;have r1:=hr.mono (show 1<=11 by lia);have r2:=hr.mono (show 2<=11 by lia);have r3:=hr.mono (show 3<=11 by lia);have r4:=hr.mono (show 4<=11 by lia);have r5:=hr.mono (show 5<=11 by lia);have r6:=hr.mono (show 6<=11 by lia);have r10:=hr.mono (show 10<=11 by lia);have r11:=hr;refine⟨_,(aE (aV (i:=1) kD.nd rfl (Or.inl rfl) (aZ kW aG (aZ gE (aI G1 r1 rfl m1 k1 b1 .nil aS (aA (pv 0) (aA aG aC))) aG)))
  (aE (aV (i:=2) kD.nd rfl (Or.inr rfl) (aI G2 r2 rfl m2 k2 b2 .nil aS (aA (pv 0) (aA (aI G3 r1 rfl m3 k3 b3 .nil aS (aA (pv 0) (aA (pv 1) aC))) (aA (pv 1) aC)))))
  (aE (aV (i:=3) kD.nd rfl (Or.inl rfl) (aI G4 r6 rfl m4 k4 b4 .nil aS (aA (pv 1) (aA (pv 2) aC))))
  (aE (aV (i:=4) kD.nd rfl (Or.inl rfl) (cX (aA (aZ jU (aI G1 r1 rfl m1 k1 b1 .nil aS (aA (pv 0) (aA aG aC))) (pv 1)) aC)))
  (aE (aV (i:=5) kD.nd rfl (Or.inl rfl) (aZ jU (aI G1 r1 rfl m1 k1 b1 .nil aS (aA (pv 0) (aA aG aC))) (pv 1)))
  (aE (cS (bK wL (pv 5) (aY cF (pv 4) aG (fun _ _=>rfl)) (bN _)) (aF (cG (uV PySem.F.plainAttrs_list PySem.F.slot_list_append PySem.F.type_list_append iC (pv 4) (aA (pv 5) aC)))) bM)
  (aE (dP PassesOwn.never rfl (bO (aI G5 r2 rfl m5 k5 b5 .nil aS (aA (pv 0) (aA (pv 1) (aA (pv 4) aC))))) (aR (i:=6) kD.nd rfl (Or.inl rfl))
   (aF (cS (fA (cY (aI G6 r11 rfl m6 k6 b6 .nil aS (aA (pv 3) (aA (pv 6) (aA (cV (aA bV (aA aG aC))) aC)))))) (aF (aX fM)) bM)))
  (aE (hZ (i:=7) (nl:=1) (fr:=[2]) (Nc:=["_law_k","_law_rows_here"]) (cl:=[("_law_rows_here",s.heap.objs.size+1)]) kD.nd rfl rfl rfl ⟨rfl,rfl,by decide +kernel,by decide +kernel,(bG rfl (dA)),cC rfl,rfl,fun i n h=>match i,h with | 0,h=>by cases h;exact⟨2,rfl,rfl,rfl,rfl,.inl rfl⟩ | k+1,h=>by rw[show 1+(k+1)=k+2 by lia] at h;cases h⟩
    (gF rfl mr (aA (bH bD rfl ml PySem.boot_len (aA (pv 2) aC)) aC)) (fun C s3 H3 fp pins=>(aR (i:=0) sX rfl (Or.inl rfl))) (fun C s3 H3 fp pins=>(sG (bK gQ (aY (lU (K:=K) rfl) (aY (fD (K:=K) rfl) (pv 1) (pv 0) (fun _ _=>rfl)) aG (fun _ _=>rfl)) bV (bN _))))
    (fun C s3 H3 fp pins=>(pv 0)) rfl)
  (aE (cS (bK Hf (bH bD rfl ml PySem.boot_len (aA (pv 7) aC)) aG (bN _)) (aF (aX (jZ (aI G6 r11 rfl m6 k6 b6 .nil aS (aA (pv 3) (aA (pv 4) (aA (cV (aA bV (aA (aY cF (pv 7) aG (fun _ _=>rfl)) aC))) aC)))) (nY (fX (Db hu) (fC (pv 3) NTx.cl mTo GTo r1 bTo .nil aS) (pv 2) (bN _)))))) bM)
  (aE (aV (i:=8) kD.nd rfl (Or.inl rfl) (aI G7 r1 rfl m7 k7 b7 .nil aS (aA (pv 1) (aA (pv 2) (aA (pv 4) aC)))))
  (aE (cS (PW.pt (pS (bK Hf (bH bD rfl ml PySem.boot_len (aA (pv 8) aC)) aG (bN _)) (lS (fA (cY (aI G6 r11 rfl m6 k6 b6 .nil aS (aA (pv 3) (aA (pv 4) (aA (cV (aA bV (aA (pv 8) aC))) aC))))))))) (aF (aX fM)) bM)
  (aE (dP PassesOwn.never rfl (bO (pv 8)) (aR (i:=9) kD.nd rfl (Or.inl rfl))
   (aF (cG (xS (pv 3) NTx.cl mAd GAd r5 bAd .nil aS (aA (aI G9 r3 rfl m9 k9 b9 .nil aS (aA (cV (aA bV (aA (aY cF (pv 4) (sU nV aG) (fun _ _=>rfl)) (aA (pv 9) (aA (cV (aA aG (aA aG aC))) aC))))) aC)) aC)))))
  (aE (aV (i:=10) kD.nd rfl (Or.inl rfl) (aI G8 r10 rfl m8 k8 b8 .nil aS (aA (pv 3) (aA (dL cU rfl mli PyProof.Rows.boot_list (aA (pv 4) aC)) (aA (aZ nB (cX (aA (cV (aA aG (aA aG aC))) aC)) (bH bD rfl ml PySem.boot_len (aA (pv 4) aC))) (aA fM aC))))))
  (aE (aV (i:=11) kD.nd rfl (Or.inr rfl) (aI G8 r10 rfl m8 k8 b8 .nil aS (aA (pv 3) (aA (dL cU rfl mli PyProof.Rows.boot_list (aA (pv 4) aC)) (aA (aZ nB (cX (aA (cV (aA aG (aA aG aC))) aC)) (bH bD rfl ml PySem.boot_len (aA (pv 4) aC))) (aA fM aC))))))
  (aE (cS (PW.pt (mX (cY (fG (i:=10) rfl (Or.inl rfl) b0.isi mt rfl rfl PyProof.Rows.boot_tuple)) (mX (fA (cY (fG (i:=11) rfl (Or.inr (Or.inl rfl)) b0.isi mli rfl rfl PyProof.Rows.boot_list))) (nJ (bK wL (bH bD rfl ml PySem.boot_len (aA (pv 11) aC)) (pv 1) (bN _)))))) (aF (aX fM)) bM)
  (aF (aX (jZ (fX (Db hu) (fC ((pv 10)) TBx.cl mEn GEn r1 bEn .nil aS) (pv 4) (bN _)) (nY (fX (Db hu) (cL (nl:=1) (fr:=[11]) (Nc:=["_law_end","_law_every"]) (cl:=[("_law_every",s.heap.objs.size+2)]) rfl ⟨rfl,rfl,by decide +kernel,by decide +kernel,(bG rfl (dA)),cC rfl,rfl,fun i n h=>match i,h with | 0,h=>by cases h;exact⟨11,rfl,rfl,rfl,rfl,.inl rfl⟩ | k+1,h=>by rw[show 1+(k+1)=k+2 by lia] at h;cases h⟩
    (bO (pv 4)) (fun C s3 H3 fp pins=>(aR (i:=0) xV rfl (Or.inl rfl))) (fun C s3 H3 fp pins=>cA)
    (fun C s3 H3 fp pins=>(aY (fD (K:=K) rfl) (pv 1) (pv 0) (fun _ _=>rfl)))) (aZ nB (cX (aA (cV (aA aG (aA aG aC))) aC)) (bH bD rfl ml PySem.boot_len (aA (pv 4) aC))) (bN _))))))))))))))))))))),?_⟩
 try dsimp only
 refine fU (fun σ' H'=>aK H H'/\∃m:Nat,2<=m/\m<=8/\σ'=[some (.ref a),some (.int (m:Int)),none,none,none,none,none,none,none,none,none,none]) (fun X hX=>?_) ?_
 ·refine⟨_,rfl,a,ns,0,0,rfl,rfl,hS,h63,by lia,fun v H1 s1=>⟨_,_,rfl,rfl,(show (0:Int) < 7 by decide),_,_,rfl,rfl,?_⟩⟩;have g0:=Int.emod_nonneg v (show (7:Int)≠0 by decide);have g7:=Int.emod_lt_of_pos v (show (0:Int) < 7 by decide);obtain⟨m,hm⟩:∃m:Nat,2+v % 7=(m:Int):=⟨(2+v % 7).toNat,by lia⟩
  refine hX _ _ ⟨s1,m,by lia,by lia,?_⟩;rw[<- hm];rfl
 rintro σ1 H1 ⟨s1,m,hm2,hm8,rfl⟩;have m1:1<=m:=by lia
 refine fU (fun σ' H'=>aK H H'/\∃(r:Addr) (us:List V) (ds:List RD),σ'=[some (.ref a),some (.int (m:Int)),some (.ref r),none,none,none,none,none,none,none,none,none]/\H' r=some (.lst us)/\Rts K H' us ds/\(∀d∈ds,DrR m d)/\ds.length<=15) (fun X hX=>?_) ?_
 ·refine⟨_,rfl,_,rfl,_,rfl,a,ns,m,rfl,s1.seq hS,m1,fun r us ds H2 s2 nr er hR hK h12=>?_⟩;refine⟨_,rfl,a,r,ns,m,us,ds,H1,rfl,s2,nr,s1.seq hS,h63,m1,er,hR,(fun d hd=>(hK d hd).1),h12,fun us' ds' H3 s3 er3 hR3 hK3 h15=>?_⟩;exact hX _ _ ⟨s1.trans s3,r,us',ds',rfl,er3,hR3,hK3,h15⟩
 rintro σ2 H2 ⟨s2,r,us,ds,rfl,er,hR,hK,h15⟩;have pt:∀d∈ds,fR (m:Int) d.2.1 d.2.2.1:=fun d hd=>⟨(hK d hd).ok.1,(hK d hd).ok.2.1,(hK d hd).ok.2.2.1,(hK d hd).ok.2.2.2.1⟩
 have nb:=Gz m1 hm8 hK (by lia);have lus:=hR.length;refine fU (fun σ' H'=>aK H2 H'/\∃n l:Addr,σ'=[some (.ref a),some (.int (m:Int)),some (.ref r),some (.ref n),none,none,none,none,none,none,none,none]/\H2 l=none/\eJ CN K H' n l (m:Int) ds) (fun X hX=>?_) ?_
 ·refine⟨_,rfl,_,rfl,(m:Int),r,us,ds,rfl,by lia,by lia,SqL.of er,hR,(fun d hd=>(hK d hd).ok),by lia,fun n l H3 s3 nl nt=>?_⟩;exact hX _ _ ⟨s3,n,l,rfl,nl,nt⟩
 rintro σ3 H3 ⟨s3,n,l,rfl,nl,nt⟩;have s03:=s2.trans s3;have er3:=s3 _ _ er;have hR3:=hR.same s3;refine qa5 (fun σ' H'=>aK H3 H'/\∃(b:Addr) (o:Nat) (es:List Nat),σ'=[some (.ref a),some (.int (m:Int)),some (.ref r),some (.ref n),some (.ref b),some (.int (o:Int)),none,none,none,none,none,none]/\H3 b=none/\H' b=some (.lst ((ups es).map V.int))/\kF m es/\es.length<=2) (fun X hX=>?_) ?_
 ·refine⟨_,rfl,a,ns,3,3,rfl,rfl,s03.seq hS,h63,by lia,fun v H4 s4=>⟨_,rfl,_,_,rfl,rfl,(show (m:Int)≠0 by lia),zl9 1,fun b hb=>?_⟩⟩;obtain⟨e,he,hem⟩:=Bc (v:=v) m1;have s5:=aD hb (.lst [.int (Int.fmod v m)]);have e5:upd H4 b (.lst [.int (Int.fmod v m)]) b=some (.lst [.int (Int.fmod v m)]):=aB;have nb3:=s4.free hb;generalize upd H4 b (.lst [.int (Int.fmod v m)])=H5 at s5 e5 ⊢;rw[he] at e5;refine⟨_,rfl,a,ns,4,4,rfl,rfl,(s03.trans (s4.trans s5)).seq hS,h63,by lia,fun v2 H6 s6=>⟨_,rfl,_,_,rfl,rfl,(show (m:Int)≠0 by lia),?_⟩⟩;obtain⟨o,ho,hom⟩:=Bc (v:=v2) m1;have s36:=s4.trans (s5.trans s6);have e6:=s6 _ _ e5;refine⟨_,rfl,_,rfl,b,_,_,_,rfl,rfl,SqL.of e6,rfl,rfl,_,rfl,?_⟩
  by_cases c:o=e
  ·subst c;refine L2.ifF (by show (!decide (V.int (Int.fmod v2 m)=V.int (o:Int)))=false;rw[ho];simp) ?_;exact hX _ _ ⟨s36,b,o,[o],by rw[<- ho];rfl,nb3,e6,Zc hom,by simp⟩
  ·refine L2.ifT (by show (!decide (V.int (Int.fmod v2 m)=V.int (e:Int)))=true;rw[ho];simp;lia) ?_;refine⟨_,rfl,.inl ⟨rfl,_,SqL.of e6⟩,_,rfl,b,_,_,rfl,rfl,e6,aW (by simp),?_⟩;refine hX _ _ ⟨s36.change nb3,b,o,[e,o],by rw[<- ho];rfl,nb3,by show _=some (HO.lst [.int (e:Int),.int (o:Int)]);rw[<- ho];exact aB,Zi hem hom (Ne.symm c),by simp⟩
 rintro σ4 H4 ⟨s4,b,o,es,rfl,nb3,eb,ge,he2⟩;have s04:=s03.trans s4;have er4:=s4 _ _ er3;have hR4:=hR3.same s4;have nt4:=nt.same s4;obtain⟨l1,l8⟩:=kP ge;have nbl:b≠l:=fun z=>by obtain⟨ts,h,_⟩:=nt.ls;rw[z,h] at nb3;cases nb3
 refine fU (fun σ' H'=>aK H4 H'/\∃z6:Option V,σ'=[some (.ref a),some (.int (m:Int)),some (.ref r),some (.ref n),some (.ref b),some (.int (o:Int)),z6,none,none,none,none,none]) (fun X hX=>?_) ?_
 ·refine⟨_,rfl,_,rfl,_,rfl,a,b,ns,m,es,rfl,s04.seq hS,h63,eb,ge,he2,fun L xs H5 s5 eL bad h5=>⟨L,rfl,⟨_,SqL.of eL⟩,?_⟩⟩;refine dW (xs:=xs) (fun i σ' H'=>aK H5 H'/\∃z6:Option V,σ'=[some (.ref a),some (.int (m:Int)),some (.ref r),some (.ref n),some (.ref b),some (.int (o:Int)),z6,none,none,none,none,none]) ⟨aK.refl _,_,rfl⟩ (fun i σ' H' _ h=>h.1.seq (SqL.of eL)) ?_ ?_
  ·rintro i x σ' H6 hx ⟨s6,z6,rfl⟩;refine⟨_,rfl,_,rfl,zl9 2,fun p hp=>?_⟩;have s7:=aD hp (.tup [.str "no point",.int 0]);refine⟨n,l,p,m,ds,x,.np,rfl,nt4.same (s5.trans (s6.trans s7)),nb,(bad x (mem_of_getElem? hx)).same (s6.trans s7),aB,fun H8 s8=>⟨_,rfl,eH ?_⟩⟩;exact⟨s6.trans (s7.trans s8),_,rfl⟩
  ·rintro σ' H6 ⟨s6,z6,rfl⟩;exact hX _ _ ⟨s5.trans s6,z6,rfl⟩
 rintro σ5 H5 ⟨s5,z6,rfl⟩;have er5:=s5 _ _ er4;have hR5:=hR4.same s5;have nt5:=nt4.same s5;have eb5:=s5 _ _ eb;refine fU (fun σ' H'=>aK H5 H'/\∃hL:Addr,σ'=[some (.ref a),some (.int (m:Int)),some (.ref r),some (.ref n),some (.ref b),some (.int (o:Int)),z6,some (.ref hL),none,none,none,none]/\H' hL=some (.lst (fH (nQ ds ds.length)))) (fun X hX=>?_) ?_
 ·refine⟨_,rfl,r,us,rfl,.inl (SqL.of er5),(us.length:Int),rfl,by lia,by lia,fun D hD=>?_⟩;rw[Int.toNat_natCast];have sD:=aD hD (.lst []);refine iE (n:=us.length) (fun i zs H'=>aK H5 H'/\H' D=some (.lst zs)/\zs=fH (nQ ds i)) ⟨sD,aB,rfl⟩ (fun i zs H' h=>h.2.1) ?_ ?_
  ·rintro i zs H6 hi ⟨s6,e6,rfl⟩ C hC
   try rw[Int.zero_add]
   have hi':i < ds.length:=by lia
   obtain⟨⟨kd,u,v,p⟩,hd⟩:∃d,ds[i]?=some d:=⟨_,getElem?_eq_getElem hi'⟩
   obtain⟨t,z,et,ht,fz⟩:=(hR5.same s6).at hd;have ll:=Tf ds i;refine⟨bU.1,bU.2,_,rfl,_,rfl,r,_,_,_,rfl,rfl,SqL.of (s6 _ _ er5),cH et,t,_,_,_,rfl,rfl,ht,rfl,rfl,_,rfl,?_⟩
   by_cases c:kd=.ho
   ·refine L2.ifT (by show decide (V.str kd.wd=V.str Kd.ho.wd)=true;rw[eS];exact decide_eq_true c) ?_;refine⟨_,rfl,e6,aW (by rw[length_map];lia),hC _ _ ⟨s6.change hD,aB,?_⟩⟩
    try rw[Int.zero_add]
    rw[wR,pJ hd,if_pos c];show _=map _ _;rw[map_append];rfl
   ·refine L2.ifF (by show decide (V.str kd.wd=V.str Kd.ho.wd)=false;rw[eS];exact decide_eq_false c) ?_;exact hC _ _ ⟨s6,e6,by rw[wR,pJ hd,if_neg c,append_nil]⟩
  ·rintro zs H6 ⟨s6,e6,rfl⟩;rw[lus] at e6;exact hX _ _ ⟨s6,D,rfl,e6⟩
 rintro σ6 H6 ⟨s6,hL,rfl,eh⟩;have er6:=s6 _ _ er5;have hR6:=hR5.same s6;have nt6:=nt5.same s6;have eb6:=s6 _ _ eb5;refine fU (fun σ' H'=>σ'=[some (.ref a),some (.int (m:Int)),some (.ref r),some (.ref n),some (.ref b),some (.int (o:Int)),z6,some (.ref hL),none,none,none,none]/\H'=H6/\jP ds) (fun X hX=>?_) ?_
 ·refine⟨_,rfl,hL,_,rfl,.inl (SqL.of eh),_,_,rfl,rfl,_,rfl,?_⟩
  cases ch:nQ ds ds.length with
  |nil=>exact L2.ifF rfl (hX _ _ ⟨rfl,rfl,Uc ch⟩)
  |cons i0 rest=>
   rw[ch] at eh;refine L2.ifT (decide_eq_true (by simp)) ?_;refine⟨_,rfl,_,rfl,_,rfl,hL,_,0,.int (i0:Int),rfl,rfl,SqL.of eh,cH (xs:=fH (i0 :: rest)) (j:=0) rfl,zl9 2,fun p hp=>?_⟩;have s7:=aD hp (.tup [.str "held",.int (i0:Int)]);refine⟨n,l,p,m,ds,_,.hd i0,rfl,nt6.same s7,nb,⟨b,es,rfl,s7 _ _ eb6,ge,Mm ch⟩,aB,fun H8 s8=>⟨_,rfl,cT ?_⟩⟩;have s78:=s7.trans s8;have nt8:=nt6.same s78;obtain⟨dx,hn8⟩:=nt8.ob;refine⟨_,rfl,n,dx,_,rfl,hn8,dX _ _ (by decide +kernel) (by decide +kernel),n,l,_,ds,rfl,nt8,fun b' ts H9 s9 nb' eb' hRb=>?_⟩;refine⟨_,rfl,Xp (SqL.of eb') (SqL.of ((s78.trans s9) _ _ er6)) hRb (hR6.same (s78.trans s9)) ?_⟩;exact q _
 rintro σ7 H7 ⟨rfl,rfl,nh⟩;refine fU (fun σ' H'=>aK H7 H'/\∃aL:Addr,σ'=[some (.ref a),some (.int (m:Int)),some (.ref r),some (.ref n),some (.ref b),some (.int (o:Int)),z6,some (.ref hL),some (.ref aL),none,none,none]/\H7 aL=none/\H' aL=some (.lst ((ups (lsP (mk m ds) m es)).map V.int))) (fun X hX=>?_) ?_
 ·refine⟨_,rfl,_,rfl,_,rfl,r,b,us,m,ds,es,rfl,SqL.of er6,hR6,pt,nh,by lia,SqL.of eb6,ge.lt,by lia,fun aL H8 s8 na ea=>?_⟩;exact hX _ _ ⟨s8,aL,rfl,na,ea⟩
 rintro σ8 H8 ⟨s8,aL,rfl,na,ea⟩;have nt8:=nt6.same s8;have eb8:=s8 _ _ eb6;have nal:aL≠l:=fun z=>by obtain⟨ts,h,_⟩:=nt6.ls;rw[z,h] at na;cases na
 have lps:=Kw (mk m ds) m es;have pm:∀p∈lsP (mk m ds) m es,p < m:=fun p hp=>(kA.mp hp).1;have done:∀e∈es,lsP (mk m (ds++(lsP (mk m ds) m es).map (pcE e))) m es=[]:=fun e he=>Qq pt he ge.lt;refine fU (fun σ' H'=>σ'=[some (.ref a),some (.int (m:Int)),some (.ref r),some (.ref n),some (.ref b),some (.int (o:Int)),z6,some (.ref hL),some (.ref aL),none,none,none]/\aK H8 H') (fun X hX=>?_) ?_
 ·refine⟨_,rfl,aL,_,rfl,.inl (SqL.of ea),_,_,rfl,rfl,_,rfl,?_⟩
  by_cases c:lsP (mk m ds) m es=[]
  ·refine L2.ifF (by rw[c];rfl) ?_;exact hX _ _ ⟨rfl,aK.refl _⟩
  ·refine L2.ifT (decide_eq_true ?_) ?_
   ·rw[length_map,length_map];have:(lsP (mk m ds) m es).length≠0:=fun z=>c (length_eq_zero_iff.mp z);lia
   refine⟨_,rfl,_,rfl,_,rfl,zl9 2,fun p hp=>?_⟩;have s9:=aD hp (.tup [.str "floats",.ref aL]);refine⟨n,l,p,m,ds,_,.fl (lsP (mk m ds) m es),rfl,nt8.same s9,nb,⟨b,es,rfl,s9 _ _ eb8,ge,nh,rfl,c⟩,⟨aL,s9 _ _ ea,aB⟩,fun HA sA=>⟨_,rfl,eH ?_⟩⟩;exact hX _ _ ⟨rfl,s9.trans sA⟩
 rintro σ9 H9 ⟨rfl,s9⟩;have nt9:=nt8.same s9;have eb9:=s9 _ _ eb8;have ea9:=s9 _ _ ea;obtain⟨el,mel,ael⟩:=Ah ge.ne he2;have elm:=ge.lt el mel;have done:=done el mel;generalize lsP (mk m ds) m es=ps at ea9 lps pm done;refine fU (fun σ' H'=>H' b=some (.lst ((ups es).map V.int))/\eJ CN K H' n l (m:Int) (ds++ps.map (pcE el))/\∃z9:Option V,σ'=[some (.ref a),some (.int (m:Int)),some (.ref r),some (.ref n),some (.ref b),some (.int (o:Int)),z6,some (.ref hL),some (.ref aL),z9,none,none]) (fun X hX=>?_) ?_
 ·refine⟨_,rfl,aL,rfl,⟨_,SqL.of ea9⟩,?_⟩;refine dW (xs:=(ups ps).map V.int) (fun i σ' H'=>cP l H9 H'/\eJ CN K H' n l (m:Int) (ds++(ps.take i).map (pcE el))/\∃z9:Option V,σ'=[some (.ref a),some (.int (m:Int)),some (.ref r),some (.ref n),some (.ref b),some (.int (o:Int)),z6,some (.ref hL),some (.ref aL),z9,none,none]) ⟨fun _ _ h _=>h,by simpa using nt9,_,rfl⟩ (fun i σ' H' _ h=>SqL.of (h.1 _ _ ea9 nal)) ?_ ?_
  ·rintro i x σ' HA hx ⟨xA,ntA,z9,rfl⟩;rw[gS,getElem?_map] at hx;obtain⟨p,hp,rfl⟩:=Option.map_eq_some_iff.mp hx;have hi:i < ps.length:=(List.getElem?_eq_some_iff.mp hp).1;have pm':=pm p (mem_of_getElem? hp);have ebA:=xA _ _ eb9 nbl;obtain⟨dn,hn⟩:=ntA.ob;refine⟨_,rfl,n,dn,_,rfl,hn,dX _ _ (by decide +kernel) (by decide +kernel),?_⟩;refine⟨_,rfl,1,rfl,b,_,_,_,rfl,rfl,SqL.of ebA,ael,_,rfl,zl9 2,fun z hz=>?_⟩;have sB:=aD hz (.tup [.int 2,.int 3]);have eB:SqT K (upd HA z (.tup [.int 2,.int 3])) z [.int 2,.int 3]:=SqT.of aB;generalize upd HA z (.tup [.int 2,.int 3])=HB at sB eB ⊢;refine⟨zl9 4,fun t ht=>?_⟩;have sC:=aD ht (.tup [.str "piece",.int (el:Int),.int (p:Int),.ref z]);have eC:SqT K (upd HB t (.tup [.str "piece",.int (el:Int),.int (p:Int),.ref z])) t [.str Kd.pc.wd,.int (el:Int),.int (p:Int),.ref z]:=SqT.of aB;generalize upd HB t (.tup [.str "piece",.int (el:Int),.int (p:Int),.ref z])=HC at sC eC ⊢;refine⟨t,_,_,_,_,rfl,eC,.pc,rfl,fun y HD sD ny rw=>?_⟩;have sAD:=sB.trans (sC.trans sD);have lt:(ds++(ps.take i).map (pcE el)).length < 40:=by rw[List.length_append,length_map,length_take];lia
   refine⟨n,l,y,z,m,_,.pc,_,_,(2,3),rfl,ntA.same sAD,rw,(sC.trans sD).seqT eB,(Qe elm pm').ok,lt,fun HE xE ntE=>?_⟩;refine⟨fun c oc h nc=>xE _ _ (sAD _ _ (xA _ _ h nc)) nc,?_,_,rfl⟩;rw[take_add_one,hp,map_append,<- List.append_assoc];exact ntE
  ·rintro σ' HA ⟨xA,ntA,z9,rfl⟩;rw[length_map,length_map,take_length] at ntA;exact hX _ _ ⟨xA _ _ eb9 nbl,ntA,z9,rfl⟩
 rintro σA HA ⟨ebA,ntA,z9,rfl⟩;have hK2:∀d∈ds++ps.map (pcE el),DrR m d:=fun d hd=>by
  rcases mem_append.mp hd with z | z
  ·exact hK d z
  ·obtain⟨p,hp,rfl⟩:=mem_map.mp z;exact Qe elm (pm p hp)
 have nh2:jP (ds++ps.map (pcE el)):=fun d hd=>by
  rcases mem_append.mp hd with z | z
  ·exact nh d z
  ·obtain⟨p,hp,rfl⟩:=mem_map.mp z;exact fun z=>by cases z
 have nb2:rM m (ds++ps.map (pcE el)):=Gz m1 hm8 hK2 (by rw[List.length_append,length_map];lia);have rf2:∀d∈ds++ps.map (pcE el),rF d:=fun d hd=>(hK2 d hd).rf;obtain⟨X,cs,TV,hXd,_⟩:=Za nb2 rf2 nh2;have SV:=Sd nb2 rf2 nh2 ge done TV hXd;generalize ds++ps.map (pcE el)=dd at ntA nh2 nb2 done TV;clear hK2 rf2;have lu:((ups es).map V.int).length=es.length:=by rw[length_map,length_map]
 refine fU (fun σ' H'=>aK HA H'/\∃(tb:Addr) (Y:List (List Mq.Q2)) (ys:List Mq.Q2),σ'=[some (.ref a),some (.int (m:Int)),some (.ref r),some (.ref n),some (.ref b),some (.int (o:Int)),z6,some (.ref hL),some (.ref aL),z9,some (.ref tb),none]/\iK CT K H' tb (ups es) Y ys) (fun X2 hX2=>?_) ?_
 ·refine⟨_,rfl,_,rfl,b,_,rfl,.inl (SqL.of ebA),fun b2 hb2=>?_⟩;have sB:=aD hb2 (.lst ((ups es).map V.int));have eB:upd HA b2 (.lst ((ups es).map V.int)) b2=some (.lst ((ups es).map V.int)):=aB;generalize upd HA b2 (.lst ((ups es).map V.int))=HZ at sB eB ⊢;refine⟨zl9 2,fun p hp=>?_⟩;have s4':=aD hp (.tup [.int 5,.int 7]);have e4:Fq K (upd HZ p (.tup [.int 5,.int 7])) p (5,7):=SqT.of aB;generalize upd HZ p (.tup [.int 5,.int 7])=H4' at s4' e4 ⊢;refine⟨zl9 1,fun l1' hl1=>?_⟩;have s5':=aD hl1 (.lst [.ref p]);have e5:upd H4' l1' (.lst [.ref p]) l1'=some (.lst [.ref p]):=aB;generalize upd H4' l1' (.lst [.ref p])=H5' at s5' e5 ⊢;refine⟨_,rfl,b,_,rfl,.inl (SqL.of (((sB.trans s4').trans s5') _ _ ebA)),l1',(((ups es).map V.int).length:Int),[.ref p],rfl,rfl,e5,by lia,by lia,?_,fun A' hA=>?_⟩
  ·rw[Int.toNat_natCast,sizeLine_eq,lu];simp only[length_cons,length_nil];lia
  rw[Int.toNat_natCast,gO,lu];have s6':=aD hA (.lst (replicate es.length (.ref p)));have e6:upd H5' A' (.lst (replicate es.length (.ref p))) A'=some (.lst (replicate es.length (.ref p))):=aB;generalize upd H5' A' (.lst (replicate es.length (.ref p)))=H6' at s6' e6 ⊢;have s36:=s4'.trans (s5'.trans s6');have fz:Fqs K H6' (replicate es.length (.ref p)) (replicate es.length (5,7)):=iJ ((s5'.trans s6').fq e4) es.length;refine⟨n,l,A',m,dd,_,_,false,rfl,ntA.same (sB.trans s36),nb2,SqL.of e6,.inr ⟨b2,es,X,cs,rfl,s36 _ _ eB,ge,nh2,done,TV,SV,fz,fun _ tb Y ys HT sT T=>?_,fun z=>by cases z⟩⟩;exact hX2 _ _ ⟨sB.trans (s36.trans sT),tb,Y,ys,rfl,T⟩
 rintro σB HB ⟨sB,tb,Y,ys,rfl,TB'⟩;have ebB:=sB _ _ ebA;have ntB:=ntA.same sB;refine fU (fun σ' H'=>aK HB H'/\∃(ev:Addr) (zs:List V) (hs:List Mq.Q2),σ'=[some (.ref a),some (.int (m:Int)),some (.ref r),some (.ref n),some (.ref b),some (.int (o:Int)),z6,some (.ref hL),some (.ref aL),z9,some (.ref tb),some (.ref ev)]/\H' ev=some (.lst zs)/\Fqs K H' zs hs/\hs.length=m/\∀e∈es,hs[e]?=some (5,7)) (fun X2 hX2=>?_) ?_
 ·refine⟨_,rfl,_,rfl,b,_,rfl,.inl (SqL.of ebB),fun b2 hb2=>?_⟩;have sC:=aD hb2 (.lst ((ups es).map V.int));have eB:upd HB b2 (.lst ((ups es).map V.int)) b2=some (.lst ((ups es).map V.int)):=aB;generalize upd HB b2 (.lst ((ups es).map V.int))=HZ at sC eB ⊢;refine⟨zl9 2,fun p hp=>?_⟩;have s4':=aD hp (.tup [.int 5,.int 7]);have e4:Fq K (upd HZ p (.tup [.int 5,.int 7])) p (5,7):=SqT.of aB;generalize upd HZ p (.tup [.int 5,.int 7])=H4' at s4' e4 ⊢;refine⟨zl9 1,fun l1' hl1=>?_⟩;have s5':=aD hl1 (.lst [.ref p]);have e5:upd H4' l1' (.lst [.ref p]) l1'=some (.lst [.ref p]):=aB;generalize upd H4' l1' (.lst [.ref p])=H5' at s5' e5 ⊢;refine⟨_,rfl,b,_,rfl,.inl (SqL.of (((sC.trans s4').trans s5') _ _ ebB)),l1',(((ups es).map V.int).length:Int),[.ref p],rfl,rfl,e5,by lia,by lia,?_,fun A' hA=>?_⟩
  ·rw[Int.toNat_natCast,sizeLine_eq,lu];simp only[length_cons,length_nil];lia
  rw[Int.toNat_natCast,gO,lu];have s6':=aD hA (.lst (replicate es.length (.ref p)));have e6:upd H5' A' (.lst (replicate es.length (.ref p))) A'=some (.lst (replicate es.length (.ref p))):=aB;generalize upd H5' A' (.lst (replicate es.length (.ref p)))=H6' at s6' e6 ⊢;have s36:=s4'.trans (s5'.trans s6');have fz:Fqs K H6' (replicate es.length (.ref p)) (replicate es.length (5,7)):=iJ ((s5'.trans s6').fq e4) es.length;refine⟨n,l,A',m,dd,_,_,true,rfl,ntB.same (sC.trans s36),nb2,SqL.of e6,.inr ⟨b2,es,X,cs,rfl,s36 _ _ eB,ge,nh2,done,TV,SV,fz,(fun z=>by cases z),fun _ ev zs hs HT sT eT fT lh hh=>?_⟩⟩;exact hX2 _ _ ⟨sC.trans (s36.trans sT),ev,zs,hs,rfl,eT,fT,lh,hh⟩
 rintro σC HC ⟨sC,ev,zs,hs,rfl,ee,fe,lh,hh⟩;have ebC:=sC _ _ ebB;have TC:=TB'.same sC;obtain⟨dx,p1,p2,p3,q1,q2,ht,hrest⟩:=id TC.e;have lzs:=fe.length;refine fU (fun σ' H'=>σ'=[some (.ref a),some (.int (m:Int)),some (.ref r),some (.ref n),some (.ref b),some (.int (o:Int)),z6,some (.ref hL),some (.ref aL),z9,some (.ref tb),some (.ref ev)]/\H'=HC) (fun X2 hX2=>?_) ?_
 ·refine⟨_,_,false,rfl,.of (.ins ht TBx.cl tT.a tT.n tT.t tT.m),tT.k,_,rfl,eH ?_⟩;refine⟨_,_,true,rfl,.lst (SqL.of ee),rfl,_,rfl,eH ?_⟩;refine⟨_,rfl,ev,_,rfl,.inl (SqL.of ee),_,rfl,rfl,_,rfl,L2.ifF ?_ ?_⟩
  ·simp;lia
  exact hX2 _ _ ⟨rfl,rfl⟩
 rintro σD HD ⟨rfl,rfl⟩;refine⟨_,rfl,tb,dx,_,rfl,ht,Ao _ _ _ (by decide +kernel) (by decide +kernel) (by decide +kernel),tb,_,_,_,rfl,TC,fun l2 HE sE nl2 el2=>?_⟩;refine⟨_,rfl,Wp (neg:=false) (SqL.of el2) (SqL.of (sE _ _ ebC)) ⟨_,rfl,cT ?_⟩⟩;refine⟨_,rfl,b,rfl,⟨_,SqL.of (sE _ _ ebC)⟩,fun D hD=>?_⟩;have sD:=aD hD (.lst []);refine bX (xs:=(ups es).map V.int) (fun i zs' H'=>aK HE H'/\H' D=some (.lst zs')/\Fqs K H' zs' (replicate i (5,7))/\i<=es.length) ⟨sD,aB,.nil,by lia⟩ (fun i zs' H' h=>h.2.1) (fun i zs' H' _ h=>(sE.trans h.1).seq (SqL.of ebC)) ?_ ?_
 ·rintro i zs' x HF hx ⟨sF,eF,fF,li⟩ C hC;rw[gS,getElem?_map] at hx;obtain⟨e,he,rfl⟩:=Option.map_eq_some_iff.mp hx;have hi:i < es.length:=(List.getElem?_eq_some_iff.mp he).1;obtain⟨u,eu,fu⟩:=(fe.same (sE.trans sF)).at (hh e (mem_of_getElem? he));have lz:=fF.length;rw[length_replicate] at lz;refine⟨bU.1,bU.2,cT ?_⟩;refine⟨_,rfl,_,rfl,ev,_,_,_,rfl,rfl,SqL.of ((sE.trans sF) _ _ ee),cH eu,?_⟩;refine⟨eF,aW (by lia),hC _ _ ⟨sF.change hD,aB,?_,by lia⟩⟩;rw[replicate_succ'];exact(fF.app (.cons fu .nil)).upd eF
 ·rintro zs' HF ⟨sF,eF,fF,li⟩;rw[lu] at fF;refine⟨zl9 2,fun p hp=>?_⟩;have s4':=aD hp (.tup [.int 5,.int 7]);have e4:Fq K (upd HF p (.tup [.int 5,.int 7])) p (5,7):=SqT.of aB;generalize upd HF p (.tup [.int 5,.int 7])=H4' at s4' e4 ⊢;refine⟨zl9 1,fun l1' hl1=>?_⟩;have s5':=aD hl1 (.lst [.ref p]);have e5:upd H4' l1' (.lst [.ref p]) l1'=some (.lst [.ref p]):=aB;generalize upd H4' l1' (.lst [.ref p])=H5' at s5' e5 ⊢;refine⟨_,rfl,b,_,rfl,.inl (SqL.of ((((sE.trans sF).trans s4').trans s5') _ _ ebC)),l1',(((ups es).map V.int).length:Int),[.ref p],rfl,rfl,e5,by lia,by lia,?_,fun A' hA=>?_⟩
  ·rw[Int.toNat_natCast,sizeLine_eq,lu];simp only[length_cons,length_nil];lia
  rw[Int.toNat_natCast,gO,lu];have s6':=aD hA (.lst (replicate es.length (.ref p)));have e6:upd H5' A' (.lst (replicate es.length (.ref p))) A'=some (.lst (replicate es.length (.ref p))):=aB;generalize upd H5' A' (.lst (replicate es.length (.ref p)))=H6' at s6' e6 ⊢;have s36:=s4'.trans (s5'.trans s6');have fz:Fqs K H6' (replicate es.length (.ref p)) (replicate es.length (5,7)):=iJ ((s5'.trans s6').fq e4) es.length;refine Yg (neg:=false) (SqL.of (s36 _ _ eF)) (SqL.of e6) (fF.same s36) fz ?_;exact q _
end
theorem qb3 {P:Program}{w:World}{K:Frag}{mg:Str->Option Value}{base:Heap}{CP g:Addr}{gd:FuncData}(F:aJ P w K mg base (CX1 P w) 3 g gd ["some","many"] (Qo K CP)):aJ P w K mg base CX0 3 g gd ["some","many"] (Zq K):=
 F.calm.weak fun vs H Q E h=>by
  obtain⟨l,i,j,m,rfl,hl,i0,i1,j0,j1,q⟩:=h;have e:[V.int i,V.int j].all (rO m)=true:=by
   show (decide (0<=i/\i < m) && (decide (0<=j/\j < m) && true))=true;rw[decide_eq_true ⟨i0,i1⟩,decide_eq_true ⟨j0,j1⟩];rfl
  exact⟨l,_,m,rfl,hl,by simp,fun x hx=>by rcases mem_cons.mp hx with z | z;exact .inl ⟨i,z⟩;exact .inl ⟨j,mem_singleton.mp z⟩,fun _=>q,fun z=>by rw[e] at z;cases z⟩
theorem Wv {l:W.OpenLaw}{w:World}{K:Frag}{mg:Str->Option Value}{fa:Addr}(hfa:mg "law"=some (.ref fa)){c_Row c_Piece c_Push c_Hold c_Net c_Table c_OhmError c_NoPoint c_Floats c_Held c_Ring f1 f2 f3 f4 f5 f6 f7 f8 f9 f10 f11 f12 f13 f14 f15 f16 f17 f18 f19 f20 f21 f22 f23 f24 f25 f26 f27 f28 f29 f30 f31 f32 f33 f34 f35 f36 f37 f38 f39 f40 f41 f42 f43 f44 f45 f46 f47 f48 f49 f50 f51 f52 f53 f54 f55 f56 f57 f58 f59 f60 f61 f62 f63 f64 f65 f66 f67:Addr}{d1 d2 d3 d4 d5 d7 d8 d9 d10 d11 d12 d13 d14 d15 d16 d17 d18 d19 d20 d21 d22 d23 d24 d25 d26 d27 d28 d29 d30 d31 d32 d33 d34 d35 d36 d37 d38 d39 d40 d41 d42 d43 d44 d45 d46 d47 d48 d49 d50 d51 d52 d53 d54 d55 d56 d57 d58 d59 d60 d61 d62 d63 d64 d65 d66:FuncData}{od6 an6:Option Addr}{sl6:Array (Option Value)}{oc6 kV6 dc6 pm6 cd6 ct6:Value}{T6:Addr}{oT6:Value}{dT6:Option Addr}{nT6:Nat}{sT6:Array (Option Value)}{tk6:Tok}{od67 an67:Option Addr}{sl67:Array (Option Value)}{oc67 kV67 dc67 pm67 cd67 ct67:Value}{aO:Addr}{dO:Option Addr}{nO:Nat}{sO:Array (Option Value)}{t2 t3:Tok}{aN:Addr}{dN:Option Addr}{nN:Nat}{sN:Array (Option Value)}{t0 t1:Tok}{tM:Tok}{tR:Tok}(mc_Row:mI9 mg "Row" c_Row)(mc_Piece:mI9 mg "Piece" c_Piece)(mc_Push:mI9 mg "Push" c_Push)(mc_Hold:mI9 mg "Hold" c_Hold)(mc_Net:mI9 mg "Net" c_Net)(mc_Table:mI9 mg "Table" c_Table)(mc_OhmError:mI9 mg "OhmError" c_OhmError)(mc_NoPoint:mI9 mg "NoPoint" c_NoPoint)(mc_Floats:mI9 mg "Floats" c_Floats)(mc_Held:mI9 mg "Held" c_Held)(mc_Ring:mI9 mg "Ring" c_Ring)(a1_0:W.findIn K (.ref c_Floats) "__init__"=some (some (.ref f1)))(i1:W.isFn K (.ref f1)=true)(F1:aU K "__init__" "Floats.__init__" Fa .none f1 d1)(a2_0:W.findIn K (.ref c_Held) "__init__"=some (some (.ref f2)))(i2:W.isFn K (.ref f2)=true)(F2:aU K "__init__" "Held.__init__" Dc .none f2 d2)(m3:mI9 mg "is_whole" f3)(F3:aU K "is_whole" "is_whole" Cz .none f3 d3)(m4:mI9 mg "greatest_common" f4)(F4:aU K "greatest_common" "greatest_common" sGc .none f4 d4)(m5:mI9 mg "under" f5)(F5:aU K "under" "under" Et .none f5 d5)(m6:mI9 mg "fraction" f6)(l6:K.lookup f6=some ⟨oc6,od6,.func (W.fnOf "fraction" "fraction" (eU kE) (dU kE) (aH kE) (.ref T6) kV6 dc6 pm6 an6 cd6 ct6),sl6⟩)(c6:W.codeIn K cd6 "fraction"=true)(k6:kI9 K f6)(lt6:K.lookup T6=some ⟨oT6,dT6,.seq #[.int 1 tk6] nT6,sT6⟩)(m7:mI9 mg "minus" f7)(F7:aU K "minus" "minus" Cs .none f7 d7)(m8:mI9 mg "plus" f8)(F8:aU K "plus" "plus" Ms .none f8 d8)(m9:mI9 mg "times" f9)(F9:aU K "times" "times" Dr .none f9 d9)(m10:mI9 mg "over" f10)(F10:aU K "over" "over" Ko .none f10 d10)(m11:mI9 mg "total" f11)(F11:aU K "total" "total" Eb .none f11 d11)(m12:mI9 mg "is_fraction" f12)(F12:aU K "is_fraction" "is_fraction" Wx .none f12 d12)(a13_0:W.findIn K (.ref c_Piece) "__init__"=some (some (.ref f13)))(a13_1:W.findIn K (.ref c_Push) "__init__"=some (some (.ref f13)))(a13_2:W.findIn K (.ref c_Hold) "__init__"=some (some (.ref f13)))(i13:W.isFn K (.ref f13)=true)(F13:aU K "__init__" "Row.__init__" Dv .none f13 d13)(a14_0:W.findIn K (.ref c_Piece) "word"=some (some (.ref f14)))(i14:W.isFn K (.ref f14)=true)(F14:aU K "word" "Piece.word" uG .none f14 d14)(a15_0:W.findIn K (.ref c_Push) "word"=some (some (.ref f15)))(i15:W.isFn K (.ref f15)=true)(F15:aU K "word" "Push.word" tG .none f15 d15)(a16_0:W.findIn K (.ref c_Hold) "word"=some (some (.ref f16)))(i16:W.isFn K (.ref f16)=true)(F16:aU K "word" "Hold.word" tU .none f16 d16)(a17_0:W.findIn K (.ref c_Piece) "joins"=some (some (.ref f17)))(i17:W.isFn K (.ref f17)=true)(F17:aU K "joins" "Piece.joins" pY .none f17 d17)(a18_0:W.findIn K (.ref c_Push) "joins"=some (some (.ref f18)))(i18:W.isFn K (.ref f18)=true)(F18:aU K "joins" "Push.joins" pQ .none f18 d18)(a19_0:W.findIn K (.ref c_Hold) "joins"=some (some (.ref f19)))(i19:W.isFn K (.ref f19)=true)(F19:aU K "joins" "Hold.joins" qS .none f19 d19)(a20_0:W.findIn K (.ref c_Piece) "told"=some (some (.ref f20)))(a20_1:W.findIn K (.ref c_Push) "told"=some (some (.ref f20)))(a20_2:W.findIn K (.ref c_Hold) "told"=some (some (.ref f20)))(i20:W.isFn K (.ref f20)=true)(F20:aU K "told" "Row.told" Dk .none f20 d20)(m21:mI9 mg "row_of" f21)(F21:aU K "row_of" "row_of" Cw .none f21 d21)(m22:mI9 mg "is_piece_size" f22)(F22:aU K "is_piece_size" "is_piece_size" sPS .none f22 d22)(m23:mI9 mg "is_number_below" f23)(F23:aU K "is_number_below" "is_number_below" sNB .none f23 d23)(m24:mI9 mg "refuse_size" f24)(F24:aU K "refuse_size" "refuse_size" sRS .none f24 d24)(m25:mI9 mg "refuse_points" f25)(F25:aU K "refuse_points" "refuse_points" sRP .none f25 d25)(a26_0:W.findIn K (.ref c_Net) "__init__"=some (some (.ref f26)))(i26:W.isFn K (.ref f26)=true)(F26:aU K "__init__" "Net.__init__" Dn .none f26 d26)(a27_0:W.findIn K (.ref c_Net) "many"=some (some (.ref f27)))(i27:W.isFn K (.ref f27)=true)(F27:aU K "many" "Net.many" Nz .none f27 d27)(a28_0:W.findIn K (.ref c_Net) "told"=some (some (.ref f28)))(i28:W.isFn K (.ref f28)=true)(F28:aU K "told" "Net.told" Cm .none f28 d28)(a29_0:W.findIn K (.ref c_Net) "add"=some (some (.ref f29)))(i29:W.isFn K (.ref f29)=true)(F29:aU K "add" "Net.add" Wz .none f29 d29)(a30_0:W.findIn K (.ref c_Net) "rows"=some (some (.ref f30)))(i30:W.isFn K (.ref f30)=true)(F30:aU K "rows" "Net.rows" Mw .none f30 d30)(m31:mI9 mg "joined" f31)(F31:aU K "joined" "joined" yY .none f31 d31)(m32:mI9 mg "marks_of" f32)(F32:aU K "marks_of" "marks_of" Er .none f32 d32)(m33:mI9 mg "groups" f33)(F33:aU K "groups" "groups" xO .none f33 d33)(m34:mI9 mg "refuse_holds" f34)(F34:aU K "refuse_holds" "refuse_holds" Wy .none f34 d34)(m35:mI9 mg "in_wholes" f35)(F35:aU K "in_wholes" "in_wholes" sIW .none f35 d35)(m36:mI9 mg "over_pivot" f36)(F36:aU K "over_pivot" "over_pivot" Ct .none f36 d36)(m37:mI9 mg "pivot_place" f37)(F37:aU K "pivot_place" "pivot_place" Yn .none f37 d37)(m38:mI9 mg "cleared" f38)(F38:aU K "cleared" "cleared" Wj .none f38 d38)(m39:mI9 mg "cleared_rows" f39)(F39:aU K "cleared_rows" "cleared_rows" tV .none f39 d39)(m40:mI9 mg "eliminated" f40)(F40:aU K "eliminated" "eliminated" Nn .none f40 d40)(m41:mI9 mg "solved" f41)(F41:aU K "solved" "solved" xY .none f41 d41)(m42:mI9 mg "reduced" f42)(F42:aU K "reduced" "reduced" Vv .none f42 d42)(m43:mI9 mg "raise_at" f43)(F43:aU K "raise_at" "raise_at" Ck .none f43 d43)(m44:mI9 mg "enter_stream" f44)(F44:aU K "enter_stream" "enter_stream" Dz .none f44 d44)(m45:mI9 mg "enter_piece" f45)(F45:aU K "enter_piece" "enter_piece" yG .none f45 d45)(m46:mI9 mg "enter_push" f46)(F46:aU K "enter_push" "enter_push" zF .none f46 d46)(a47_0:W.findIn K (.ref c_Table) "__init__"=some (some (.ref f47)))(i47:W.isFn K (.ref f47)=true)(F47:aU K "__init__" "Table.__init__" Dj .none f47 d47)(a48_0:W.findIn K (.ref c_Table) "ends"=some (some (.ref f48)))(i48:W.isFn K (.ref f48)=true)(F48:aU K "ends" "Table.ends" Eh .none f48 d48)(m49:mI9 mg "along" f49)(F49:aU K "along" "along" Fb .none f49 d49)(a50_0:W.findIn K (.ref c_Table) "brought"=some (some (.ref f50)))(i50:W.isFn K (.ref f50)=true)(F50:aU K "brought" "Table.brought" tS .none f50 d50)(m51:mI9 mg "picked" f51)(F51:aU K "picked" "picked" Pn .none f51 d51)(m52:mI9 mg "narrowed" f52)(F52:aU K "narrowed" "narrowed" Yd .none f52 d52)(m53:mI9 mg "loose_points" f53)(F53:aU K "loose_points" "loose_points" Dg .none f53 d53)(m54:mI9 mg "refuse_ends" f54)(F54:aU K "refuse_ends" "refuse_ends" Fe .none f54 d54)(m55:mI9 mg "table_of_all" f55)(F55:aU K "table_of_all" "table_of_all" Pl .none f55 d55)(m56:mI9 mg "table_of" f56)(F56:aU K "table_of" "table_of" Xg .none f56 d56)(m57:mI9 mg "inner_heights" f57)(F57:aU K "inner_heights" "inner_heights" sIH .none f57 d57)(m58:mI9 mg "_law_nth" f58)(F58:aU K "_law_nth" "_law_nth" Wf .none f58 d58)(m59:mI9 mg "_law_an_int" f59)(F59:aU K "_law_an_int" "_law_an_int" Cq .none f59 d59)(m60:mI9 mg "_law_net" f60)(F60:aU K "_law_net" "_law_net" Dh .none f60 d60)(m61:mI9 mg "_law_rows" f61)(F61:aU K "_law_rows" "_law_rows" Ek .none f61 d61)(m62:mI9 mg "_law_holds" f62)(F62:aU K "_law_holds" "_law_holds" Ej .none f62 d62)(m63:mI9 mg "_law_apart" f63)(F63:aU K "_law_apart" "_law_apart" Dm .none f63 d63)(m64:mI9 mg "_law_asked" f64)(F64:aU K "_law_asked" "_law_asked" Dy .none f64 d64)(m65:mI9 mg "_law_both" f65)(F65:aU K "_law_both" "_law_both" Mi .none f65 d65)(m66:mI9 mg "_law_spoiled" f66)(F66:aU K "_law_spoiled" "_law_spoiled" Xb .none f66 d66)(m67:mI9 mg "law" f67)(l67:K.lookup f67=some ⟨oc67,od67,.func (W.fnOf "law" "law" (eU yE) (dU yE) (aH yE) .none kV67 dc67 pm67 an67 cd67 ct67),sl67⟩)(c67:W.codeIn K cd67 "law"=true)(k67:kI9 K f67)(mv_ONE:mI9 mg "ONE" aO)(mv_NOUGHT:mI9 mg "NOUGHT" aN)(mv_MOST_POINTS:mg "MOST_POINTS"=some (.int 20 tM))(mv_MOST_ROWS:mg "MOST_ROWS"=some (.int 40 tR))(lO:K.lookup aO=some ⟨.type "tuple",dO,.seq #[.int 1 t2,.int 1 t3] nO,sO⟩)(lN:K.lookup aN=some ⟨.type "tuple",dN,.seq #[.int 0 t0,.int 1 t1] nN,sN⟩){nF qF:Str}{NF:Addr}{bsF:List Value}{snF:List Str}{suF:List Value}{abF:Bool}{coF:Option Bool}{ddF:Option Addr}{k0F k1F k2F k3F k5F:Option Value}(lF:K.lookup c_Floats=some (excClassObj nF qF c_Floats NF bsF (.ref c_OhmError :: rK) true snF suF abF coF ddF k0F k1F k2F k3F k5F "ValueError.__new__")){nH qH:Str}{NH:Addr}{bsH:List Value}{snH:List Str}{suH:List Value}{abH:Bool}{coH:Option Bool}{ddH:Option Addr}{k0H k1H k2H k3H k5H:Option Value}(lH:K.lookup c_Held=some (excClassObj nH qH c_Held NH bsH (.ref c_OhmError :: rK) true snH suH abH coH ddH k0H k1H k2H k3H k5H "ValueError.__new__")){nE qE:Str}{NE:Addr}{bsE:List Value}{snE:List Str}{suE:List Value}{abE:Bool}{coE:Option Bool}{ddE:Option Addr}{k0E k1E k2E k3E k5E:Option Value}{hdE:Bool}(lE:K.lookup c_OhmError=some (excClassObj nE qE c_OhmError NE bsE rK hdE snE suE abE coE ddE k0E k1E k2E k3E k5E "ValueError.__new__"))(x1_OhmError:W.excIn K c_OhmError rK "ValueError.__new__"=true)(x1_NoPoint:W.excIn K c_NoPoint rK "ValueError.__new__"=true)(tyF:W.typeIn K (.ref f1)=some (.type "function"))(tyH:W.typeIn K (.ref f2)=some (.type "function"))(ci1:W.specialIn K (.ref c_OhmError) "__getattribute__"=some (some (.builtin "type.__getattribute__")))(ci2:W.readsIn K c_OhmError (.type "type")=true)(ci3:W.findCls K (.ref c_OhmError) (.type "type") "__init__"=some (.val (.builtin "ValueError.__init__")))(sa_F:W.findIn K (.ref c_Floats) "__setattr__"=some (some (.builtin "object.__setattr__")))(sa_H:W.findIn K (.ref c_Held) "__setattr__"=some (some (.builtin "object.__setattr__")))(no_F:W.findIn K (.ref c_Floats) "points"=some none)(no_H:W.findIn K (.ref c_Held) "number"=some none)(hd_F:W.hasDictIn K c_Floats=true)(hd_H:W.hasDictIn K c_Held=true)(eFF:W.exmOne K (.ref c_Floats) (.ref c_Floats)=some true)(eHF:W.exmOne K (.ref c_Held) (.ref c_Floats)=some false)(eHH:W.exmOne K (.ref c_Held) (.ref c_Held)=some true)(ePF:W.exmOne K (.ref c_NoPoint) (.ref c_Floats)=some false)(ePH:W.exmOne K (.ref c_NoPoint) (.ref c_Held)=some false)(ePP:W.exmOne K (.ref c_NoPoint) (.ref c_NoPoint)=some true)(tF:W.kitAny K (.ref c_Floats) [.ref c_Held,.ref c_NoPoint,.ref c_Ring]=some false)(tH:W.kitAny K (.ref c_Held) [.ref c_Floats,.ref c_NoPoint,.ref c_Ring]=some false)(tP:W.kitAny K (.ref c_NoPoint) [.ref c_Floats,.ref c_Held,.ref c_Ring]=some false)(oF:W.kitOne K (.ref c_Floats) (.ref c_OhmError)=some true)(oH:W.kitOne K (.ref c_Held) (.ref c_OhmError)=some true)(oP:W.kitOne K (.ref c_NoPoint) (.ref c_OhmError)=some true)(kT:W.kitOne K (.ref c_Table) (.type "tuple")=some false)(x2_Floats:W.findIn K (.ref c_Floats) "__getattribute__"=some (some (.builtin "BaseException.__getattribute__")))(x3_Floats:W.findIn K (.ref c_Floats) "__getattr__"=some none)(x4_Floats:W.mroIn K c_Floats (.type "BaseException")=some true)(x5_Floats:W.mroIn K c_Floats (.type "object")=some true)(x6_Floats:W.findIn K (.ref c_Floats) "__class__"=some (some (.builtin "object.__class__")))(x7_Floats:W.specialIn K (.builtin "object.__class__") "__get__"=some (some (.builtin "getset_descriptor.__get__")))(x8_Floats:W.takesIn K (.builtin "object.__class__")=some true)(x9_Floats:(W.clsIn K c_Floats).isSome=true)(x2_Held:W.findIn K (.ref c_Held) "__getattribute__"=some (some (.builtin "BaseException.__getattribute__")))(x3_Held:W.findIn K (.ref c_Held) "__getattr__"=some none)(x4_Held:W.mroIn K c_Held (.type "BaseException")=some true)(x5_Held:W.mroIn K c_Held (.type "object")=some true)(x6_Held:W.findIn K (.ref c_Held) "__class__"=some (some (.builtin "object.__class__")))(x7_Held:W.specialIn K (.builtin "object.__class__") "__get__"=some (some (.builtin "getset_descriptor.__get__")))(x8_Held:W.takesIn K (.builtin "object.__class__")=some true)(x9_Held:(W.clsIn K c_Held).isSome=true)(x2_NoPoint:W.findIn K (.ref c_NoPoint) "__getattribute__"=some (some (.builtin "BaseException.__getattribute__")))(x3_NoPoint:W.findIn K (.ref c_NoPoint) "__getattr__"=some none)(x4_NoPoint:W.mroIn K c_NoPoint (.type "BaseException")=some true)(x5_NoPoint:W.mroIn K c_NoPoint (.type "object")=some true)(x6_NoPoint:W.findIn K (.ref c_NoPoint) "__class__"=some (some (.builtin "object.__class__")))(x7_NoPoint:W.specialIn K (.builtin "object.__class__") "__get__"=some (some (.builtin "getset_descriptor.__get__")))(x8_NoPoint:W.takesIn K (.builtin "object.__class__")=some true)(x9_NoPoint:(W.clsIn K c_NoPoint).isSome=true)(pg_Piece:W.plainGet K c_Piece Str.empty=true)(hd_Piece:W.hasDictIn K c_Piece=true)(po_Piece:W.plainOver K c_Piece=true)(sa_Piece:W.findIn K (.ref c_Piece) "__setattr__"=some (some (.builtin "object.__setattr__")))(mk_Piece:W.makesIn K c_Piece=true)(kc_Piece:kI9 K c_Piece)(t1_Piece:W.findIn K (.ref c_Piece) "__class__"=some (some (.builtin "object.__class__")))(t4_Piece:W.mroIn K c_Piece (.type "object")=some true)(na_Piece_start:W.findIn K (.ref c_Piece) "start"=some none)(na_Piece_goal:W.findIn K (.ref c_Piece) "goal"=some none)(na_Piece_size:W.findIn K (.ref c_Piece) "size"=some none)(pg_Push:W.plainGet K c_Push Str.empty=true)(hd_Push:W.hasDictIn K c_Push=true)(po_Push:W.plainOver K c_Push=true)(sa_Push:W.findIn K (.ref c_Push) "__setattr__"=some (some (.builtin "object.__setattr__")))(mk_Push:W.makesIn K c_Push=true)(kc_Push:kI9 K c_Push)(t1_Push:W.findIn K (.ref c_Push) "__class__"=some (some (.builtin "object.__class__")))(t4_Push:W.mroIn K c_Push (.type "object")=some true)(na_Push_start:W.findIn K (.ref c_Push) "start"=some none)(na_Push_goal:W.findIn K (.ref c_Push) "goal"=some none)(na_Push_size:W.findIn K (.ref c_Push) "size"=some none)(pg_Hold:W.plainGet K c_Hold Str.empty=true)(hd_Hold:W.hasDictIn K c_Hold=true)(po_Hold:W.plainOver K c_Hold=true)(sa_Hold:W.findIn K (.ref c_Hold) "__setattr__"=some (some (.builtin "object.__setattr__")))(mk_Hold:W.makesIn K c_Hold=true)(kc_Hold:kI9 K c_Hold)(t1_Hold:W.findIn K (.ref c_Hold) "__class__"=some (some (.builtin "object.__class__")))(t4_Hold:W.mroIn K c_Hold (.type "object")=some true)(na_Hold_start:W.findIn K (.ref c_Hold) "start"=some none)(na_Hold_goal:W.findIn K (.ref c_Hold) "goal"=some none)(na_Hold_size:W.findIn K (.ref c_Hold) "size"=some none)(tt2:W.specialIn K (.builtin "object.__class__") "__get__"=some (some (.builtin "getset_descriptor.__get__")))(tt3:W.takesIn K (.builtin "object.__class__")=some true)(isR_Piece:W.kitOne K (.ref c_Piece) (.ref c_Row)=some true)(isR_Push:W.kitOne K (.ref c_Push) (.ref c_Row)=some true)(isR_Hold:W.kitOne K (.ref c_Hold) (.ref c_Row)=some true)(isK_Piece_Push:W.kitOne K (.ref c_Piece) (.ref c_Push)=some false)(isK_Piece_Hold:W.kitOne K (.ref c_Piece) (.ref c_Hold)=some false)(isK_Push_Piece:W.kitOne K (.ref c_Push) (.ref c_Piece)=some false)(isK_Push_Hold:W.kitOne K (.ref c_Push) (.ref c_Hold)=some false)(isK_Hold_Piece:W.kitOne K (.ref c_Hold) (.ref c_Piece)=some false)(isK_Hold_Push:W.kitOne K (.ref c_Hold) (.ref c_Push)=some false)(pg_Net:W.plainGet K c_Net Str.empty=true)(hd_Net:W.hasDictIn K c_Net=true)(po_Net:W.plainOver K c_Net=true)(sa_Net:W.findIn K (.ref c_Net) "__setattr__"=some (some (.builtin "object.__setattr__")))(mk_Net:W.makesIn K c_Net=true)(kc_Net:kI9 K c_Net)(t1_Net:W.findIn K (.ref c_Net) "__class__"=some (some (.builtin "object.__class__")))(t4_Net:W.mroIn K c_Net (.type "object")=some true)(na_Net_point_count:W.findIn K (.ref c_Net) "point_count"=some none)(na_Net_kept:W.findIn K (.ref c_Net) "kept"=some none)(pg_Table:W.plainGet K c_Table Str.empty=true)(hd_Table:W.hasDictIn K c_Table=true)(po_Table:W.plainOver K c_Table=true)(sa_Table:W.findIn K (.ref c_Table) "__setattr__"=some (some (.builtin "object.__setattr__")))(mk_Table:W.makesIn K c_Table=true)(kc_Table:kI9 K c_Table)(t1_Table:W.findIn K (.ref c_Table) "__class__"=some (some (.builtin "object.__class__")))(t4_Table:W.mroIn K c_Table (.type "object")=some true)(na_Table_places:W.findIn K (.ref c_Table) "places"=some none)(na_Table_lines:W.findIn K (.ref c_Table) "lines"=some none)(na_Table_arrivals:W.findIn K (.ref c_Table) "arrivals"=some none)(n_isinstance:mg "isinstance"=none)(n_int:mg "int"=none)(n_bool:mg "bool"=none)(n_abs:mg "abs"=none)(n_len:mg "len"=none)(n_range:mg "range"=none)(n_str:mg "str"=none)(n_tuple:mg "tuple"=none)(n_list:mg "list"=none)(n_all:mg "all"=none)(n_any:mg "any"=none)(n_sorted:mg "sorted"=none)(n_set:mg "set"=none)(n_zip:mg "zip"=none)(n_enumerate:mg "enumerate"=none) :
  ∃fd:FuncData,(∀(s:Shared) (v:Value),BindsTo s fd ⟨[v],[]⟩ [("_law_script",v)])/\∀base:Heap,K.In base->base.Ns mainGlobals mg->aJ l.prog w K mg base CX0 12 fa fd ["_law_script"] (Hi K):=by
 have e:=hfa.symm.trans m67
 cases e
 have b1:=F1.b2 "self" "points" (by intros;rfl);have b2:=F2.b2 "self" "number" (by intros;rfl);have b3:=F3.b1 "thing" (by intros;rfl);have b4:=F4.b2 "one" "other" (by intros;rfl);have b5:=F5.b2 "one" "other" (by intros;rfl);have F6:=zH (st:=kE) l6 c6 k6;have b6:aP K _ ["top","bottom"] []:=fun s us XX hl=>match us,hl with | [_,_],_=>W.binds_K (fd:=W.fnOf "fraction" "fraction" (eU kE) (dU kE) (aH kE) (.ref T6) kV6 dc6 pm6 an6 cd6 ct6) XX rfl lt6 rfl rfl rfl
 have bd6:aP K _ ["top","bottom"] [.int 1 tk6]:=fun s us XX hl=>match us,(show us.length=1 by simp at hl;lia) with | [_],_=>W.binds_K (fd:=W.fnOf "fraction" "fraction" (eU kE) (dU kE) (aH kE) (.ref T6) kV6 dc6 pm6 an6 cd6 ct6) XX rfl lt6 rfl rfl rfl
 have b7:=F7.b2 "one" "other" (by intros;rfl);have b8:=F8.b2 "one" "other" (by intros;rfl);have b9:=F9.b2 "one" "other" (by intros;rfl);have b10:=F10.b2 "one" "other" (by intros;rfl);have b11:=F11.b1 "some" (by intros;rfl);have b12:=F12.b1 "thing" (by intros;rfl);have b13:=F13.b4 "self" "start" "goal" "size" (by intros;rfl);have b14:=F14.b1 "self" (by intros;rfl);have b15:=F15.b1 "self" (by intros;rfl);have b16:=F16.b1 "self" (by intros;rfl);have b17:=F17.b1 "self" (by intros;rfl);have b18:=F18.b1 "self" (by intros;rfl);have b19:=F19.b1 "self" (by intros;rfl);have b20:=F20.b1 "self" (by intros;rfl);have b21:=F21.b1 "told" (by intros;rfl);have b22:=F22.b1 "thing" (by intros;rfl);have b23:=F23.b2 "thing" "bound" (by intros;rfl);have b24:=F24.b2 "word" "size" (by intros;rfl);have b25:=F25.b2 "some" "many" (by intros;rfl);have b26:=F26.b2 "self" "many" (by intros;rfl);have b27:=F27.b1 "self" (by intros;rfl);have b28:=F28.b1 "self" (by intros;rfl);have b29:=F29.b2 "self" "row" (by intros;rfl);have b30:=F30.b1 "self" (by intros;rfl);have b31:=F31.b2 "marks" "row" (by intros;rfl);have b32:=F32.b1 "net" (by intros;rfl);have b33:=F33.b1 "net" (by intros;rfl);have b34:=F34.b1 "net" (by intros;rfl);have b35:=F35.b1 "some" (by intros;rfl);have b36:=F36.b2 "tops" "pivot" (by intros;rfl);have b37:=F37.b3 "rows" "rank" "column" (by intros;rfl);have b38:=F38.b4 "row" "upper" "column" "divisor" (by intros;rfl);have b39:=F39.b4 "rows" "rank" "column" "divisor" (by intros;rfl);have b40:=F40.b2 "rows" "width" (by intros;rfl);have b41:=F41.b2 "matrix" "right" (by intros;rfl);have b42:=F42.b2 "matrix" "count" (by intros;rfl);have b43:=F43.b3 "line" "column" "amount" (by intros;rfl);have b44:=F44.b4 "matrix" "row" "column" "amount" (by intros;rfl);have b45:=F45.b2 "matrix" "row" (by intros;rfl);have b46:=F46.b2 "right" "row" (by intros;rfl);have b47:=F47.b4 "self" "ends" "matrix" "comes" (by intros;rfl);have b48:=F48.b1 "self" (by intros;rfl);have b49:=F49.b2 "line" "heights" (by intros;rfl);have b50:=F50.b2 "self" "heights" (by intros;rfl);have b51:=F51.b2 "matrix" "places" (by intros;rfl);have b52:=F52.b2 "table" "ends" (by intros;rfl);have b53:=F53.b2 "net" "ends" (by intros;rfl);have b54:=F54.b2 "net" "ends" (by intros;rfl);have b55:=F55.b1 "net" (by intros;rfl);have b56:=F56.b2 "net" "ends" (by intros;rfl);have b57:=F57.b3 "net" "ends" "heights" (by intros;rfl);have b58:=F58.b2 "_law_script" "_law_k" (by intros;rfl);have b59:=F59.b1 "_law_found" (by intros;rfl);have b60:=F60.b2 "_law_many" "_law_rows_here" (by intros;rfl);have b61:=F61.b2 "_law_script" "_law_many" (by intros;rfl);have b62:=F62.b3 "_law_script" "_law_rows_here" "_law_many" (by intros;rfl);have b63:=F63.b3 "_law_many" "_law_rows_here" "_law_ends" (by intros;rfl);have b64:=F64.b4 "_law_net_here" "_law_ends" "_law_heights" "_law_backwards" (by intros;rfl);have b65:=F65.b3 "_law_net_here" "_law_ends" "_law_due" (by intros;rfl);have b66:=F66.b3 "_law_script" "_law_many" "_law_ends" (by intros;rfl);have F67:=zH (st:=yE) l67 c67 k67;refine⟨W.fnOf "law" "law" (eU yE) (dU yE) (aH yE) .none kV67 dc67 pm67 an67 cd67 ct67,fun s v=>.of_eq rfl,fun base _ _=>?_⟩;have bl:Bl mg:=⟨n_isinstance,n_int,n_bool,n_abs⟩
 have T:RT K mg c_Row (kd3 c_Piece c_Push c_Hold):=⟨jD ⟨pg_Piece,hd_Piece,po_Piece,sa_Piece⟩ ⟨pg_Push,hd_Push,po_Push,sa_Push⟩ ⟨pg_Hold,hd_Hold,po_Hold,sa_Hold⟩,jD na_Piece_start na_Push_start na_Hold_start,jD na_Piece_goal na_Push_goal na_Hold_goal,jD na_Piece_size na_Push_size na_Hold_size,jD t1_Piece t1_Push t1_Hold,tt2,tt3,jD t4_Piece t4_Push t4_Hold,jD isR_Piece isR_Push isR_Hold,jD (jD (uM _ _) isK_Piece_Push isK_Piece_Hold) (jD isK_Push_Piece (uM _ _) isK_Push_Hold) (jD isK_Hold_Piece isK_Hold_Push (uM _ _)),mc_Row,jD mc_Piece mc_Push mc_Hold⟩
 have fN:∀H,Fq K H aN (0,1):=Fq.mod lN;have fO:∀H,Fq K H aO (1,1):=Fq.mod lO;have NTx:NT K mg c_Net:=⟨⟨pg_Net,hd_Net,po_Net,sa_Net⟩,na_Net_point_count,na_Net_kept,t1_Net,tt2,tt3,t4_Net,mc_Net⟩
 have TBx:TB K mg c_Table:=⟨⟨pg_Table,hd_Table,po_Table,sa_Table⟩,na_Table_places,na_Table_lines,na_Table_arrivals,mc_Table⟩
 have tT:TyT K c_Table:=⟨t1_Table,tt2,tt3,t4_Table,kT⟩
 have cE:ErC K mg c_NoPoint c_Held c_Floats c_Ring c_OhmError:=⟨mc_Floats,mc_Held,mc_NoPoint,mc_Ring,mc_OhmError,⟨x2_Floats,x3_Floats,x4_Floats,x5_Floats,x6_Floats,x7_Floats,x8_Floats,x9_Floats⟩,⟨x2_Held,x3_Held,x4_Held,x5_Held,x6_Held,x7_Held,x8_Held,x9_Held⟩,⟨x2_NoPoint,x3_NoPoint,x4_NoPoint,x5_NoPoint,x6_NoPoint,x7_NoPoint,x8_NoPoint,x9_NoPoint⟩,hd_F,hd_H,no_F,no_H,eFF,eHF,eHH,ePF,ePH,ePP,tF,tH,tP,oF,oH,oP⟩
 have qIF:oB K c_Floats c_OhmError f1:=⟨⟨_,_,_,_,_,_,_,_,_,_,_,_,_,_,lF⟩,⟨_,_,_,_,_,_,_,_,_,_,_,_,_,_,_,lE⟩,x1_OhmError,a1_0,tyF⟩
 have qIH:oB K c_Held c_OhmError f2:=⟨⟨_,_,_,_,_,_,_,_,_,_,_,_,_,_,lH⟩,⟨_,_,_,_,_,_,_,_,_,_,_,_,_,_,_,lE⟩,x1_OhmError,a2_0,tyH⟩
 have cI:Ru K c_OhmError:=⟨ci1,ci2,ci3⟩
 have qFF:Ls K c_Floats "points":=⟨sa_F,no_F⟩
 have qFH:Ls K c_Held "number":=⟨sa_H,no_H⟩
 have R1:=Pp (P:=l.prog) (w:=w) (K:=K) (mg:=mg) (base:=base) (CX:=CX0) F1 qIF cI qFF mc_OhmError n_tuple n_list;have R2:=Qi (P:=l.prog) (w:=w) (K:=K) (mg:=mg) (base:=base) (CX:=CX0) F2 qIH cI qFH mc_OhmError;have R3:=Pm (P:=l.prog) (w:=w) (K:=K) (mg:=mg) (base:=base) (CX:=CX0) F3 bl;have R4:=qd0 (P:=l.prog) (w:=w) (K:=K) (mg:=mg) (base:=base) (CX:=CX0) F4 bl;have R5:=Nh (P:=l.prog) (w:=w) (K:=K) (mg:=mg) (base:=base) (CX:=CX0) F5;have R6:=Uk (P:=l.prog) (w:=w) (K:=K) (mg:=mg) (base:=base) (CX:=CX0) F6  R3 b3 F3.kp m3 R4 b4 F4.kp m4;have R7:=Od (P:=l.prog) (w:=w) (K:=K) (mg:=mg) (base:=base) (CX:=CX0) F7  R6 b6 F6.kp m6;have R8:=Ss (P:=l.prog) (w:=w) (K:=K) (mg:=mg) (base:=base) (CX:=CX0) F8  R6 b6 F6.kp m6;have R9:=On (P:=l.prog) (w:=w) (K:=K) (mg:=mg) (base:=base) (CX:=CX0) F9  R6 b6 F6.kp m6;have R10:=Sj (P:=l.prog) (w:=w) (K:=K) (mg:=mg) (base:=base) (CX:=CX0) F10  R6 b6 F6.kp m6;have R11:=Nb (P:=l.prog) (w:=w) (K:=K) (mg:=mg) (base:=base) (CX:=CX0) F11 fN mv_NOUGHT R8 b8 F8.kp m8;have R12:=Yx (P:=l.prog) (w:=w) (K:=K) (mg:=mg) (base:=base) (CX:=CX0) F12 bl n_len n_tuple R3 b3 F3.kp m3 R4 b4 F4.kp m4;have R13:=Qb (P:=l.prog) (w:=w) (K:=K) (mg:=mg) (base:=base) (CX:=CX0) F13 T;have R14:=Ef (P:=l.prog) (w:=w) (K:=K) (mg:=mg) (base:=base) (CX:=CX0) F14;have R15:=Ev (P:=l.prog) (w:=w) (K:=K) (mg:=mg) (base:=base) (CX:=CX0) F15;have R16:=En (P:=l.prog) (w:=w) (K:=K) (mg:=mg) (base:=base) (CX:=CX0) F16;have GW:∀k,aJ l.prog w K mg base CX0 1 (kd3 f14 f15 f16 k) (kd3 _ _ _ k) ["self"] (kU k):=jD (R14) (R15) (R16);have bW:∀k,aP K (kd3 _ _ _ k) ["self"] []:=jD (b14) (b15) (b16);have mW:∀k,iB K (kd3 c_Piece c_Push c_Hold k) "word" (kd3 f14 f15 f16 k):=jD (⟨a14_0,i14,F14.kp⟩) (⟨a15_0,i15,F15.kp⟩) (⟨a16_0,i16,F16.kp⟩);have R17:=Ab (P:=l.prog) (w:=w) (K:=K) (mg:=mg) (base:=base) (CX:=CX0) F17;have R18:=Ce (P:=l.prog) (w:=w) (K:=K) (mg:=mg) (base:=base) (CX:=CX0) F18;have R19:=zY (P:=l.prog) (w:=w) (K:=K) (mg:=mg) (base:=base) (CX:=CX0) F19;have GJ:∀k,aJ l.prog w K mg base CX0 1 (kd3 f17 f18 f19 k) (kd3 _ _ _ k) ["self"] (oG k):=jD (R17) (R18) (R19);have bJ:∀k,aP K (kd3 _ _ _ k) ["self"] []:=jD (b17) (b18) (b19);have mJ:∀k,iB K (kd3 c_Piece c_Push c_Hold k) "joins" (kd3 f17 f18 f19 k):=jD (⟨a17_0,i17,F17.kp⟩) (⟨a18_0,i18,F18.kp⟩) (⟨a19_0,i19,F19.kp⟩);have R20:=Km (P:=l.prog) (w:=w) (K:=K) (mg:=mg) (base:=base) (CX:=CX0) F20 T GW bW mW;have mT:∀k,iB K (kd3 c_Piece c_Push c_Hold k) "told" f20:=jD (⟨a20_0,i20,F20.kp⟩) (⟨a20_1,i20,F20.kp⟩) (⟨a20_2,i20,F20.kp⟩);have MK:∀k,Mk K (kd3 c_Piece c_Push c_Hold k) f13:=jD (⟨mk_Piece,a13_0,i13,kc_Piece⟩) (⟨mk_Push,a13_1,i13,kc_Push⟩) (⟨mk_Hold,a13_2,i13,kc_Hold⟩);have R21:=Np (P:=l.prog) (w:=w) (K:=K) (mg:=mg) (base:=base) (CX:=CX0) F21 T bl n_str R13 b13 MK;have R22:=qd4 (P:=l.prog) (w:=w) (K:=K) (mg:=mg) (base:=base) (CX:=CX0) F22 fN mv_NOUGHT (Ae R12) b12 F12.kp m12 R5 b5 F5.kp m5;have R23:=Wq (P:=l.prog) (w:=w) (K:=K) (mg:=mg) (base:=base) (CX:=CX0) F23  R3 b3 F3.kp m3;have R24:=Zf (P:=l.prog) (w:=w) (K:=K) (mg:=mg) (base:=base) (CX:=CX0) F24 (Ae R12) b12 F12.kp m12 R22 b22 F22.kp m22;have R25:=Xu (P:=l.prog) (w:=w) (K:=K) (mg:=mg) (base:=base) F25 n_all R23 b23 F23.kp m23 mc_NoPoint x1_NoPoint;have R26:=Mb (P:=l.prog) (w:=w) (K:=K) (mg:=mg) (base:=base) (CX:=CX0) F26 NTx mv_MOST_POINTS R3 b3 F3.kp m3;have R27:=Td (P:=l.prog) (w:=w) (K:=K) (mg:=mg) (base:=base) (CX:=CX0) F27 NTx;have R28:=Qn (P:=l.prog) (w:=w) (K:=K) (mg:=mg) (base:=base) (CX:=CX0) F28 NTx n_list;have R29:=Wc (P:=l.prog) (w:=w) (K:=K) (mg:=mg) (base:=base) (CX:=CX0) F29 NTx mv_MOST_ROWS n_len T R20 b20 mT (qb3 R25) b25 F25.kp m25 R24 b24 F24.kp m24;have R30:=Tj (P:=l.prog) (w:=w) (K:=K) (mg:=mg) (base:=base) (CX:=CX0) F30 NTx R21 b21 F21.kp m21;have MN:Mk K c_Net f26:=⟨mk_Net,a26_0,i26,kc_Net⟩
 have R31:=Jw (P:=l.prog) (w:=w) (K:=K) (mg:=mg) (base:=base) (CX:=CX0) F31 T;have R32:=Pg (P:=l.prog) (w:=w) (K:=K) (mg:=mg) (base:=base) (CX:=CX0) F32 n_list n_range NTx T GJ bJ mJ R27 b27 ⟨a27_0,i27,F27.kp⟩ R30 b30 ⟨a30_0,i30,F30.kp⟩ R31 b31 F31.kp m31;have R33:=Ju (P:=l.prog) (w:=w) (K:=K) (mg:=mg) (base:=base) (CX:=CX0) F33 n_enumerate n_list R32 b32 F32.kp m32;have R34:=Vt (P:=l.prog) (w:=w) (K:=K) (mg:=mg) (base:=base) F34 NTx n_enumerate T GW bW mW mc_Held qIH R2 b2 R30 b30 ⟨a30_0,i30,F30.kp⟩;have R35:=qa8 (P:=l.prog) (w:=w) (K:=K) (mg:=mg) (base:=base) (CX:=CX0) F35  R4 b4 F4.kp m4;have R36:=Oa (P:=l.prog) (w:=w) (K:=K) (mg:=mg) (base:=base) (CX:=CX0) F36  R6 b6 F6.kp m6;have R37:=Ww (P:=l.prog) (w:=w) (K:=K) (mg:=mg) (base:=base) (CX:=CX0) F37 n_len n_range;have R38:=Vq (P:=l.prog) (w:=w) (K:=K) (mg:=mg) (base:=base) (CX:=CX0) F38 n_zip;have R39:=Dl (P:=l.prog) (w:=w) (K:=K) (mg:=mg) (base:=base) (CX:=CX0) F39 n_enumerate R38 b38 F38.kp m38;have R40:=Qy (P:=l.prog) (w:=w) (K:=K) (mg:=mg) (base:=base) (CX:=CX0) F40 n_range n_list R37 b37 F37.kp m37 R39 b39 F39.kp m39;have R41:=Ka (P:=l.prog) (w:=w) (K:=K) (mg:=mg) (base:=base) (CX:=CX0) F41 n_len n_zip R35 b35 F35.kp m35 (No R40) b40 F40.kp m40 R6 b6 F6.kp m6;have R42:=Yl (P:=l.prog) (w:=w) (K:=K) (mg:=mg) (base:=base) (CX:=CX0) F42 n_zip R35 b35 F35.kp m35 R40 b40 F40.kp m40 R36 b36 F36.kp m36;have R43:=Lv (P:=l.prog) (w:=w) (K:=K) (mg:=mg) (base:=base) (CX:=CX0) F43  R8 b8 F8.kp m8;have R44:=Oi (P:=l.prog) (w:=w) (K:=K) (mg:=mg) (base:=base) (CX:=CX0) F44 T fN mv_NOUGHT R43 b43 F43.kp m43 R7 b7 F7.kp m7;have R45:=Jh (P:=l.prog) (w:=w) (K:=K) (mg:=mg) (base:=base) (CX:=CX0) F45 T fN mv_NOUGHT fO mv_ONE R10 b10 F10.kp m10 R44 b44 F44.kp m44 R7 b7 F7.kp m7;have R46:=Jl (P:=l.prog) (w:=w) (K:=K) (mg:=mg) (base:=base) (CX:=CX0) F46 T fN mv_NOUGHT R43 b43 F43.kp m43 R7 b7 F7.kp m7;have R47:=Oe (P:=l.prog) (w:=w) (K:=K) (mg:=mg) (base:=base) (CX:=CX0) F47 TBx n_list;have MT:Mk K c_Table f47:=⟨mk_Table,a47_0,i47,kc_Table⟩
 have R48:=Ql (P:=l.prog) (w:=w) (K:=K) (mg:=mg) (base:=base) (CX:=CX0) F48 TBx n_list;have R49:=Of (P:=l.prog) (w:=w) (K:=K) (mg:=mg) (base:=base) (CX:=CX0) F49 n_zip R11 b11 F11.kp m11 R9 b9 F9.kp m9;have R50:=Ew (P:=l.prog) (w:=w) (K:=K) (mg:=mg) (base:=base) (CX:=CX0) F50 TBx n_zip R49 b49 F49.kp m49 R7 b7 F7.kp m7;have R51:=Ra (P:=l.prog) (w:=w) (K:=K) (mg:=mg) (base:=base) (CX:=CX0) F51;have R52:=Ym (P:=l.prog) (w:=w) (K:=K) (mg:=mg) (base:=base) (CX:=CX0) F52 TBx n_zip n_len R47 b47 MT R51 b51 F51.kp m51 R42 b42 F42.kp m42;have R53:=Lg (P:=l.prog) (w:=w) (K:=K) (mg:=mg) (base:=base) (CX:=CX0) F53 n_any n_sorted R33 b33 F33.kp m33;have R54:=Pf (P:=l.prog) (w:=w) (K:=K) (mg:=mg) (base:=base) F54 NTx bl n_len n_list n_set mc_NoPoint x1_NoPoint mc_Floats qIF R1 b1 R27 b27 ⟨a27_0,i27,F27.kp⟩ R25 b25 F25.kp m25 R34 b34 F34.kp m34 R53 b53 F53.kp m53;have R55:=Sb (P:=l.prog) (w:=w) (K:=K) (mg:=mg) (base:=base) (CX:=CX0) F55 TBx NTx T n_len n_range n_list fN mv_NOUGHT GW bW mW R47 b47 MT R30 b30 ⟨a30_0,i30,F30.kp⟩ R27 b27 ⟨a27_0,i27,F27.kp⟩ R45 b45 F45.kp m45 R46 b46 F46.kp m46;have R56:=Xy (P:=l.prog) (w:=w) (K:=K) (mg:=mg) (base:=base) F56  R54 b54 F54.kp m54 R55 b55 F55.kp m55 R52 b52 F52.kp m52;have R57:=qa9 (P:=l.prog) (w:=w) (K:=K) (mg:=mg) (base:=base) F57 TBx NTx n_range n_zip fN mv_NOUGHT R27 b27 ⟨a27_0,i27,F27.kp⟩ R50 b50 ⟨a50_0,i50,F50.kp⟩ R54 b54 F54.kp m54 R55 b55 F55.kp m55 R7 b7 F7.kp m7 R41 b41 F41.kp m41 R51 b51 F51.kp m51;have R58:=Yc (P:=l.prog) (w:=w) (K:=K) (mg:=mg) (base:=base) (CX:=CX0) F58;have R59:=Kp (P:=l.prog) (w:=w) (K:=K) (mg:=mg) (base:=base) (CX:=CX0) F59 bl;have R60:=Qd (P:=l.prog) (w:=w) (K:=K) (mg:=mg) (base:=base) (CX:=CX0) F60 NTx R29 b29 ⟨a29_0,i29,F29.kp⟩ R26 b26 MN R21 b21 F21.kp m21;have R61:=Nm (P:=l.prog) (w:=w) (K:=K) (mg:=mg) (base:=base) (CX:=CX0) F61;have R62:=Oz (P:=l.prog) (w:=w) (K:=K) (mg:=mg) (base:=base) (CX:=CX0) F62 n_range n_len R58 b58 F58.kp m58;have R63:=Ol (P:=l.prog) (w:=w) (K:=K) (mg:=mg) (base:=base) (CX:=CX0) F63 n_range;have R64:=Pk (P:=l.prog) (w:=w) (K:=K) (mg:=mg) (base:=base) (CX:=CX0) F64 bl cE R57 b57 F57.kp m57 R56 b56 F56.kp m56;have R65:=Qv (P:=l.prog) (w:=w) (K:=K) (mg:=mg) (base:=base) (CX:=CX0) F65 bl n_list n_len n_tuple R64 b64 F64.kp m64 R59 b59 F59.kp m59;have R66:=Wr (P:=l.prog) (w:=w) (K:=K) (mg:=mg) (base:=base) (CX:=CX0) F66 n_len n_tuple R58 b58 F58.kp m58;exact Xs (P:=l.prog) (w:=w) (K:=K) (mg:=mg) (base:=base) (CX:=CX0) F67 NTx TBx bl n_range n_len n_list n_tuple tT R28 b28 ⟨a28_0,i28,F28.kp⟩ R29 b29 ⟨a29_0,i29,F29.kp⟩ R48 b48 ⟨a48_0,i48,F48.kp⟩ R58 b58 F58.kp m58 R62 b62 F62.kp m62 R61 b61 F61.kp m61 R60 b60 F60.kp m60 R66 b66 F66.kp m66 R65 b65 F65.kp m65 R63 b63 F63.kp m63 R64 b64 F64.kp m64 R21 b21 F21.kp m21
theorem qe4 {l:W.OpenLaw}{q:Program}{loose:List Str}{XP:(Str->Option Value)->Heap->Prop}{YP:World->Heap->Prop}{d:DefRec}{K:Params->Frag}(hn:l.most=some 63)(hdf:d.params.defaults=[])(hY:∀(w:World) (h:Heap),YP w h->(K w.params).In h)(F:∀(w:World) (mg:Str->Option Value) (fa:Addr) (h:Heap),(K w.params).In h->h.Ns mainGlobals mg->mg d.name=some (.ref fa)->
   ∃fd:FuncData,(∀(s:Shared) (u:Value),BindsTo s fd ⟨[u],[]⟩ [("_law_script",u)])/\∀base:Heap,(K w.params).In base->base.Ns mainGlobals mg->aJ l.prog w (K w.params) mg base CX0 12 fa fd ["_law_script"] (Hi (K w.params))) :
  W.WalkO q loose XP YP l.row.toRowW d [] (fun f vs=>PySem.call f vs):=
 L2.Su (n:=63) (k:=12) (x:="_law_script") (CX:=fun _=>CX0) (sp:=fun w=>Hi (K w.params)) hn (by decide) hdf ⟨rfl,by decide,by decide⟩ hY F (fun _ _ a ns hl _ hS=>⟨a,ns,rfl,hS,hl,fun _=>rfl⟩) fun _ _ _ _ _ z=>z
end K58
local macro_rules | `(tactic| walk_at "F9")=>`(tactic| (refine' L2.zH ?l9 ?c9 ?kk9;(case l9=>k_is);(case c9=>k_is);(case kk9=>show _=_;k_is)))
namespace PySem.W.Fast
def Q:=Nat
def tw15017567279170185574:=Q
def tw15926986632937379087:=Q
def tw2499484072523155855:=Q
def tw14742611382114140393:=Q
def tw16008041841798638161:=Q
def tw18035129266210209713:=Q
def tw14827780922419896692:=Q
def tw14025525170971886714:=Q
def tw14948569764377965209:=Q
def tw5768510023444379452:=Q
def tw15592249372229580211:=Q
def tw16443129362303293110:=Q
def tw1660288357605060481:=Q
def tw5033236910770199927:=Q
def tw7840498662552733716:=Q
def tw2512835205599583313:=Q
def tw1807231574014997769:=Q
def tw16046875378543049384:=Q
def tw13663975062516385061:=Q
def tw11787285743578791600:=Q
def tw8907072290752876152:=Q
def tw190232956988582322:=Q
def tw1553526932200487070:=Q
def tw6631755016611085660:=Q
def tw6276284907768809220:=Q
def tw10530605957910126587:=Q
def tw12765580162883498353:=Q
def tw14144695178711671407:=Q
def tw13337045877494814524:=Q
def tw8410930450407130301:=Q
def tw11227362174732461357:=Q
def tw18024212196002536277:=Q
def tw8844943613169578017:=Q
def tw16053730403904077783:=Q
def tw13667514169817559657:=Q
def tw1136227749797292364:=Q
def tw5241584607141802748:=Q
def tw14893884530466298707:=Q
def tw4648362274353236643:=Q
def tw7585166783096466811:=Q
def tw11185753344313079382:=Q
def tw16736820556844523682:=Q
def tw5557993059312601157:=Q
def tw9030316841590871963:=Q
def tw17763841802442954063:=Q
def tw6771029748879925477:=Q
def tw15236354364145828083:=Q
def tw17780101740905345168:=Q
def tw976484475570721318:=Q
def tw2934542177291891521:=Q
def tw6463862259816510133:=Q
def tw16115739338587246081:=Q
def tw7993132409917476668:=Q
def tw4309695357651662639:=Q
def tw7290179938774774042:=Q
def tw1137439936057909768:=Q
def tw15646302195165155437:=Q
def tw4178152225434497889:=Q
def tw8212949427184086479:=Q
def tw16222281879042007515:=Q
def tw4954991007840149704:=Q
def tw6429790943263821489:=Q
def tw12833288395998467379:=Q
def tw15933919974947168930:=Q
def tw11050350199585427002:=Q
def tw13629611312171062124:=Q
def tw333114452006109487:=Q
def tw1078487323201228650:=Q
def tw2653143635836809246:=Q
def tw17931648090728592358:=Q
def tw16029947083515698815:=Q
def tw4816584626361842738:=Q
def tw1078116633151146511:=Q
def tw10740242262362154692:=Q
def tw10602324702018119965:=Q
def tw7315481485914880227:=Q
def tw10940088174525710020:=Q
def tw717057552971688535:=Q
def tw16875954875504001084:=Q
def tw10540283850873799209:=Q
def tw13664434751435390670:=Q
def tw16482349554386331945:=Q
def tw10827622738222808593:=Q
def tw8934340952348786686:=Q
def tw3388316532431217020:=Q
def tw16584887046149498804:=Q
def tw14185856898327163575:=Q
def tw3025442441066510055:=Q
def tw11808808644920886340:=Q
def tw6537576331493113028:=Q
def tw13269750655313128279:=Q
def tw9193640894419182446:=Q
def tw12049254153734587760:=Q
def tw12524345450585230303:=Q
def tw7087093159907995797:=Q
def tw17853005093030293410:=Q
def tw16055519852604618030:=Q
def tw12433324590708332803:=Q
def tw17525366658962296266:=Q
def tw8543466147840808920:=Q
def tw7923457722207528585:=Q
def tw16409135424088406520:=Q
def tw4906749513206605560:=Q
def tw1427380724198005950:=Q
def tw3005259863476174954:=Q
def tw2529534814103932413:=Q
def tw14809202531065081469:=Q
def tw11562673937767569952:=Q
def tw9981939315707648407:=Q
def tw8245107617860256094:=Q
def tw15175932806307684349:=Q
def tw7373028745041254462:=Q
def tw7920303947163323238:=Q
def tw18326997041767309767:=Q
def tw17308531133286689992:=Q
def tw10774586140144840674:=Q
def tw11347442930763001246:=Q
def tw9125984074586040062:=Q
def tw16136437280329111616:=Q
def tw15087509567480817565:=Q
def tw5643020836745357028:=Q
def tw6358020406491166812:=Q
def tw11850593983476683104:=Q
def tw3639083556700991439:=Q
def tw5378515558545943429:=Q
def tw2965908369991644623:=Q
def tw3871866465900765376:=Q
def tw6377820144119287520:=Q
def tw10187531573391604155:=Q
def tw13003629033061279540:=Q
def tw9938488750218968347:=Q
def tw7565247646920286348:=Q
def tw14992158077521309991:=Q
def tw10924264432249273855:=Q
def tw11484824999754833111:=Q
def tw156143996350924756:=Q
def tw4282985554267984567:=Q
def tw7069762882086610397:=Q
def tw9061895146976615767:=Q
def tw9215480499643683797:=Q
def tw3082790556813199530:=Q
def tw13734345048428278919:=Q
def tw17872648860001565327:=Q
def tw7521042511273010014:=Q
def tw5425334899866837005:=Q
def tw1579653859384245190:=Q
def tw3892483351826753791:=Q
def tw8949482561340333171:=Q
def tw16106185892614155991:=Q
def tw9610580825858500150:=Q
def tw168576303408628927:=Q
def tw14941924150835923926:=Q
def tw2617249885361319605:=Q
def tw6315494141521972227:=Q
def tw2184661834752157242:=Q
def tw5798608617421049200:=Q
def tw10339993788945928836:=Q
def tw5304498144104279323:=Q
def tw11629032078159084841:=Q
def tw3317227447496950460:=Q
def tw2206861278584873247:=Q
def tw12430156059068019120:=Q
def tw14868418856045866068:=Q
def tw15416269302269326912:=Q
def tw6693594258262023280:=Q
def tw16449323110321623687:=Q
def tw4508044421704030670:=Q
def tw4106859610219165212:=Q
def tw3853441945675399278:=Q
def tw13711953197152234413:=Q
def tw8132102591729521417:=Q
def tw4179105014383551645:=Q
def tw14556655163070331545:=Q
def tw3282558142031395441:=Q
def tw13655405377594183767:=Q
def tw4274984670979124046:=Q
def tw609116929134231330:=Q
def tw1839502306203478952:=Q
def tw15844235338213988657:=Q
def tw1143480999136207878:=Q
def tw11278528943448628138:=Q
def tw14507393895141077887:=Q
def tw15387083839543057863:=Q
def tw17779563006697661992:=Q
def tw2027510007351500272:=Q
def tw13124247752525806919:=Q
def tw525010784129460166:=Q
def tw1860677060359317195:=Q
def tw9511252758315529440:=Q
def tw14219740157903184625:=Q
def tw8604795357146804721:=Q
def tw7050390080217120083:=Q
def tw13653257617908180842:=Q
def tw996448002605191858:=Q
def tw2196612421876647951:=Q
def tw6213386362820126687:=Q
def tw3292447145602671164:=Q
def tw3413597303154148610:=Q
def tw16248850683145594867:=Q
def tw202135142087418254:=Q
def tw651202728264206108:=Q
def tw8899525987709304517:=Q
def tw6095185884581265726:=Q
def tw8343084040436058169:=Q
def tw7498004189509205796:=Q
def tw3328461170017530689:=Q
def tw6273028067039860977:=Q
def tw5429112956782115841:=Q
def tw9397385215011346030:=Q
def tw9099882084951422699:=Q
def tw17810099155059923608:=Q
def tw3525966942556823928:=Q
def tw1091267231027302631:=Q
def tw8350396009419146156:=Q
def tw10872508663239734020:=Q
def tw9880137501254435178:=Q
def tw11099720215039168087:=Q
def tw1604907873566912907:=Q
def tw2341483461961526898:=Q
def tw1950901705742955451:=Q
def tw1298995115089238578:=Q
def tw1153776523180519924:=Q
def tw17477042915103288617:=Q
def tw7284960330483593442:=Q
def tw11241554879782184803:=Q
def tw10995992005631101688:=Q
def tw2963222047215937052:=Q
def tw988126982330617914:=Q
def tw5560871343818873907:=Q
def tw2028933513891703952:=Q
def tw17935660202519375450:=Q
def tw10669063593146072761:=Q
def tw9761412960607136479:=Q
def tw959719450041725870:=Q
def tw3214911640054347626:=Q
def tw7031866795475177015:=Q
def tw5074096936228270845:=Q
def tw5549917259885551678:=Q
def tw11782063784579399158:=Q
def tw13216002169152207472:=Q
def tw9016774700241158967:=Q
def tw5066059126724105787:=Q
def tw4200560650868909670:=Q
def tw5007031679488965410:=Q
def tw2705014506906689567:=Q
def tw1506268905847672040:=Q
def tw6658062057647036048:=Q
def tw15338371264473921012:=Q
def tw17067117010050398510:=Q
def tw2042086829229931973:=Q
def tw6059568940685212966:=Q
def tw3754336588886845156:=Q
def tw16425475554568796470:=Q
def tw229459358125519632:=Q
def tw13757529854350861492:=Q
def tw5440447522152623297:=Q
def tw12136896280060342242:=Q
def tw6520320484730584415:=Q
def tw13878957453959664207:=Q
def tw10036490762773551688:=Q
def tw8696959241647686149:=Q
def tw14326922551004026166:=Q
def tw13781406018970852633:=Q
def tw268608076484534481:=Q
def tw14998415977812767378:=Q
def tw13343589007219816070:=Q
def tw9240663914479577664:=Q
def tw2289475285419701848:=Q
def tw9694974635227710497:=Q
def tw13970377166697969688:=Q
def tw398097862730988001:=Q
def tw7379892001012818076:=Q
def tw7887832480705752802:=Q
def tw7642075665951515195:=Q
def tw15631303635294099948:=Q
def tw4348763378635380033:=Q
def tw10000806240596285751:=Q
def tw8898867889012449646:=Q
def tw14624283184579973673:=Q
def tw1057404595133547706:=Q
def tw5189826568124872082:=Q
def tw11999050228434231930:=Q
def tw3781996151459414906:=Q
def tw18429605419231147067:=Q
def tw17698711953149984046:=Q
def tw12800312845699147196:=Q
def tw16927218273571446876:=Q
def tw15897726921894676720:=Q
def tw2566157446198002489:=Q
def tw18277511678651146058:=Q
def tw14760774192844586973:=Q
def tw9711454300134521968:=Q
def tw15693180305412487183:=Q
def tw14641080652082458017:=Q
def tw3173983453888810504:=Q
def tw4900558346503138094:=Q
def tw4265772214544543943:=Q
def tw9451559176570748727:=Q
def tw7567265430169876953:=Q
def tw11757225171523997114:=Q
def tw12772977202591902590:=Q
def tw18347130365635288837:=Q
def tw12720900943059219226:=Q
def tw14110490379594932371:=Q
def tw15143219559033311964:=Q
def tw12515061863953734216:=Q
def tw17051899213055133071:=Q
def tw3107992782469794504:=Q
def tw13095339651665682844:=Q
def tw10980655870370743448:=Q
def tw5531973638020923337:=Q
def tw992274662771092368:=Q
def tw9931681558418075519:=Q
def tw6130915016735535517:=Q
def tw3973948204951800992:=Q
def tw16129526651652818292:=Q
def tw14921346485019108869:=Q
def tw3484055448576702763:=Q
def tw8568588604544229913:=Q
def tw1927526313236178483:=Q
def tw4962916286877191082:=Q
def tw6968591090919055080:=Q
def tw9273441358078330487:=Q
def tw12174722191915250064:=Q
def tw3608371120975164269:=Q
def tw7703482062921353152:=Q
def tw13832317501090013819:=Q
def tw17495613681705212774:=Q
def tw1683359420457582453:=Q
def tw14514351002657728315:=Q
def tw8806677662640320418:=Q
def tw8894915321568349904:=Q
def tw5530007614509613677:=Q
def tw4909425883437571060:=Q
def tw10621496313388174714:=Q
def tw6885396835638079304:=Q
def tw503693931643374366:=Q
def tw13361111088686561660:=Q
def tw17468034676305940627:=Q
def tw11681602763802795714:=Q
def tw3924588353347387506:=Q
def tw4280456946944896512:=Q
def tw8186194640975594841:=Q
def tw17741563066036238425:=Q
def tw9986490744929603556:=Q
def tw13587262177854249100:=Q
def tw3312826852962534359:=Q
def tw1474929471429663352:=Q
def tw7211944196722241431:=Q
def tw15665401069820270993:=Q
def tw1271379843519445363:=Q
def tw11432254065652322043:=Q
def tw18360425090830458390:=Q
def tw2648241466297433472:=Q
def tw14786360495029389339:=Q
def tw9426225738857190202:=Q
def tw12744404230434223089:=Q
def tw16297843665421730149:=Q
def tw14270423215789643425:=Q
def tw3621848472839133154:=Q
def tw10292587878050357768:=Q
def tw8431991536995857286:=Q
def tw11616441051825901741:=Q
def tw9161777643073399993:=Q
def tw16599315055982343125:=Q
def tw6174439329601094612:=Q
def tw4001307740499637845:=Q
def tw8372163657025008530:=Q
def tw6002908322910098861:=Q
def tw14906729414813988477:=Q
def tw4597737107915646687:=Q
def tw1580275276332340166:=Q
def tw11479484351358837002:=Q
def tw7392860720407064257:=Q
def tw4189088338589854895:=Q
def tw1289440846700523118:=Q
def tw14853480513227748747:=Q
def tw4947398313837219971:=Q
def tw16952615340086918752:=Q
def tw17815149128253069919:=Q
def tw14443250717530479171:=Q
def tw16787842425091418423:=Q
def tw11955340186463721504:=Q
def tw16793982914738337413:=Q
def tw13328477408688370757:=Q
def tw14263221918060083281:=Q
def tw15052549923044561671:=Q
def tw14051562879426791935:=Q
def tw9632930908364050371:=Q
def tw12197363984600281259:=Q
def tw10348280441186727109:=Q
def tw12277940612226714000:=Q
def tw7032378845818319438:=Q
def tw2750310403136805651:=Q
def tw8737136431028327563:=Q
def tw7629053423006361587:=Q
def tw7730639051970615399:=Q
def tw18113239556323394015:=Q
def tw13664827994736324420:=Q
def tw12783172086306759848:=Q
def tw1184860860840286343:=Q
def tw13409120194701311983:=Q
def tw18052094279733043535:=Q
def tw14551595159366404071:=Q
def tw2977729620646451789:=Q
def tw7004719995333653723:=Q
def tw928461338967667683:=Q
def tw619878787837537247:=Q
def tw16545987802974897423:=Q
def tw385279364910620637:=Q
def tw936706009764074945:=Q
def tw860719655915206006:=Q
def tw12645511137464952090:=Q
def tw10612728670937021300:=Q
def tw8713513727795404385:=Q
def tw4115094640695102338:=Q
def tw14436560510975829962:=Q
def tw2667107897334736528:=Q
def tw14502752013807336966:=Q
def tw12848953899993028513:=Q
def tw13770140428418778961:=Q
def tw10676936963917688755:=Q
def tw5649188951800520278:=Q
def tw16120926154568388675:=Q
def tw3541537257844191505:=Q
def tw13585987277421624157:=Q
def tw14420004267104124888:=Q
def tw8196500982450536452:=Q
def tw16506804793958192941:=Q
def tw5799115707069101655:=Q
def tw6295895937601156593:=Q
def tw2588902069476460824:=Q
def tw1617829084814066743:=Q
def tw5942868846697531342:=Q
def tw13909291138479667771:=Q
def tw2459543238976083285:=Q
def tw8427185716005631636:=Q
def tw4053102468354891952:=Q
def tw11727292607420153308:=Q
def tw7864152856938365250:=Q
def tw13399189396793004489:=Q
def tw714103791572031448:=Q
def tw2363180730651667726:=Q
def tw16127173567905831533:=Q
def tw9460314958392475132:=Q
def tw12741702154584622820:=Q
def tw502758284764938925:=Q
def tw14576198218878639269:=Q
def tw11334192681775500939:=Q
def tw4568446254676207825:=Q
def tw3980228726960466695:=Q
def tw12917228552938670106:=Q
def tw1428553943948054493:=Q
def tw14289439437652466070:=Q
def tw3996794229300437069:=Q
def tw8784143244697563343:=Q
def tw3546621659157437264:=Q
def tw5122742602226813941:=Q
def tw16753716443487858588:=Q
def tw4724939185662484401:=Q
def tw17263114282903609692:=Q
def tw10502530847756268884:=Q
def tw2721407621409449462:=Q
def tw10505587074617909563:=Q
def tw3285140444496335213:=Q
def tw9726272168121466502:=Q
def tw6245414855448774899:=Q
def tw18402899748059780824:=Q
def tw6327639186357648007:=Q
def tw2829882446809200773:=Q
def tw13375334373624783213:=Q
def tw4695163121657220332:=Q
def tw8702605195469431285:=Q
end PySem.W.Fast
open PySem PySem.W PyProof.Rows
set_option maxRecDepth 100000 in
set_option maxHeartbeats 0 in
theorem PySem.Challenge.cw_ohmyard_k58_tables_refused_holds : PySem.Challenge.rw_ohmyard_k58_tables_refused.Holds := by
  w_on; o_law; z_head; (case hw => w_witness2)
  k_fill
  refine L2.Qc (fun _ => by kernel_rfl) (K58.qe4 (l := PySem.Challenge.rw_ohmyard_k58_tables_refused) rfl rfl (fun w h Y => Y) ?F)
  case F =>
    intro w mg fa h KX G hmg
    refine' K58.Wv hmg (mg_of KX G ?y_Row) (mg_of KX G ?y_Piece) (mg_of KX G ?y_Push) (mg_of KX G ?y_Hold) (mg_of KX G ?y_Net) (mg_of KX G ?y_Table) (mg_of KX G ?y_OhmError) (mg_of KX G ?y_NoPoint) (mg_of KX G ?y_Floats) (mg_of KX G ?y_Held) (mg_of KX G ?y_Ring) ?a1_0 ?i1 ?F1 ?a2_0 ?i2 ?F2 (mg_of KX G ?a3) ?F3 (mg_of KX G ?a4) ?F4 (mg_of KX G ?a5) ?F5 (mg_of KX G ?a6) ?l6 ?c6 ?k6 ?lt6 (mg_of KX G ?a7) ?F7 (mg_of KX G ?a8) ?F8 (mg_of KX G ?a9) ?F9 (mg_of KX G ?a10) ?F10 (mg_of KX G ?a11) ?F11 (mg_of KX G ?a12) ?F12 ?a13_0 ?a13_1 ?a13_2 ?i13 ?F13 ?a14_0 ?i14 ?F14 ?a15_0 ?i15 ?F15 ?a16_0 ?i16 ?F16 ?a17_0 ?i17 ?F17 ?a18_0 ?i18 ?F18 ?a19_0 ?i19 ?F19 ?a20_0 ?a20_1 ?a20_2 ?i20 ?F20 (mg_of KX G ?a21) ?F21 (mg_of KX G ?a22) ?F22 (mg_of KX G ?a23) ?F23 (mg_of KX G ?a24) ?F24 (mg_of KX G ?a25) ?F25 ?a26_0 ?i26 ?F26 ?a27_0 ?i27 ?F27 ?a28_0 ?i28 ?F28 ?a29_0 ?i29 ?F29 ?a30_0 ?i30 ?F30 (mg_of KX G ?a31) ?F31 (mg_of KX G ?a32) ?F32 (mg_of KX G ?a33) ?F33 (mg_of KX G ?a34) ?F34 (mg_of KX G ?a35) ?F35 (mg_of KX G ?a36) ?F36 (mg_of KX G ?a37) ?F37 (mg_of KX G ?a38) ?F38 (mg_of KX G ?a39) ?F39 (mg_of KX G ?a40) ?F40 (mg_of KX G ?a41) ?F41 (mg_of KX G ?a42) ?F42 (mg_of KX G ?a43) ?F43 (mg_of KX G ?a44) ?F44 (mg_of KX G ?a45) ?F45 (mg_of KX G ?a46) ?F46 ?a47_0 ?i47 ?F47 ?a48_0 ?i48 ?F48 (mg_of KX G ?a49) ?F49 ?a50_0 ?i50 ?F50 (mg_of KX G ?a51) ?F51 (mg_of KX G ?a52) ?F52 (mg_of KX G ?a53) ?F53 (mg_of KX G ?a54) ?F54 (mg_of KX G ?a55) ?F55 (mg_of KX G ?a56) ?F56 (mg_of KX G ?a57) ?F57 (mg_of KX G ?a58) ?F58 (mg_of KX G ?a59) ?F59 (mg_of KX G ?a60) ?F60 (mg_of KX G ?a61) ?F61 (mg_of KX G ?a62) ?F62 (mg_of KX G ?a63) ?F63 (mg_of KX G ?a64) ?F64 (mg_of KX G ?a65) ?F65 (mg_of KX G ?a66) ?F66 (mg_of KX G ?a67) ?l67 ?c67 ?k67 (mg_of KX G ?v_ONE) (mg_of KX G ?v_NOUGHT) (mg_of KX G ?v_MOST_POINTS) (mg_of KX G ?v_MOST_ROWS) ?lO ?lN ?lF ?lH ?lE ?x1_OhmError ?x1_NoPoint ?tyF ?tyH ?ci1 ?ci2 ?ci3 ?sa_F ?sa_H ?no_F ?no_H ?hd_F ?hd_H ?eFF ?eHF ?eHH ?ePF ?ePH ?ePP ?tF ?tH ?tP ?oF ?oH ?oP ?kT ?x2_Floats ?x3_Floats ?x4_Floats ?x5_Floats ?x6_Floats ?x7_Floats ?x8_Floats ?x9_Floats ?x2_Held ?x3_Held ?x4_Held ?x5_Held ?x6_Held ?x7_Held ?x8_Held ?x9_Held ?x2_NoPoint ?x3_NoPoint ?x4_NoPoint ?x5_NoPoint ?x6_NoPoint ?x7_NoPoint ?x8_NoPoint ?x9_NoPoint ?pg_Piece ?hd_Piece ?po_Piece ?sa_Piece ?mk_Piece ?kc_Piece ?t1_Piece ?t4_Piece ?na_Piece_start ?na_Piece_goal ?na_Piece_size ?pg_Push ?hd_Push ?po_Push ?sa_Push ?mk_Push ?kc_Push ?t1_Push ?t4_Push ?na_Push_start ?na_Push_goal ?na_Push_size ?pg_Hold ?hd_Hold ?po_Hold ?sa_Hold ?mk_Hold ?kc_Hold ?t1_Hold ?t4_Hold ?na_Hold_start ?na_Hold_goal ?na_Hold_size ?tt2 ?tt3 ?isR_Piece ?isR_Push ?isR_Hold ?isK_Piece_Push ?isK_Piece_Hold ?isK_Push_Piece ?isK_Push_Hold ?isK_Hold_Piece ?isK_Hold_Push ?pg_Net ?hd_Net ?po_Net ?sa_Net ?mk_Net ?kc_Net ?t1_Net ?t4_Net ?na_Net_point_count ?na_Net_kept ?pg_Table ?hd_Table ?po_Table ?sa_Table ?mk_Table ?kc_Table ?t1_Table ?t4_Table ?na_Table_places ?na_Table_lines ?na_Table_arrivals (mg_none_of KX G ?z1) (mg_none_of KX G ?z2) (mg_none_of KX G ?z3) (mg_none_of KX G ?z4) (mg_none_of KX G ?z5) (mg_none_of KX G ?z6) (mg_none_of KX G ?z7) (mg_none_of KX G ?z8) (mg_none_of KX G ?z9) (mg_none_of KX G ?z10) (mg_none_of KX G ?z11) (mg_none_of KX G ?z12) (mg_none_of KX G ?z13) (mg_none_of KX G ?z14) (mg_none_of KX G ?z15)
    (case y_Row=>k_is)
    (case y_Piece=>k_is)
    (case y_Push=>k_is)
    (case y_Hold=>k_is)
    (case y_Net=>k_is)
    (case y_Table=>k_is)
    (case y_OhmError=>k_is)
    (case y_NoPoint=>k_is)
    (case y_Floats=>k_is)
    (case y_Held=>k_is)
    (case y_Ring=>k_is)
    (case a1_0=>k_is)
    (case i1=>k_is)
    (case F1=>walk_at "F9")
    (case a2_0=>k_is)
    (case i2=>k_is)
    (case F2=>walk_at "F9")
    (case a3=>k_is)
    (case F3=>walk_at "F9")
    (case a4=>k_is)
    (case F4=>walk_at "F9")
    (case a5=>k_is)
    (case F5=>walk_at "F9")
    (case a6=>k_is)
    (case l6=>k_is)
    (case c6=>k_is)
    (case k6=>show _=_;k_is)
    (case lt6=>k_is)
    (case a7=>k_is)
    (case F7=>walk_at "F9")
    (case a8=>k_is)
    (case F8=>walk_at "F9")
    (case a9=>k_is)
    (case F9=>walk_at "F9")
    (case a10=>k_is)
    (case F10=>walk_at "F9")
    (case a11=>k_is)
    (case F11=>walk_at "F9")
    (case a12=>k_is)
    (case F12=>walk_at "F9")
    (case a13_0=>k_is)
    (case a13_1=>k_is)
    (case a13_2=>k_is)
    (case i13=>k_is)
    (case F13=>walk_at "F9")
    (case a14_0=>k_is)
    (case i14=>k_is)
    (case F14=>walk_at "F9")
    (case a15_0=>k_is)
    (case i15=>k_is)
    (case F15=>walk_at "F9")
    (case a16_0=>k_is)
    (case i16=>k_is)
    (case F16=>walk_at "F9")
    (case a17_0=>k_is)
    (case i17=>k_is)
    (case F17=>walk_at "F9")
    (case a18_0=>k_is)
    (case i18=>k_is)
    (case F18=>walk_at "F9")
    (case a19_0=>k_is)
    (case i19=>k_is)
    (case F19=>walk_at "F9")
    (case a20_0=>k_is)
    (case a20_1=>k_is)
    (case a20_2=>k_is)
    (case i20=>k_is)
    (case F20=>walk_at "F9")
    (case a21=>k_is)
    (case F21=>walk_at "F9")
    (case a22=>k_is)
    (case F22=>walk_at "F9")
    (case a23=>k_is)
    (case F23=>walk_at "F9")
    (case a24=>k_is)
    (case F24=>walk_at "F9")
    (case a25=>k_is)
    (case F25=>walk_at "F9")
    (case a26_0=>k_is)
    (case i26=>k_is)
    (case F26=>walk_at "F9")
    (case a27_0=>k_is)
    (case i27=>k_is)
    (case F27=>walk_at "F9")
    (case a28_0=>k_is)
    (case i28=>k_is)
    (case F28=>walk_at "F9")
    (case a29_0=>k_is)
    (case i29=>k_is)
    (case F29=>walk_at "F9")
    (case a30_0=>k_is)
    (case i30=>k_is)
    (case F30=>walk_at "F9")
    (case a31=>k_is)
    (case F31=>walk_at "F9")
    (case a32=>k_is)
    (case F32=>walk_at "F9")
    (case a33=>k_is)
    (case F33=>walk_at "F9")
    (case a34=>k_is)
    (case F34=>walk_at "F9")
    (case a35=>k_is)
    (case F35=>walk_at "F9")
    (case a36=>k_is)
    (case F36=>walk_at "F9")
    (case a37=>k_is)
    (case F37=>walk_at "F9")
    (case a38=>k_is)
    (case F38=>walk_at "F9")
    (case a39=>k_is)
    (case F39=>walk_at "F9")
    (case a40=>k_is)
    (case F40=>walk_at "F9")
    (case a41=>k_is)
    (case F41=>walk_at "F9")
    (case a42=>k_is)
    (case F42=>walk_at "F9")
    (case a43=>k_is)
    (case F43=>walk_at "F9")
    (case a44=>k_is)
    (case F44=>walk_at "F9")
    (case a45=>k_is)
    (case F45=>walk_at "F9")
    (case a46=>k_is)
    (case F46=>walk_at "F9")
    (case a47_0=>k_is)
    (case i47=>k_is)
    (case F47=>walk_at "F9")
    (case a48_0=>k_is)
    (case i48=>k_is)
    (case F48=>walk_at "F9")
    (case a49=>k_is)
    (case F49=>walk_at "F9")
    (case a50_0=>k_is)
    (case i50=>k_is)
    (case F50=>walk_at "F9")
    (case a51=>k_is)
    (case F51=>walk_at "F9")
    (case a52=>k_is)
    (case F52=>walk_at "F9")
    (case a53=>k_is)
    (case F53=>walk_at "F9")
    (case a54=>k_is)
    (case F54=>walk_at "F9")
    (case a55=>k_is)
    (case F55=>walk_at "F9")
    (case a56=>k_is)
    (case F56=>walk_at "F9")
    (case a57=>k_is)
    (case F57=>walk_at "F9")
    (case a58=>k_is)
    (case F58=>walk_at "F9")
    (case a59=>k_is)
    (case F59=>walk_at "F9")
    (case a60=>k_is)
    (case F60=>walk_at "F9")
    (case a61=>k_is)
    (case F61=>walk_at "F9")
    (case a62=>k_is)
    (case F62=>walk_at "F9")
    (case a63=>k_is)
    (case F63=>walk_at "F9")
    (case a64=>k_is)
    (case F64=>walk_at "F9")
    (case a65=>k_is)
    (case F65=>walk_at "F9")
    (case a66=>k_is)
    (case F66=>walk_at "F9")
    (case a67=>k_is)
    (case l67=>k_is)
    (case c67=>k_is)
    (case k67=>show _=_;k_is)
    (case v_ONE=>k_is)
    (case v_NOUGHT=>k_is)
    (case v_MOST_POINTS=>k_is)
    (case v_MOST_ROWS=>k_is)
    (case lO=>k_is)
    (case lN=>k_is)
    (case lF=>k_is)
    (case lH=>k_is)
    (case lE=>k_is)
    (case x1_OhmError=>k_exc)
    (case x1_NoPoint=>k_exc)
    (case tyF=>k_is)
    (case tyH=>k_is)
    (case ci1=>k_is)
    (case ci2=>k_is)
    (case ci3=>k_is)
    (case sa_F=>k_is)
    (case sa_H=>k_is)
    (case no_F=>k_is)
    (case no_H=>k_is)
    (case hd_F=>k_is)
    (case hd_H=>k_is)
    (case eFF=>kts_exm)
    (case eHF=>kts_exm)
    (case eHH=>kts_exm)
    (case ePF=>kts_exm)
    (case ePH=>kts_exm)
    (case ePP=>kts_exm)
    (case tF=>kit_is)
    (case tH=>kit_is)
    (case tP=>kit_is)
    (case oF=>kit_is)
    (case oH=>kit_is)
    (case oP=>kit_is)
    (case kT=>kit_is)
    (case x2_Floats=>k_is)
    (case x3_Floats=>k_is)
    (case x4_Floats=>k_is)
    (case x5_Floats=>k_is)
    (case x6_Floats=>k_is)
    (case x7_Floats=>k_is)
    (case x8_Floats=>k_is)
    (case x9_Floats=>first | k_is | rfl | decide)
    (case x2_Held=>k_is)
    (case x3_Held=>k_is)
    (case x4_Held=>k_is)
    (case x5_Held=>k_is)
    (case x6_Held=>k_is)
    (case x7_Held=>k_is)
    (case x8_Held=>k_is)
    (case x9_Held=>first | k_is | rfl | decide)
    (case x2_NoPoint=>k_is)
    (case x3_NoPoint=>k_is)
    (case x4_NoPoint=>k_is)
    (case x5_NoPoint=>k_is)
    (case x6_NoPoint=>k_is)
    (case x7_NoPoint=>k_is)
    (case x8_NoPoint=>k_is)
    (case x9_NoPoint=>first | k_is | rfl | decide)
    (case pg_Piece=>k_is)
    (case hd_Piece=>k_is)
    (case po_Piece=>k_is)
    (case sa_Piece=>k_is)
    (case mk_Piece=>k_is)
    (case kc_Piece=>show _=_;k_is)
    (case t1_Piece=>k_is)
    (case t4_Piece=>k_is)
    (case na_Piece_start=>k_is)
    (case na_Piece_goal=>k_is)
    (case na_Piece_size=>k_is)
    (case pg_Push=>k_is)
    (case hd_Push=>k_is)
    (case po_Push=>k_is)
    (case sa_Push=>k_is)
    (case mk_Push=>k_is)
    (case kc_Push=>show _=_;k_is)
    (case t1_Push=>k_is)
    (case t4_Push=>k_is)
    (case na_Push_start=>k_is)
    (case na_Push_goal=>k_is)
    (case na_Push_size=>k_is)
    (case pg_Hold=>k_is)
    (case hd_Hold=>k_is)
    (case po_Hold=>k_is)
    (case sa_Hold=>k_is)
    (case mk_Hold=>k_is)
    (case kc_Hold=>show _=_;k_is)
    (case t1_Hold=>k_is)
    (case t4_Hold=>k_is)
    (case na_Hold_start=>k_is)
    (case na_Hold_goal=>k_is)
    (case na_Hold_size=>k_is)
    (case tt2=>k_is)
    (case tt3=>k_is)
    (case isR_Piece=>kit_is)
    (case isR_Push=>kit_is)
    (case isR_Hold=>kit_is)
    (case isK_Piece_Push=>kit_is)
    (case isK_Piece_Hold=>kit_is)
    (case isK_Push_Piece=>kit_is)
    (case isK_Push_Hold=>kit_is)
    (case isK_Hold_Piece=>kit_is)
    (case isK_Hold_Push=>kit_is)
    (case pg_Net=>k_is)
    (case hd_Net=>k_is)
    (case po_Net=>k_is)
    (case sa_Net=>k_is)
    (case mk_Net=>k_is)
    (case kc_Net=>show _=_;k_is)
    (case t1_Net=>k_is)
    (case t4_Net=>k_is)
    (case na_Net_point_count=>k_is)
    (case na_Net_kept=>k_is)
    (case pg_Table=>k_is)
    (case hd_Table=>k_is)
    (case po_Table=>k_is)
    (case sa_Table=>k_is)
    (case mk_Table=>k_is)
    (case kc_Table=>show _=_;k_is)
    (case t1_Table=>k_is)
    (case t4_Table=>k_is)
    (case na_Table_places=>k_is)
    (case na_Table_lines=>k_is)
    (case na_Table_arrivals=>k_is)
    (case z1=>k_is)
    (case z2=>k_is)
    (case z3=>k_is)
    (case z4=>k_is)
    (case z5=>k_is)
    (case z6=>k_is)
    (case z7=>k_is)
    (case z8=>k_is)
    (case z9=>k_is)
    (case z10=>k_is)
    (case z11=>k_is)
    (case z12=>k_is)
    (case z13=>k_is)
    (case z14=>k_is)
    (case z15=>k_is)
