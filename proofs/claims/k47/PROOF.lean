import PyProof.Rows.All
import Wide.All
import OpenK.AllK
import Wide.FinOn
import Lean
import PyProof.EqAt
import PyProof.EqKinds
import PyProof.TupleCall
import PyProof.Cells
import PyProof.SumWalkG
import PyProof.EnumStmt
import PyProof.EnumMake
import PyProof.InstStoreFacts
import KE.KDictList
import PySem.Challenge.RW_ohmyard_k47_supplied
set_option Elab.async false
set_option linter.all false
set_option maxRecDepth 100000
open PySem.W (Frag)
set_option maxHeartbeats 4000000
open List
namespace L2
open PySem PySem.Spec PyProof.Rows
abbrev Key:=Sum Int Str
def wG:Key->Value->Bool
 | .inl k,v=>Value.isInt k v
 | .inr x,v=>Value.isStrOf x v
def qg3 (w:World):Key->Int
 | .inl k=>hashInt k
 | .inr x=>hashStr w x
theorem dU:∀{k:Key} {v:Value},wG k v=true->(∃i t,k=Sum.inl i/\v=Value.int i t)\/(∃x t,k=Sum.inr x/\v=Value.str x t)
 | .inl i,v,h=>by
  obtain⟨t,e⟩:=Value.isInt_shape (k:=i) (v:=v) h;exact .inl ⟨i,t,rfl,e⟩
 | .inr x,v,h=>by
  obtain⟨t,e⟩:=Value.isStrOf_shape (x:=x) (v:=v) h;exact .inr ⟨x,t,rfl,e⟩
theorem Jl (i:Int)(t:Tok):wG (.inl i) (.int i t)=true:=by simp[wG,Value.isInt]
theorem Jc (x:Str)(t:Tok):wG (.inr x) (.str x t)=true:=by simp[wG,Value.isStrOf]
theorem Wa (a b:Int):decide ((Sum.inl a:Key)=Sum.inl b)=(a == b):=by
 by_cases e:a=b
 ·subst e;simp
 ·have h:¬(Sum.inl a:Key)=Sum.inl b:=fun q=>e (Sum.inl.inj q);rw[decide_eq_false h];exact(beq_eq_false_iff_ne.mpr e).symm
theorem Yk (a b:Str):decide ((Sum.inr a:Key)=Sum.inr b)=decide (a=b):=by
 by_cases e:a=b
 ·subst e;simp
 ·have h:¬(Sum.inr a:Key)=Sum.inr b:=fun q=>e (Sum.inr.inj q);rw[decide_eq_false h,decide_eq_false e]
theorem Yx (a:Int)(b:Str):decide ((Sum.inl a:Key)=Sum.inr b)=false:=decide_eq_false (fun q=>nomatch q)
theorem Xi (a:Str)(b:Int):decide ((Sum.inr a:Key)=Sum.inl b)=false:=decide_eq_false (fun q=>nomatch q)
def dS (prog:Program)(w:World):PySem.KeyKind prog w Key where
 is:=wG
 hash:=qg3 w
 inj:=fun v a b ha hb=>by
  rcases dU ha with ⟨i,t,rfl,rfl⟩ | ⟨x,t,rfl,rfl⟩
  ·rcases dU hb with ⟨j,u,rfl,e⟩ | ⟨y,u,rfl,e⟩
   ·injection e with e1 _;rw[e1]
   ·exact nomatch e
  ·rcases dU hb with ⟨j,u,rfl,e⟩ | ⟨y,u,rfl,e⟩
   ·exact nomatch e
   ·injection e with e1 _;rw[e1]
 byValue:=fun k v h=>by
  rcases dU h with ⟨i,t,rfl,rfl⟩ | ⟨x,t,rfl,rfl⟩<;>rfl
 pyHash:=fun hv h=>by
  rcases dU hv with ⟨i,t,rfl,rfl⟩ | ⟨x,t,rfl,rfl⟩
  ·exact wpAny_pyHash_int h
  ·exact wpAny_pyHash_str h
 eqBool:=fun hu hv h=>by
  rcases dU hu with ⟨i,t,rfl,rfl⟩ | ⟨x,t,rfl,rfl⟩
  ·rcases dU hv with ⟨j,u,rfl,rfl⟩ | ⟨y,u,rfl,rfl⟩
   ·rw[Wa] at h;exact wpAny_eqBool_int h
   ·rw[Yx] at h;exact SeqAt.EqAt.int_str i t y u _ _ _ _ h
  ·rcases dU hv with ⟨j,u,rfl,rfl⟩ | ⟨y,u,rfl,rfl⟩
   ·rw[Xi] at h;exact SeqAt.EqAt.str_int x t j u _ _ _ _ h
   ·rw[Yk] at h;exact wpAny_eqBool_str h
 «strs»:=fun k x t v h=>by
  rcases dU h with ⟨i,u,rfl,e⟩ | ⟨y,u,rfl,e⟩
  ·exact nomatch e
  ·injection e with e1 _
   subst e1
   cases v<;>rfl
theorem Am (prog:Program)(w:World)(i:Int)(t:Tok):(dS prog w).is (.inl i) (.int i t)=true:=Jl i t
theorem Ac (prog:Program)(w:World)(x:Str)(t:Tok):(dS prog w).is (.inr x) (.str x t)=true:=Jc x t
inductive V where
 |non | bl (b:Bool) | int (i:Int) | str (x:Str) | byt (b:Array UInt8) | flt (b:UInt64) | ref (a:Addr) | ty (n:String)
 deriving DecidableEq
def cE:V->Value->Prop
 | .non,u=>u=Value.none
 | .bl b,u=>u=Value.bool b
 | .int i,u=>∃t,u=Value.int i t
 | .str x,u=>∃t,u=Value.str x t
 | .byt b,u=>∃t,u=Value.bytes b t
 | .flt b,u=>∃t,u=Value.float b t
 | .ref a,u=>u=Value.ref a
 | .ty n,u=>u=Value.type n
abbrev bZ:List V->List Value->Prop:=Paired cE
theorem bZ.length {xs:List V}{us:List Value}(r:bZ xs us):xs.length=us.length:=Paired.length r
theorem bZ.get:∀{xs:List V} {us:List Value} {i:Nat} {x:V},bZ xs us->xs[i]?=some x->∃u,us[i]?=some u/\cE x u
 |_,_,_,_,.nil,e=>by simp at e
 |_,_,0,_,.cons r _,e=>by simp at e;subst e;exact⟨_,rfl,r⟩
 |_,_,i+1,x,.cons _ t,e=>by
  obtain⟨u,h1,h2⟩:=bZ.get (i:=i) (x:=x) t (by simpa using e);exact⟨u,by simpa using h1,h2⟩
theorem bZ.set {x:V}{u:Value}(r:cE x u):∀{xs:List V} {us:List Value} (i:Nat),bZ xs us->bZ (xs.set i x) (us.set i u)
 |_,_,_,.nil=>.nil
 |_,_,0,.cons _ t=>.cons r t
 |_,_,i+1,.cons q t=>.cons q (bZ.set r i t)
theorem bZ.append:∀{xs ys:List V} {us ws:List Value},bZ xs us->bZ ys ws->bZ (xs++ys) (us++ws)
 |_,_,_,_,.nil,s=>s
 |_,_,_,_,.cons r t,s=>.cons r (bZ.append t s)
theorem bZ.take:∀{xs:List V} {us:List Value} (n:Nat),bZ xs us->bZ (xs.take n) (us.take n)
 |_,_,0,_=>.nil
 |_,_,_+1,.nil=>.nil
 |_,_,n+1,.cons r t=>.cons r (bZ.take n t)
theorem bZ.drop:∀{xs:List V} {us:List Value} (n:Nat),bZ xs us->bZ (xs.drop n) (us.drop n)
 |_,_,0,r=>r
 |_,_,_+1,.nil=>.nil
 |_,_,n+1,.cons _ t=>bZ.drop n t
def lB:Option V->Option Value->Prop
 |some v,some u=>cE v u
 |none,none=>True
 |_,_=>False
def KV {κ:Type}:List (κ × V)->List (κ × Value)->Prop:=Paired fun (p:κ × V) (q:κ × Value)=>p.1=q.1/\cE p.2 q.2
def kV:Key->V
 | .inl i=>.int i
 | .inr x=>.str x
inductive HO where
 |lst (xs:List V)
 |tup (xs:List V)
 |dK (kvs:List (Key × V)) | dT (kvs:List (List Key × V))
 |set (S:Int->Bool) (n:Nat)
 |ins (C dx:Addr) (fs:List (Str × V))
 |own (x:Addr)
 |xd (fs:List (Str × V))
 |met (f x:Addr)
 |rng (lo hi:Int)
 |frz (o:Obj) (u:HO)
 |tbl (ps:Array Value)
 |ext (φ:Heap->Prop)
abbrev Hp:=Addr->Option HO
def upd (H:Hp)(a:Addr)(o:HO):Hp:=fun b=>if b=a then some o else H b
theorem aE {H:Hp}{a:Addr}{o:HO}:upd H a o a=some o:=by unfold upd;rw[if_pos rfl]
theorem aW {H:Hp}{a b:Addr}{o:HO}(h:b≠a):upd H a o b=H b:=by unfold upd;rw[if_neg h]
theorem oY {H:Hp}{a:Addr}{o u:HO}:upd (upd H a o) a u=upd H a u:=by
 funext b;unfold upd;split<;>rfl
theorem eY {H:Hp}{a b:Addr}{o u:HO}(h:H a=some o)(h':H b=some u)(d:o≠u):a≠b:=by
 intro e;subst e;rw[h] at h';exact d (Option.some.inj h')
theorem bA {H:Hp}{a b:Addr}{o:HO}(h:H a=some o)(h':H b=none):a≠b:=by
 intro e;subst e;rw[h] at h';cases h'
section
variable (P:Program) (w:World)
def dX (H:Hp)(h:Heap)(a:Addr):HO->Prop
 | .lst xs=>xs.length<=sizeLine/\∃(its:List Value) (n:Nat),bZ xs its/\h.get? a=some { cls:=.type "list",data:=.seq its.toArray n }
 | .tup xs=>xs.length<=sizeLine/\∃its:List Value,bZ xs its/\IsTup h a its.toArray
 | .dK kvs=>kvs.length<=sizeLine/\(a == sysModules)=false/\∃vs,KV kvs vs/\h.DictOf (dS P w) a vs
 | .dT kvs=>kvs.length<=sizeLine/\(a == sysModules)=false/\∃xs:List (List Key × Addr × Value),
   Paired (fun (p:List Key × V) (q:List Key × Addr × Value)=>p.1=q.1/\H q.2.1=some (.tup (p.1.map kV))/\cE p.2 q.2.2) kvs xs/\
   ∃o es ep,h.get? a=some o/\o.ExactDict/\o.data=.dict es ep/\es.toList=xs.map (entryOfKey (tupleKind (dS P w)))/\(xs.map (·.1)).Nodup
 | .set S n=>h.SetOf (intKind P w) a S n
 | .ins C dx fs=>H dx=some (.own a)/\fs.length<=1000/\dx≠a/\h.get? a=some (W.instObj C dx)/\
   ∃mA,h.Ns1 dx mA/\(∀f,lB (fs.lookup f) (mA f))/\PySem.Within mA (fs.map (·.1))
 | .own _=>∃o,h.get? a=some o
 | .xd fs=>∃mA,h.Ns1 a mA/\∀f,lB (fs.lookup f) (mA f)
 | .rng lo hi=>∃t u v,h.get? a=some { cls:=.type "range",data:=.fields #[.int lo t,.int hi u,.int 1 v] }
 | .frz o u=>h.get? a=some o/\dX H h a u
 | .tbl ps=>h.get? a=some { cls:=.none,data:=.fields ps }
 | .met f x=>h.get? a=some (W.methodObj (.ref f) (.ref x))
 | .ext φ=>φ h/\(∃o,h.get? a=some o)/\∀h1 h2:Heap,φ h1->(∀o,h1.get? a=some o->h2.get? a=some o)->φ h2
def HOk (H:Hp)(h:Heap):Prop:=∀a o,H a=some o->dX P w H h a o
end
section
variable {P:Program} {w:World} {H H':Hp} {h h':Heap} {a:Addr} {o:HO}
theorem dX.lt (x:dX P w H h a o):a < h.objs.size:=by
 cases o with
 |lst xs=>obtain⟨_,_,_,_,e⟩:=x;exact Heap.lt_size e
 |tup xs=>obtain⟨_,_,_,p⟩:=x;exact p.lt
 |dK kvs=>obtain⟨_,_,_,_,o,_,_,e,_⟩:=x;exact Heap.lt_size e
 |dT kvs=>obtain⟨_,_,_,_,o,_,_,e,_⟩:=x;exact Heap.lt_size e
 |set S n=>obtain⟨o,_,_,_,e,_⟩:=x;exact Heap.lt_size e
 |ins C dx fs=>obtain⟨_,_,_,e,_⟩:=x;exact Heap.lt_size e
 |own y=>obtain⟨_,e⟩:=x;exact Heap.lt_size e
 |xd fs=>obtain⟨_,⟨_,_,_,e,_⟩,_⟩:=x;exact Heap.lt_size e
 |rng lo hi=>obtain⟨_,_,_,e⟩:=x;exact Heap.lt_size e
 |frz ob u=>obtain⟨e,_⟩:=x;exact Heap.lt_size e
 |tbl ps=>exact Heap.lt_size (show h.get? a=some _ from x)
 |met f y=>exact Heap.lt_size (show h.get? a=some _ from x)
 |ext φ=>obtain⟨_,⟨_,e⟩,_⟩:=x;exact Heap.lt_size e
theorem Paired.mapP {α β:Type}{F G:α->β->Prop}:∀{l₁:List α} {l₂:List β},Paired F l₁ l₂->(∀a b,F a b->G a b)->Paired G l₁ l₂
 |_,_,.nil,_=>.nil
 |_,_,.cons r t,f=>.cons (f _ _ r) (Paired.mapP t f)
theorem dX.stay (x:dX P w H h a o)(k:∀b u,(b=a\/H b=some (.own a))->h.get? b=some u->h'.get? b=some u)(ho:∀b,H b=some (.own a)->H' b=some (.own a))(ht:∀b xs,H b=some (.tup xs)->H' b=some (.tup xs)):dX P w H' h' a o:=by
 induction o with
 |lst xs=>obtain⟨z,its,n,r,e⟩:=x;exact⟨z,its,n,r,k _ _ (.inl rfl) e⟩
 |tup xs=>obtain⟨z,its,r,ob,e,c⟩:=x;exact⟨z,its,r,ob,k _ _ (.inl rfl) e,c⟩
 |dK kvs=>obtain⟨z,y,vs,r,ob,es,ep,e,c⟩:=x;exact⟨z,y,vs,r,ob,es,ep,k _ _ (.inl rfl) e,c⟩
 |dT kvs=>
  obtain⟨z,y,xs,r,ob,es,ep,e,c⟩:=x;exact⟨z,y,xs,Paired.mapP r fun p q z=>⟨z.1,ht _ _ z.2.1,z.2.2⟩,ob,es,ep,k _ _ (.inl rfl) e,c⟩
 |set S n=>obtain⟨ob,es,ep,t,e,c⟩:=x;exact⟨ob,es,ep,t,k _ _ (.inl rfl) e,c⟩
 |ins C dx fs=>
  obtain⟨d,z,ne,e,mA,⟨od,es,ep,e2,c⟩,r⟩:=x;exact⟨ho _ d,z,ne,k _ _ (.inl rfl) e,mA,⟨od,es,ep,k _ _ (.inr d) e2,c⟩,r⟩
 |own y=>obtain⟨ob,e⟩:=x;exact⟨ob,k _ _ (.inl rfl) e⟩
 |xd fs=>obtain⟨mA,⟨od,es,ep,e,c⟩,r⟩:=x;exact⟨mA,⟨od,es,ep,k _ _ (.inl rfl) e,c⟩,r⟩
 |rng lo hi=>obtain⟨t,u,v,e⟩:=x;exact⟨t,u,v,k _ _ (.inl rfl) e⟩
 |frz ob u ih=>obtain⟨e,q⟩:=x;exact⟨k _ _ (.inl rfl) e,ih q⟩
 |tbl ps=>
  have e:h.get? a=some { cls:=.none,data:=.fields ps }:=x;show h'.get? a=some { cls:=.none,data:=.fields ps };exact k a _ (.inl rfl) e
 |met f y=>
  have e:h.get? a=some (W.methodObj (.ref f) (.ref y)):=x;show h'.get? a=some (W.methodObj (.ref f) (.ref y));exact k a _ (.inl rfl) e
 |ext φ=>obtain⟨p,⟨o,e⟩,st⟩:=x;exact⟨st _ _ p fun o q=>k _ _ (.inl rfl) q,⟨o,k _ _ (.inl rfl) e⟩,st⟩
theorem HOk.lt (x:HOk P w H h)(e:H a=some o):a < h.objs.size:=(x a o e).lt
theorem HOk.fresh (x:HOk P w H h)(e:h.objs.size<=a):H a=none:=by
 cases q:H a with
 |none=>rfl
 |some u=>exact absurd (Nat.lt_of_lt_of_le (x.lt q) e) (Nat.lt_irrefl _)
theorem HOk.kept (x:HOk P w H h)(k:∀b u,h.get? b=some u->h'.get? b=some u):HOk P w H h':=fun a o e=>
 (x a o e).stay (fun b u _ q=>k b u q) (fun _ q=>q) fun _ _ q=>q
theorem HOk.laid (x:HOk P w H h)(k:∀b u,h.get? b=some u->h'.get? b=some u)(hp:h.objs.size<=a)(new:dX P w (upd H a o) h' a o):HOk P w (upd H a o) h':=fun b u e=>by
 have hn:=x.fresh hp
 by_cases hb:b=a
 ·subst hb;rw[aE] at e;cases e;exact new
 ·rw[aW hb] at e;exact(x b u e).stay (fun c v _ q=>k c v q) (fun c q=>by rw[aW (bA q hn)];exact q) fun c xs q=>by rw[aW (bA q hn)];exact q
end
def Rd (H:Hp)(a:Addr)(u:HO):Prop:=H a=some u\/∃o,H a=some (.frz o u)
theorem Rd.ok {P:Program}{w:World}{H:Hp}{h:Heap}{a:Addr}{u:HO}(r:Rd H a u)(x:HOk P w H h):dX P w H h a u:=by
 rcases r with r | ⟨o,r⟩
 ·exact x a u r
 ·obtain⟨_,q⟩:=x a _ r;exact q
def Mut:Option HO->Prop
 |some (.lst _)=>True
 |some (.dK _)=>True
 |some (.dT _)=>True
 |some (.set _ _)=>True
 |some (.ins _ _ _)=>True
 |some (.ext _)=>True
 |_=>False
section
variable {P:Program} {w:World} {H:Hp} {h h':Heap} {x e:Addr} {o':HO}
theorem HOk.write (ok:HOk P w H h)(mu:Mut (H x))(he:e=x\/H e=some (.own x))(k:∀b u,b≠e->h.get? b=some u->h'.get? b=some u)(heo:∃u,h'.get? e=some u)(new:dX P w (upd H x o') h' x o'):HOk P w (upd H x o') h':=fun b u q=>by
 have nown:∀c y,H c=some (.own y)->c≠x:=fun c y r z=>by subst z;rw[r] at mu;exact mu
 have ntup:∀c xs,H c=some (.tup xs)->c≠x:=fun c xs r z=>by subst z;rw[r] at mu;exact mu
 by_cases hb:b=x
 ·subst hb;rw[aE] at q;cases q;exact new
 ·rw[aW hb] at q
  by_cases hbe:b=e
  ·have q':H b=some (.own x):=by
    rcases he with z | z
    ·exact absurd (hbe.trans z) hb
    ·rw[hbe];exact z
   rw[q] at q';cases q';obtain⟨v,hv⟩:=heo;exact⟨v,by rw[hbe];exact hv⟩
  ·refine(ok b u q).stay (fun c v hc r=>k c v ?_ r) (fun c r=>by rw[aW (nown c b r)];exact r) fun c xs r=>by rw[aW (ntup c xs r)];exact r
   rcases hc with rfl | hc
   ·exact hbe
   ·rintro rfl;rcases he with z | z
    ·exact nown c b hc z
    ·rw[hc] at z;cases z;exact hb rfl
end
structure Un (fs ex:List Addr) (H H':Hp) (h h':Heap):Prop where
 keep:∀b o,h.get? b=some o->H b=none->b∉fs->b∉ex->h'.get? b=some o
 slot:∀b o,h.get? b=some o->H b=none->b∈fs->b∉ex->∃sl,h'.get? b=some { o with slots:=sl }
 free:∀b o,h.get? b=some o->H b=none->b∉ex->H' b=none
 there:∀b o,h.get? b=some o->b∉ex->∃o',h'.get? b=some o'
 tups:∀b xs,H b=some (.tup xs)->H' b=some (.tup xs)
 frzs:∀b o u,H b=some (.frz o u)->H' b=some (.frz o u)
 tbls:∀b ps,H b=some (.tbl ps)->∃more,H' b=some (.tbl (ps++more))
section
variable {fs fs' ex ex':List Addr} {H H1 H2:Hp} {h h1 h2 h':Heap} {a x e:Addr} {o:HO}
theorem Un.any (u:Un fs ex H H1 h h1){b:Addr}{ob:Obj}(q:h.get? b=some ob)(n:H b=none)(hx:b∉ex):∃sl,h1.get? b=some { ob with slots:=sl }:=by
 by_cases hb:b∈fs
 ·exact u.slot b ob q n hb hx
 ·exact⟨ob.slots,u.keep b ob q n hb hx⟩
theorem Un.kept (k:∀b u,h.get? b=some u->h'.get? b=some u):Un fs ex H H h h':=
 ⟨fun b ob q _ _ _=>k b ob q,fun b ob q _ _ _=>⟨ob.slots,k b ob q⟩,fun _ _ _ n _=>n,fun b ob q _=>⟨ob,k b ob q⟩,fun _ _ q=>q,fun _ _ _ q=>q,fun _ ps q=>⟨#[],by rw[q];simp⟩⟩
theorem Un.refl:Un fs ex H H h h:=Un.kept fun _ _ q=>q
theorem Un.laid (k:∀b u,h.get? b=some u->h'.get? b=some u)(hp:h.objs.size<=a)(hn:H a=none):Un fs ex H (upd H a o) h h' where
 keep:=fun b u q _ _ _=>k b u q
 slot:=fun b u q _ _ _=>⟨u.slots,k b u q⟩
 free:=fun b u q n _=>by rw[aW (Nat.ne_of_lt (Nat.lt_of_lt_of_le (Heap.lt_size q) hp))];exact n
 there:=fun b u q _=>⟨u,k b u q⟩
 tups:=fun b xs q=>by rw[aW (bA q hn)];exact q
 frzs:=fun b u xs q=>by rw[aW (bA q hn)];exact q
 tbls:=fun b ps q=>⟨#[],by rw[aW (bA q hn),q];simp⟩
theorem Un.write (mu:Mut (H x))(he:e=x\/H e=some (.own x))(k:∀b u,b≠e->h.get? b=some u->h'.get? b=some u)(heo:∃u,h'.get? e=some u):Un fs ex H (upd H x o) h h':=by
 have hx:∀b,H b=none->b≠x:=fun b n z=>by subst z;rw[n] at mu;exact mu
 have hb:∀b,H b=none->b≠e:=fun b n z=>by
  subst z;rcases he with r | r
  ·exact hx b n r
  ·rw[n] at r;cases r
 have hm:∀b u,H b=some u->¬Mut (some u)->b≠x:=fun b u q nm z=>by subst z;rw[q] at mu;exact nm mu
 refine⟨fun b u q n _ _=>k b u (hb b n) q,fun b u q n _ _=>⟨u.slots,k b u (hb b n) q⟩,fun b u q n _=>by rw[aW (hx b n)];exact n,fun b u q _=>?_,
  fun b xs q=>by rw[aW (hm b _ q fun z=>z)];exact q,fun b u xs q=>by rw[aW (hm b _ q fun z=>z)];exact q,fun b ps q=>⟨#[],by rw[aW (hm b _ q fun z=>z),q];simp⟩⟩
 by_cases hbe:b=e
 ·subst hbe;exact heo
 ·exact⟨u,k b u hbe q⟩
end
def trk (h:Heap)(H:Hp):List Addr:=(List.range h.objs.size).filter fun a=>(H a).isSome
def zH (h:Heap)(H:Hp):Heap:=W.hideAll h (trk h H)
theorem Kj (h:Heap)(H:Hp):(zH h H).objs.size=h.objs.size:=W.hideAll_size _ _
theorem Nb {h:Heap}{H:Hp}{b:Addr}{o:Obj}(e:h.get? b=some o)(n:H b=none):(zH h H).get? b=some o:=
 W.hideAll_get _ e fun hm=>by
  have q:(H b).isSome=true:=(mem_filter.mp hm).2;rw[n] at q;simp at q
theorem Ty {h:Heap}{H:Hp}{b:Addr}{o:Obj}(e:(zH h H).get? b=some o):h.get? b=some o/\H b=none:=by
 have e':h.get? b=some o:=W.of_hideAll (trk h H) e;refine⟨e',?_⟩
 cases q:H b with
 |none=>rfl
 |some x=>
  have hm:b∈trk h H:=mem_filter.mpr ⟨mem_range.mpr (Heap.lt_size e'),by simp[q]⟩;have z:(zH h H).get? b=none:=W.hideAll_none (trk h H) hm;rw[z] at e;cases e
structure Mod (K:Frag) (mg:Str->Option Value) (base:Heap):Prop where
 kin:K.In base
 glob:base.Ns mainGlobals mg
 blt:∃mb,base.Ns builtinsNs mb/\∀x:Str,x≠"__name__"->mb x=bootBuiltins x
 nolimit:base.NoLimit
structure Cx where
 prog:Program
 w:World
 K:Frag
 mg:Str->Option Value
 base:Heap
 A:Around
 N:List Str
 s₀:Shared
 H₀:Hp
 env:Env
 outer:List Env
 stack:List Env
 ex:List Addr
 fn:Str->Bool
 calm:Bool
 pn:List (Addr × Obj)
 xe:Value->Shared->Prop
def frs (l:List Env):List Addr:=l.filterMap (·.frame)
abbrev Cx.fs (X:Cx):List Addr:=frs X.outer
def Vis (sc:Scope)(x:Str):Prop:=sc.names.lookup x=some .local\/sc.names.lookup x=some .cell\/sc.names.lookup x=some .free
def Loc (sc:Scope)(x:Str):Prop:=sc.names.lookup x=some .local\/sc.names.lookup x=some .cell
def qj3 (env:Env)(h:Heap)(m:Str->Option Value)(x:Str)(u:Value):Prop:=
 (env.kindOf x=some .local/\m x=some u)\/((env.kindOf x=some .cell\/env.kindOf x=some .free)/\∃c,env.cells.lookup x=some c/\h.IsCell c (some u))
structure Cx.Ok (X:Cx):Prop where
 mod:Mod X.K X.mg X.base
 kind:X.env.scope.kind=.function
 glob:X.env.globals=mainGlobals
 blt:X.env.builtins=builtinsNs
 above:X.s₀.heap.objs.size<=X.env.locals
 inj:∀x y c,X.env.cells.lookup x=some c->X.env.cells.lookup y=some c->x=y
 has:∀x,(X.env.kindOf x=some .cell\/X.env.kindOf x=some .free)->∃c,X.env.cells.lookup x=some c
 cab:∀x c,X.fn x=true->X.env.cells.lookup x=some c->X.s₀.heap.objs.size<=c
 hd:X.calm=true->X.A.handled=none
 frames:X.A.frames=some X.stack
 stk:X.stack=X.outer\/(X.stack=X.env :: X.outer/\X.env.frame=some X.env.locals)
 exf:∀b∈X.ex,b≠X.env.locals/\∀x c,X.env.cells.lookup x=some c->c≠b
 bs:∀b o,X.base.get? b=some o->X.s₀.heap.get? b=some o/\X.H₀ b=none
 bsz:X.base.objs.size<=X.s₀.heap.objs.size
 noex:∀b o,X.base.get? b=some o->b∉X.ex
 exfs:∀b∈X.ex,b∉X.fs
 funs:X.s₀.heap.FunFrames X.base X.outer
 frf:∀b∈X.fs,X.H₀ b=none
structure Inv (X:Cx) (pins:List (Addr × Obj)) (σ:List (Option V)) (H:Hp) (s:Shared):Prop where
 ok:X.Ok
 os:s.os=X.s₀.os
 bare:AllBare s.gens
 base:Un X.fs X.ex X.H₀ H X.s₀.heap s.heap
 loc:∃m,s.heap.Ns X.env.locals m/\∀(i:Nat) (x:Str) (v:V),X.N[i]?=some x->σ[i]?=some (some v)->Vis X.env.scope x->∃u,cE v u/\qj3 X.env s.heap m x u
 cell:∀x c,X.env.cells.lookup x=some c->∃v,s.heap.IsCell c v
 free:H X.env.locals=none
 freeC:∀x c,X.env.cells.lookup x=some c->H c=none
 pin:∀p∈X.pn++pins,s.heap.get? p.1=some p.2/\H p.1=none/\p.1≠X.env.locals/\p.1∉X.fs/\∀v,p.2.data≠.cell v
 hok:HOk X.prog X.w H s.heap
 len:σ.length=X.N.length
section
variable {X:Cx} {pins:List (Addr × Obj)} {σ:List (Option V)} {H H':Hp} {s:Shared} {h':Heap}
theorem Cx.Ok.nofr (ok:X.Ok){b:Addr}{o:Obj}(e:X.base.get? b=some o):b∉X.fs:=fun hb=>by
 have:=(ok.funs.mem hb).1;rw[e] at this;cases this
theorem Inv.bs (I:Inv X pins σ H s):∀b o,X.base.get? b=some o->s.heap.get? b=some o/\H b=none:=fun b o e=>
 ⟨I.base.keep b o (I.ok.bs b o e).1 (I.ok.bs b o e).2 (I.ok.nofr e) (I.ok.noex b o e),I.base.free b o (I.ok.bs b o e).1 (I.ok.bs b o e).2 (I.ok.noex b o e)⟩
theorem Inv.bk (I:Inv X pins σ H s):∀b o,X.base.get? b=some o->s.heap.get? b=some o:=fun b o e=>(I.bs b o e).1
theorem Inv.mod (I:Inv X pins σ H s):Mod X.K X.mg X.base:=I.ok.mod
theorem Inv.kIn (I:Inv X pins σ H s):X.K.In s.heap:=I.ok.mod.kin.keeps I.bk
theorem Inv.lt (I:Inv X pins σ H s):X.env.locals < s.heap.objs.size:=let ⟨_,hn,_⟩:=I.loc;hn.lt
theorem Inv.sz (I:Inv X pins σ H s):X.s₀.heap.objs.size<=s.heap.objs.size:=Nat.le_trans I.ok.above (Nat.le_of_lt I.lt)
theorem Inv.nofs (I:Inv X pins σ H s){a:Addr}(h:s.heap.objs.size<=a):a∉X.fs:=fun hb=>by
 obtain⟨_,o,ho,_⟩:=I.ok.funs.mem hb;exact absurd (Nat.lt_of_lt_of_le (Heap.lt_size ho) (Nat.le_trans I.sz h)) (Nat.lt_irrefl _)
theorem Inv.cne (I:Inv X pins σ H s):∀x c,X.env.cells.lookup x=some c->c≠X.env.locals:=fun x c e z=>by
 obtain⟨v,o,ho,hd⟩:=I.cell x c e;obtain⟨m,⟨o',es,ep,ho',hd',_⟩,_⟩:=I.loc;rw[z,ho'] at ho;cases ho;rw[hd'] at hd;cases hd
theorem Inv.funs (I:Inv X pins σ H s):s.heap.FunFrames X.base X.outer:=by
 have all:∀(l:List Env),(∀b∈frs l,b∈X.fs)->X.s₀.heap.FunFrames X.base l->s.heap.FunFrames X.base l:=by
  intro l
  induction l with
  |nil=>intro _ _;trivial
  |cons env r ih=>
   intro hs hl;obtain⟨hk,⟨L,o,hf,hn,ho,hd⟩,hr⟩:=hl;have hL:L∈X.fs:=hs L (by unfold frs;rw[filterMap_cons,hf];exact mem_cons_self);obtain⟨sl,e⟩:=I.base.slot L o ho (I.ok.frf L hL) hL fun z=>I.ok.exfs L z hL;exact⟨hk,⟨L,_,hf,hn,e,hd⟩,ih (fun b hb=>hs b (by unfold frs;rw[filterMap_cons,hf];exact mem_cons_of_mem _ hb)) hr⟩
 exact all X.outer (fun _ hb=>hb) I.ok.funs
theorem Inv.stack (I:Inv X pins σ H s):s.heap.FunFrames X.base X.stack:=by
 rcases I.ok.stk with e | ⟨e,hf⟩
 ·rw[e];exact I.funs
 ·rw[e];obtain⟨m,hn,_⟩:=I.loc;refine .cons (by rw[I.ok.kind];decide) hf hn ?_ I.funs;exact Heap.get?_none_of_le (Nat.le_trans I.ok.bsz I.ok.above)
theorem Inv.stkSub (I:Inv X pins σ H s):∀b∈frs X.stack,b∈X.env.locals :: X.fs:=fun b hb=>by
 rcases I.ok.stk with e | ⟨e,hf⟩
 ·rw[e] at hb;exact mem_cons_of_mem _ hb
 ·rw[e] at hb;unfold frs at hb;rw[filterMap_cons,hf] at hb;exact hb
theorem Inv.stkFree (I:Inv X pins σ H s):∀b∈frs X.stack,H b=none:=fun b hb=>by
 rcases mem_cons.mp (I.stkSub b hb) with e | hb
 ·rw[e];exact I.free
 ·obtain⟨_,o,ho,_⟩:=I.ok.funs.mem hb;exact I.base.free b o ho (I.ok.frf b hb) fun z=>I.ok.exfs b z hb
theorem Inv.step {g':Array GenState}{t':Nat}{d':Drawn}{ch:List Addr}(I:Inv X pins σ H s)(hch:∀b∈ch,(b∈X.ex\/X.s₀.heap.objs.size<=b)/\b≠X.env.locals/\(∀x c,X.env.cells.lookup x=some c->c≠b)/\∀p∈X.pn++pins,p.1≠b)(keep:∀b o,b≠X.env.locals->b∉X.fs->b∉ch->s.heap.get? b=some o->H b=none->h'.get? b=some o)(slot:∀b o,b≠X.env.locals->b∈X.fs->b∉ch->s.heap.get? b=some o->H b=none->∃sl,h'.get? b=some { o with slots:=sl })(free:∀b o,b∉ch->s.heap.get? b=some o->H b=none->H' b=none)(there:∀b o,b∉ch->s.heap.get? b=some o->∃o',h'.get? b=some o')(tups:∀b xs,H b=some (.tup xs)->H' b=some (.tup xs))(frzs:∀b o u,H b=some (.frz o u)->H' b=some (.frz o u))(tbls:∀b ps,H b=some (.tbl ps)->∃more,H' b=some (.tbl (ps++more)))(ns:∀m,s.heap.Ns X.env.locals m->h'.Ns X.env.locals m)(hok:HOk X.prog X.w H' h')(hg:AllBare g') :
  Inv X pins σ H' { s with heap:=h',gens:=g',drawn:=d',toks:=t' }:=by
 have neL:∀b o,X.s₀.heap.get? b=some o->b≠X.env.locals:=fun b o e=>Nat.ne_of_lt (Nat.lt_of_lt_of_le (Heap.lt_size e) I.ok.above);have neC:∀b o,X.s₀.heap.get? b=some o->b∉X.ex->b∉ch:=fun b o e hx hb=>by
  rcases (hch b hb).1 with z | z
  ·exact hx z
  ·exact absurd (Nat.lt_of_lt_of_le (Heap.lt_size e) z) (Nat.lt_irrefl _)
 have cellK:∀x c,X.env.cells.lookup x=some c->∀v,s.heap.IsCell c v->h'.IsCell c v:=fun x c e v ⟨o,ho,hd⟩=>by
  have nch:c∉ch:=fun z=>(hch c z).2.2.1 x c e rfl
  by_cases hc:c∈X.fs
  ·obtain⟨sl,q⟩:=slot c o (I.cne x c e) hc nch ho (I.freeC x c e);exact⟨_,q,hd⟩
  ·exact⟨o,keep c o (I.cne x c e) hc nch ho (I.freeC x c e),hd⟩
 refine⟨I.ok,I.os,hg,⟨fun b o e n hb hx=>?_,fun b o e n hb hx=>?_,fun b o e n hx=>?_,fun b o e hx=>?_,fun b xs e=>tups b xs (I.base.tups b xs e),fun b o xs e=>frzs b o xs (I.base.frzs b o xs e),fun b ps e=>?_⟩,?_,fun x c e=>?_,?_,fun x c e=>?_,fun p hp=>?_,hok,I.len⟩
 ·exact keep b o (neL b o e) hb (neC b o e hx) (I.base.keep b o e n hb hx) (I.base.free b o e n hx)
 ·obtain⟨sl,e1⟩:=I.base.slot b o e n hb hx;obtain⟨sl',e2⟩:=slot b _ (neL b o e) hb (neC b o e hx) e1 (I.base.free b o e n hx);exact⟨sl',e2⟩
 ·obtain⟨o',e1⟩:=I.base.there b o e hx;exact free b o' (neC b o e hx) e1 (I.base.free b o e n hx)
 ·obtain⟨o',e1⟩:=I.base.there b o e hx;exact there b o' (neC b o e hx) e1
 ·obtain⟨m1,e1⟩:=I.base.tbls b ps e;obtain⟨m2,e2⟩:=tbls b _ e1;exact⟨m1++m2,by rw[e2,Array.append_assoc]⟩
 ·obtain⟨m,hn,hl⟩:=I.loc;refine⟨m,ns m hn,fun i x v e1 e2 e3=>?_⟩;obtain⟨u,r,l⟩:=hl i x v e1 e2 e3;refine⟨u,r,?_⟩;rcases l with l | ⟨k,c,e,z⟩
  ·exact .inl l
  ·exact .inr ⟨k,c,e,cellK x c e _ z⟩
 ·obtain⟨v,z⟩:=I.cell x c e;exact⟨v,cellK x c e v z⟩
 ·obtain⟨m,⟨o,_,_,ho,_⟩,_⟩:=I.loc;exact free _ o (fun z=>(hch _ z).2.1 rfl) ho I.free
 ·obtain⟨v,o,ho,hd⟩:=I.cell x c e;exact free c o (fun z=>(hch c z).2.2.1 x c e rfl) ho (I.freeC x c e)
 ·obtain⟨e,n,ne,nf,d⟩:=I.pin p hp;have nch:p.1∉ch:=fun z=>(hch p.1 z).2.2.2 p hp rfl;exact⟨keep p.1 p.2 ne nf nch e n,free p.1 p.2 nch e n,ne,nf,d⟩
theorem Inv.un {t':Nat}(I:Inv X pins σ H s)(u:Un X.fs [] H H' s.heap h')(hok:HOk X.prog X.w H' h'):Inv X pins σ H' { s with heap:=h',toks:=t' }:=by
 obtain⟨m,⟨o,es,ep,ho,r⟩,_⟩:=id I.loc;obtain⟨sl,hL⟩:=u.any ho I.free (by simp);exact I.step (g':=s.gens) (d':=s.drawn) (ch:=[]) (fun _ z=>nomatch z) (fun b o _ hb _ e n=>u.keep b o e n hb (by simp)) (fun b o _ hb _ e n=>u.slot b o e n hb (by simp)) (fun b o _ e n=>u.free b o e n (by simp)) (fun b o _ e=>u.there b o e (by simp)) u.tups u.frzs u.tbls (fun m' hm=>by
  obtain⟨o',es',ep',ho',r'⟩:=hm;rw[ho] at ho';cases ho';exact⟨_,es',ep',hL,r'⟩) hok I.bare
theorem Inv.call {g':Array GenState}{t':Nat}{d':Drawn}{ch:List Addr}(I:Inv X pins σ H s)(u:Un (frs X.stack) ch H H' s.heap h')(hok:HOk X.prog X.w H' h')(hg:AllBare g')(hch:∀b∈ch,(b∈X.ex\/X.s₀.heap.objs.size<=b)/\b≠X.env.locals/\(∀x c,X.env.cells.lookup x=some c->c≠b)/\∀p∈X.pn++pins,p.1≠b) :
  Inv X pins σ H' { s with heap:=h',gens:=g',drawn:=d',toks:=t' }:=by
 obtain⟨m,⟨o,es,ep,ho,r⟩,_⟩:=id I.loc;obtain⟨sl,hL⟩:=u.any ho I.free fun z=>(hch _ z).2.1 rfl;exact I.step (ch:=ch) hch (fun b o hL hb hc e n=>u.keep b o e n (fun z=>(mem_cons.mp (I.stkSub b z)).elim hL hb) hc) (fun b o _ _ hc e n=>u.any e n hc) (fun b o hc e n=>u.free b o e n hc) (fun b o hc e=>u.there b o e hc) u.tups u.frzs u.tbls (fun m' hm=>by
  obtain⟨o',es',ep',ho',r'⟩:=hm;rw[ho] at ho';cases ho';exact⟨_,es',ep',hL,r'⟩) hok hg
theorem Inv.turned {t':Nat}{it:Addr}(I:Inv X pins σ H s)(k:∀b o,b≠it->s.heap.get? b=some o->h'.get? b=some o)(hn:H it=none)(hL:it≠X.env.locals)(h1:it∈X.ex\/X.s₀.heap.objs.size<=it)(h2:∀x c,X.env.cells.lookup x=some c->c≠it)(h3:∀p∈X.pn++pins,p.1≠it):Inv X pins σ H { s with heap:=h',toks:=t' }:=by
 have nit:∀b u,H b=some u->b≠it:=fun b u e z=>by rw[z,hn] at e;cases e
 refine I.step (g':=s.gens) (d':=s.drawn) (ch:=[it]) (fun b hb=>?_) (fun b o _ _ hc e _=>k b o (fun z=>hc (by simp[z])) e) (fun b o _ _ hc e _=>⟨o.slots,k b o (fun z=>hc (by simp[z])) e⟩) (fun _ _ _ _ n=>n)
  (fun b o hc e=>⟨o,k b o (fun z=>hc (by simp[z])) e⟩) (fun _ _ e=>e) (fun _ _ _ e=>e) (fun b ps e=>⟨#[],by rw[e];simp⟩) (fun m hm=>?_) (fun b u e=>?_) I.bare
 ·have e:b=it:=by simpa using hb
  subst e;exact⟨h1,hL,h2,h3⟩
 ·obtain⟨o,es,ep,ho,r⟩:=hm;exact⟨o,es,ep,k _ o (Ne.symm hL) ho,r⟩
 ·refine(I.hok b u e).stay (fun c v hc q=>k c v ?_ q) (fun _ q=>q) fun _ _ q=>q;rcases hc with z | z
  ·rw[z];exact nit b u e
  ·exact nit c _ z
theorem Inv.tok (I:Inv X pins σ H s)(t:Nat):Inv X pins σ H { s with toks:=t }:=I.un (h':=s.heap) (t':=t) Un.refl I.hok
theorem Inv.kept {t':Nat}(I:Inv X pins σ H s)(k:∀b u,s.heap.get? b=some u->h'.get? b=some u):Inv X pins σ H { s with heap:=h',toks:=t' }:=I.un (Un.kept k) (I.hok.kept k)
theorem Inv.laid {a:Addr}{o:HO}{t':Nat}(I:Inv X pins σ H s)(k:∀b u,s.heap.get? b=some u->h'.get? b=some u)(hp:s.heap.objs.size<=a)(new:dX X.prog X.w (upd H a o) h' a o) :
  Inv X pins σ (upd H a o) { s with heap:=h',toks:=t' }:=I.un (Un.laid k hp (I.hok.fresh hp)) (I.hok.laid k hp new)
theorem Inv.write {x e:Addr}{o:HO}{t':Nat}(I:Inv X pins σ H s)(mu:Mut (H x))(he:e=x\/H e=some (.own x))(k:∀b u,b≠e->s.heap.get? b=some u->h'.get? b=some u)(heo:∃u,h'.get? e=some u)(new:dX X.prog X.w (upd H x o) h' x o):Inv X pins σ (upd H x o) { s with heap:=h',toks:=t' }:=I.un (Un.write mu he k heo) (I.hok.write mu he k heo new)
theorem Inv.weak {σ':List (Option V)}(I:Inv X pins σ H s)(hl:σ'.length=σ.length)(w:∀(i:Nat) v,σ'[i]?=some (some v)->σ[i]?=some (some v)):Inv X pins σ' H s:=
 ⟨I.ok,I.os,I.bare,I.base,let ⟨m,hn,hl'⟩:=I.loc;⟨m,hn,fun i x v e1 e2 e3=>hl' i x v e1 (w i v e2) e3⟩,I.cell,I.free,I.freeC,I.pin,I.hok,hl.trans I.len⟩
theorem Inv.pins_of {pins':List (Addr × Obj)}(I:Inv X pins σ H s)(h:∀p∈pins',s.heap.get? p.1=some p.2/\H p.1=none/\p.1≠X.env.locals/\p.1∉X.fs/\∀v,p.2.data≠.cell v):Inv X pins' σ H s:=
 ⟨I.ok,I.os,I.bare,I.base,I.loc,I.cell,I.free,I.freeC,fun p hp=>(mem_append.mp hp).elim (fun z=>I.pin p (mem_append_left _ z)) (h p),I.hok,I.len⟩
theorem Az {N:List Str}(hN:N.Nodup){i j:Nat}{x:Str}(a:N[i]?=some x)(b:N[j]?=some x):i=j:=by
 obtain⟨h1,e1⟩:=List.getElem?_eq_some_iff.mp a;obtain⟨h2,e2⟩:=List.getElem?_eq_some_iff.mp b;exact(getElem_inj hN).mp (e1.trans e2.symm)
theorem wS {M:Model}{A:Around}{E:Value->Shared->Prop}{i:Nat}{x:Str}{v:V}{u:Value}{Q:Unit->Shared->Prop}(I:Inv X pins σ H s)(hN:X.N.Nodup)(hi:X.N[i]?=some x)(hx:Loc X.env.scope x)(r:cE v u)(h:∀s',Inv X pins (σ.set i (some v)) H s'->(∃a,Heap.SameBut a s.heap s'.heap/\(a=X.env.locals\/X.env.cells.lookup x=some a))->Q () s')(hf:X.fn x=true\/X.env.scope.names.lookup x=some .local:=by first | exact .inl rfl | exact .inr rfl | assumption):wpAny M A (storeName X.env x u) Q E s:=by
 obtain⟨m,hn,hl⟩:=id I.loc;have hcls:(X.env.scope.kind == .class || (X.env.scope.kind == .module && X.env.locals != X.env.globals))=false:=by rw[I.ok.kind];rfl
 have hiσ:i < σ.length:=by rw[I.len];exact(List.getElem?_eq_some_iff.mp hi).1
 have cne:=I.cne;have tracked:∀{a:Addr} {h':Heap},(∃o,s.heap.get? a=some o/\H a=none)->Heap.SameBut a s.heap h'->HOk X.prog X.w H h':=fun {a h'} ha hs b ob e=>by
  obtain⟨_,_,hfree⟩:=ha;refine(I.hok b ob e).stay (fun c w' hc q=>(hs.2 c ?_).trans q) (fun _ q=>q) fun _ _ q=>q;rintro rfl;rcases hc with rfl | hc
  ·rw[hfree] at e;cases e
  ·rw[hfree] at hc;cases hc
 rcases hx with hk | hk
 ·refine wpAny_storeName_local hk hn (fun h' hn' hs=>?_) hcls;obtain⟨oL,_,_,hoL,_⟩:=id hn;refine h _ ⟨I.ok,I.os,I.bare,⟨fun b o e n hb hx=>?_,fun b o e n hb hx=>?_,I.base.free,fun b o e hx=>?_,I.base.tups,I.base.frzs,I.base.tbls⟩,⟨_,hn',fun j y v' e1 e2 e3=>?_⟩,fun y c e=>?_,I.free,I.freeC,fun p hp=>?_,tracked ⟨oL,hoL,I.free⟩ hs,by simpa using I.len⟩ ⟨_,hs,.inl rfl⟩
  ·exact(hs.2 b (Nat.ne_of_lt (Nat.lt_of_lt_of_le (Heap.lt_size e) I.ok.above))).trans (I.base.keep b o e n hb hx)
  ·obtain⟨sl,e1⟩:=I.base.slot b o e n hb hx;exact⟨sl,(hs.2 b (Nat.ne_of_lt (Nat.lt_of_lt_of_le (Heap.lt_size e) I.ok.above))).trans e1⟩
  ·obtain⟨o',e1⟩:=I.base.there b o e hx;exact⟨o',(hs.2 b (Nat.ne_of_lt (Nat.lt_of_lt_of_le (Heap.lt_size e) I.ok.above))).trans e1⟩
  ·by_cases hj:j=i
   ·subst hj;rw[hi] at e1;cases e1;rw[getElem?_set_self hiσ] at e2
    cases e2
    exact⟨u,r,.inl ⟨hk,by simp⟩⟩
   ·rw[getElem?_set_ne (Ne.symm hj)] at e2;obtain⟨u',r',q⟩:=hl j y v' e1 e2 e3;refine⟨u',r',?_⟩;rcases q with ⟨k,e⟩ | ⟨k,c,e,z⟩
    ·refine .inl ⟨k,?_⟩;have:y≠x:=fun e=>hj (Az hN e1 (e ▸ hi));simp[this,e]
    ·exact .inr ⟨k,c,e,z.sameBut hs (cne y c e)⟩
  ·obtain⟨w',z⟩:=I.cell y c e;exact⟨w',z.sameBut hs (cne y c e)⟩
  ·obtain⟨e,n,ne,nf,d⟩:=I.pin p hp;exact⟨(hs.2 p.1 ne).trans e,n,ne,nf,d⟩
 ·have hfn:X.fn x=true:=by
   rcases hf with z | z
   ·exact z
   ·rw[z] at hk;cases hk
  obtain⟨c,hc⟩:=I.ok.has x (.inl hk);obtain⟨w',z⟩:=I.cell x c hc;refine wpAny_storeName_cell I.ok.kind hk hc z (fun h' hc' hs=>?_);obtain⟨oc,hoc,hocd⟩:=id z;refine h { s with heap:=h' } ⟨I.ok,I.os,I.bare,⟨fun b o e n hb hx=>?_,fun b o e n hb hx=>?_,I.base.free,fun b o e hx=>?_,I.base.tups,I.base.frzs,I.base.tbls⟩,⟨m,hn.sameBut hs (Ne.symm (cne x c hc)),fun j y v' e1 e2 e3=>?_⟩,fun y c' e=>?_,I.free,I.freeC,fun p hp=>?_,tracked ⟨oc,hoc,I.freeC x c hc⟩ hs,by simpa using I.len⟩ ⟨c,hs,.inr hc⟩
  ·exact(hs.2 b (Nat.ne_of_lt (Nat.lt_of_lt_of_le (Heap.lt_size e) (I.ok.cab x c hfn hc)))).trans (I.base.keep b o e n hb hx)
  ·obtain⟨sl,e1⟩:=I.base.slot b o e n hb hx;exact⟨sl,(hs.2 b (Nat.ne_of_lt (Nat.lt_of_lt_of_le (Heap.lt_size e) (I.ok.cab x c hfn hc)))).trans e1⟩
  ·obtain⟨o',e1⟩:=I.base.there b o e hx;exact⟨o',(hs.2 b (Nat.ne_of_lt (Nat.lt_of_lt_of_le (Heap.lt_size e) (I.ok.cab x c hfn hc)))).trans e1⟩
  ·by_cases hj:j=i
   ·subst hj;rw[hi] at e1;cases e1;rw[getElem?_set_self hiσ] at e2
    cases e2
    exact⟨u,r,.inr ⟨.inl hk,c,hc,hc'⟩⟩
   ·rw[getElem?_set_ne (Ne.symm hj)] at e2;obtain⟨u',r',q⟩:=hl j y v' e1 e2 e3;refine⟨u',r',?_⟩;rcases q with q | ⟨k,c',e,z'⟩
    ·exact .inl q
    ·refine .inr ⟨k,c',e,z'.sameBut hs ?_⟩;rintro rfl;exact hj (Az hN e1 (I.ok.inj _ _ _ e hc ▸ hi))
  ·by_cases hcc:c'=c
   ·subst hcc;exact⟨_,hc'⟩
   ·obtain⟨w2,z2⟩:=I.cell y c' e;exact⟨w2,z2.sameBut hs hcc⟩
  ·obtain⟨e,n,ne,nf,d⟩:=I.pin p hp;refine⟨(hs.2 p.1 ?_).trans e,n,ne,nf,d⟩;intro q;rw[q,hoc] at e;have q':oc=p.2:=Option.some.inj e;exact d w' (by rw[<- q'];exact hocd)
theorem lM {M:Model}{A:Around}{E:Value->Shared->Prop}{i:Nat}{x:Str}{v:V}{u:Value}{Q:Unit->Shared->Prop}(I:Inv X pins σ H s)(hN:X.N.Nodup)(hi:X.N[i]?=some x)(hx:Loc X.env.scope x)(r:cE v u)(h:∀s',Inv X pins (σ.set i (some v)) H s'->Q () s')(hf:X.fn x=true\/X.env.scope.names.lookup x=some .local:=by first | exact .inl rfl | exact .inr rfl | assumption):wpAny M A (storeName X.env x u) Q E s:=
 wS I hN hi hx r (fun s' I' _=>h s' I') hf
theorem Inv.call' {s':Shared}{ch:List Addr}(I:Inv X pins σ H s)(ho:s'.os=s.os)(u:Un (frs X.stack) ch H H' s.heap s'.heap)(hok:HOk X.prog X.w H' s'.heap)(hg:AllBare s'.gens)(hch:∀b∈ch,(b∈X.ex\/X.s₀.heap.objs.size<=b)/\b≠X.env.locals/\(∀x c,X.env.cells.lookup x=some c->c≠b)/\∀p∈X.pn++pins,p.1≠b):Inv X pins σ H' s':=by
 obtain⟨h',g',d',t',o'⟩:=s';have e:o'=s.os:=ho;subst e;exact I.call (g':=g') (t':=t') (d':=d') u hok hg hch
end
abbrev XK:=Value->Option Addr->Hp->Prop
abbrev St:=List (Option V)
abbrev VK:=V->Hp->Prop
abbrev TE:=St->Hp->VK->Prop
abbrev TT:=St->Hp->(Bool->Hp->Prop)->Prop
abbrev TA:=St->Hp->(List V->Hp->Prop)->Prop
structure lF where
 nx:St->Hp->Prop
 rt:VK
 bk:St->Hp->Prop:=fun _ _=>False
 ct:St->Hp->Prop:=fun _ _=>False
abbrev TS:=lF->St->Hp->Prop
def EP (X:Cx)(pins:List (Addr × Obj))(σ:St)(Q:VK)(u:Value)(s':Shared):Prop:=∃v H',Inv X pins σ H' s'/\cE v u/\Q v H'
def TP (X:Cx)(pins:List (Addr × Obj))(σ:St)(Q:Bool->Hp->Prop)(b:Bool)(s':Shared):Prop:=∃H',Inv X pins σ H' s'/\Q b H'
def AP (X:Cx)(pins:List (Addr × Obj))(σ:St)(Q:List V->Hp->Prop)(us:List Value)(s':Shared):Prop:=∃vs H',Inv X pins σ H' s'/\bZ vs us/\Q vs H'
def SP (X:Cx)(pins:List (Addr × Obj))(D:lF)(f:Flow)(s':Shared):Prop:=
 match f with
 | .next=>∃σ' H',Inv X pins σ' H' s'/\D.nx σ' H'
 | .brk=>∃σ' H',Inv X pins σ' H' s'/\D.bk σ' H'
 | .cont=>∃σ' H',Inv X pins σ' H' s'/\D.ct σ' H'
 | .ret u=>∃v σ' H',Inv X pins σ' H' s'/\cE v u/\D.rt v H'
def PE (X:Cx)(e:Expr)(t:TE):Prop:=
 ∀(pins:List (Addr × Obj)) (s:Shared) (σ:St) (H:Hp) (Q:VK),Inv X pins σ H s->t σ H Q->wpAny (model X.prog X.w) X.A (eval e X.env) (EP X pins σ Q) X.xe s
def PT (X:Cx)(e:Expr)(t:TT):Prop:=
 ∀(pins:List (Addr × Obj)) (s:Shared) (σ:St) (H:Hp) (Q:Bool->Hp->Prop),Inv X pins σ H s->t σ H Q->wpAny (model X.prog X.w) X.A (isTrue e X.env (eval e X.env)) (TP X pins σ Q) X.xe s
def PW (X:Cx)(e:Expr)(t:TT):Prop:=
 ∀(whole:Sem Value) (pins:List (Addr × Obj)) (s:Shared) (σ:St) (H:Hp) (Q:Bool->Hp->Prop),Inv X pins σ H s->t σ H Q->wpAny (model X.prog X.w) X.A (isTrue e X.env whole) (TP X pins σ Q) X.xe s
theorem PW.pt {X:Cx}{e:Expr}{t:TT}(h:PW X e t):PT X e t:=h _
def PA (X:Cx)(es:List Expr)(t:TA):Prop:=
 ∀(pos:Pos) (pins:List (Addr × Obj)) (s:Shared) (σ:St) (H:Hp) (Q:List V->Hp->Prop),Inv X pins σ H s->t σ H Q->wpAny (model X.prog X.w) X.A (spliced (backTo pos (starEach es X.env))) (AP X pins σ Q) X.xe s
def PS (X:Cx)(st:Stmt)(t:TS):Prop:=
 ∀(pins:List (Addr × Obj)) (s:Shared) (σ:St) (H:Hp) (D:lF),Inv X pins σ H s->t D σ H->wpAny (model X.prog X.w) X.A (exec st X.env) (SP X pins D) X.xe s
def PSs (X:Cx)(st:List Stmt)(t:TS):Prop:=
 ∀(pins:List (Addr × Obj)) (s:Shared) (σ:St) (H:Hp) (D:lF),Inv X pins σ H s->t D σ H->wpAny (model X.prog X.w) X.A (execs st X.env) (SP X pins D) X.xe s
theorem thn {α:Type}{t:Sem α}{Q Q':α->Shared->Prop}{M:Model}{A:Around}{E:Value->Shared->Prop}{s:Shared}(h:wpAny M A t Q E s)(hQ:∀a s,Q a s->Q' a s):wpAny M A t Q' E s:=wpAny_mono h hQ fun _ _ x=>x
section
variable {X:Cx}
def Ry (i:Nat):TE:=fun σ H Q=>∃v,σ[i]?=some (some v)/\Q v H
def tC (v:V):TE:=fun _ H Q=>Q v H
theorem Mr {i:Nat}{x:Str}{pos:Pos}(hN:X.N[i]?=some x)(hv:Vis X.env.scope x)(hd:(x == ("__debug__":Str))=false:=by decide)(hcd:(x == ("__classdict__":Str))=false:=by decide):PE X (.Name x pos) (Ry i):=by
 intro pins s σ H Q I h;obtain⟨v,e,h⟩:=h;obtain⟨m,hn,hl⟩:=I.loc;obtain⟨u,r,l⟩:=hl i x v hN e hv;have fin:EP X pins σ Q u s:=⟨v,H,I,r,h⟩
 rcases l with ⟨hk,hm⟩ | ⟨hk,c,hc,hcell⟩
 ·exact wpAny_Name (wpAny_loadName_local I.ok.kind hk hn hm fin) hd
 ·rcases hk with hk | hk
  ·exact wpAny_Name (wpAny_loadName_cell I.ok.kind hk hc hcell fin) hd
  ·exact wpAny_Name (wpAny_loadName_free I.ok.kind hk hc hcell fin hcd) hd
theorem aD {i j pos}:PE X (.Constant (.int i) j pos) (tC (.int i)):=fun _ _ _ H _ I h=>wpAny_Constant_int ⟨.int i,H,I.tok _,⟨_,rfl⟩,h⟩
theorem mZ {b j pos}:PE X (.Constant (.bool b) j pos) (tC (.bl b)):=fun _ _ _ H _ I h=>Constant_bool ⟨.bl b,H,I,rfl,h⟩
theorem Xn {j pos}:PE X (.Constant .none j pos) (tC .non):=fun _ _ _ H _ I h=>Constant_none ⟨.non,H,I,rfl,h⟩
theorem cH {x j pos}:PE X (.Constant (.str x) j pos) (tC (.str x)):=fun _ _ _ H _ I h=>Calls.Constant_str ⟨.str x,H,I.tok _,⟨_,rfl⟩,h⟩
def Gl (X:Cx)(x:Str):Prop:=X.env.kindOf x=some .globalImplicit
theorem yB {E:Value->Shared->Prop}{pins:List (Addr × Obj)}{s:Shared}{σ:St}{H:Hp}{x:Str}{u:Value}{pos:Pos}{Q:Value->Shared->Prop}(I:Inv X pins σ H s)(hg:Gl X x)(hm:X.mg x=some u)(h:Q u s)(hd:(x == ("__debug__":Str))=false:=by decide):wpAny (model X.prog X.w) X.A (eval (.Name x pos) X.env) Q E s:=
 Calls.Name_function_global I.ok.kind hg (Calls.loadGlobal_global (by rw[I.ok.glob];exact I.mod.glob.keeps I.bk) hm h) hd
theorem kD {E:Value->Shared->Prop}{pins:List (Addr × Obj)}{s:Shared}{σ:St}{H:Hp}{x:Str}{u:Value}{pos:Pos}{Q:Value->Shared->Prop}(I:Inv X pins σ H s)(hg:Gl X x)(hm:X.mg x=none)(hv:bootBuiltins x=some u)(h:Q u s)(hn:x≠"__name__":=by decide)(hd:(x == ("__debug__":Str))=false:=by decide):wpAny (model X.prog X.w) X.A (eval (.Name x pos) X.env) Q E s:=by
 obtain⟨mb,h1,h2⟩:=I.mod.blt;exact Calls.Name_function_global I.ok.kind hg (Calls.loadGlobal_builtin (by rw[I.ok.glob];exact I.mod.glob.keeps I.bk) hm (by rw[I.ok.blt];exact h1.keeps I.bk) ((h2 x hn).trans hv) h) hd
theorem dI {x:Str}{v:V}{u:Value}{pos:Pos}(hg:Gl X x)(hm:X.mg x=some u)(r:cE v u)(hd:(x == ("__debug__":Str))=false:=by decide):PE X (.Name x pos) (tC v):=
 fun _ _ _ H _ I h=>yB I hg hm ⟨v,H,I,r,h⟩ hd
theorem Ut {x:Str}{v:V}{u:Value}{pos:Pos}(hg:Gl X x)(hm:X.mg x=none)(hv:bootBuiltins x=some u)(r:cE v u)(hn:x≠"__name__":=by decide)(hd:(x == ("__debug__":Str))=false:=by decide):PE X (.Name x pos) (tC v):=
 fun _ _ _ H _ I h=>kD I hg hm hv ⟨v,H,I,r,h⟩ hn hd
variable {a b:Expr} {ta tb:TE} {pos:Pos}
def PC (X:Cx)(op:CmpOp)(a b:Expr)(t:TE):Prop:=
 ∀(pins:List (Addr × Obj)) (s:Shared) (σ:St) (H:Hp) (Q:VK),Inv X pins σ H s->t σ H Q->
  wpAny (model X.prog X.w) X.A (eval a X.env) (fun v s₁=>wpAny (model X.prog X.w) X.A (eval b X.env) (fun u s₂=>wpAny (model X.prog X.w) X.A (compareOp op v u) (EP X pins σ Q) X.xe s₂) X.xe s₁) X.xe s
theorem Kr (b:Expr){op:CmpOp}(h:op≠.In)(h2:op≠.NotIn):behindInMarks op b=false:=by
 have e1:(op == CmpOp.In)=false:=by cases op<;>first | rfl | exact absurd rfl h
 have e2:(op == CmpOp.NotIn)=false:=by cases op<;>first | rfl | exact absurd rfl h2
 cases b<;>simp[behindInMarks,e1,e2]
def qi5 (ta:TE):TE:=fun σ H Q=>ta σ H fun x H1=>Q (.bl (decide (x=.non))) H1
theorem cE.none_iff {x:V}{v:Value}(r:cE x v):(v == Value.none)=decide (x=.non):=by
 cases x with
 |non=>cases r;rfl
 |bl _=>cases r;rfl
 |int _=>obtain⟨t,rfl⟩:=r;rfl
 |str _=>obtain⟨t,rfl⟩:=r;rfl
 |byt _=>obtain⟨t,rfl⟩:=r;rfl
 |flt _=>obtain⟨t,rfl⟩:=r;rfl
 |ref _=>cases r;rfl
 |ty _=>cases r;rfl
theorem Dm {j pos'}(ha:PE X a ta):PC X .Is a (.Constant .none j pos') (qi5 ta):=by
 intro pins s σ H Q I h;refine thn (ha pins s σ H _ I h) fun v s1 ⟨x,H1,I1,r1,q1⟩=>?_;exact Constant_none (is_none_gen ⟨.bl _,H1,I1,by rw[r1.none_iff];rfl,q1⟩)
def tB (t:TE):TT:=fun σ H Q=>t σ H fun x H1=>∃c,x=.bl c/\Q c H1
theorem zN {op:CmpOp}{t:TE}(h:PC X op a b t)(h1:behindInMarks op b=false:=by first | exact Kr _ (by decide) (by decide) | rfl):PT X (.Compare a [op] [b] pos) (tB t):=by
 intro pins s σ H Q I hw;refine wpAny_isTrue_Compare1 (thn (h pins s σ H _ I hw) fun v s1 h1=>thn h1 fun u s2 h2=>thn h2 fun c s3 ⟨x,H1,I1,r1,q1⟩=>?_) h1;obtain⟨d,rfl,q⟩:=q1
 cases r1
 exact wpAny_truthy_bool ⟨H1,I1,q⟩
theorem eZ {e:Expr}{t:TE}(h:PE X e t)(he:∀whole,isTrue e X.env whole=(do let v <- whole;standAt e.pos;holding [v] (truthy v)):=by intro _;rfl):PT X e (tB t):=by
 intro pins s σ H Q I hw;refine isTrue_plain (thn (h pins s σ H _ I hw) fun v s1 ⟨x,H1,I1,r1,q1⟩=>?_) (he _);obtain⟨d,rfl,q⟩:=q1
 cases r1
 exact wpAny_truthy_bool ⟨H1,I1,q⟩
variable {tA tB':TT} {rest:List Expr}
def qj0 (t u:TT):TT:=fun σ H Q=>t σ H fun c H1=>if c=true then u σ H1 Q else Q false H1
def tOr (t u:TT):TT:=fun σ H Q=>t σ H fun c H1=>if c=true then Q true H1 else u σ H1 Q
def qj9 (t:TT):TT:=fun σ H Q=>t σ H fun c H1=>Q (!c) H1
theorem qW (ha:PT X a tA):PW X (.BoolOp .And [a] pos) tA:=by
 intro wh pins s σ H Q I h;refine isTrue_and (thn (ha pins s σ H Q I h) fun c s1 e=>?_)
 cases c with
 |true=>exact isTrue_and_nil e
 |false=>exact e
theorem nV (ha:PT X a tA):PW X (.BoolOp .Or [a] pos) tA:=by
 intro wh pins s σ H Q I h;refine isTrue_or (thn (ha pins s σ H Q I h) fun c s1 e=>?_)
 cases c with
 |false=>exact isTrue_or_nil e
 |true=>exact e
theorem zL (ha:PT X a tA)(hb:PW X (.BoolOp .And (b :: rest) pos) tB'):PW X (.BoolOp .And (a :: b :: rest) pos) (qj0 tA tB'):=by
 intro wh pins s σ H Q I h;refine isTrue_and (thn (ha pins s σ H _ I h) fun c s1 ⟨H1,I1,q1⟩=>?_)
 cases c with
 |true=>exact hb wh pins s1 σ H1 Q I1 q1
 |false=>exact⟨H1,I1,q1⟩
theorem oZ (ha:PT X a tA)(hb:PW X (.BoolOp .Or (b :: rest) pos) tB'):PW X (.BoolOp .Or (a :: b :: rest) pos) (tOr tA tB'):=by
 intro wh pins s σ H Q I h;refine isTrue_or (thn (ha pins s σ H _ I h) fun c s1 ⟨H1,I1,q1⟩=>?_)
 cases c with
 |true=>exact⟨H1,I1,q1⟩
 |false=>exact hb wh pins s1 σ H1 Q I1 q1
theorem gG (ha:PT X a tA):PT X (.UnaryOp .Not a pos) (qj9 tA):=by
 intro pins s σ H Q I h;exact isTrue_not (ha pins s σ H (fun c H1=>Q (!c) H1) I h)
def qa2 (ta tb:TE):TE:=fun σ H Q=>ta σ H fun x H1=>∃c,x=.bl c/\if c=true then tb σ H1 Q else Q (.bl false) H1
def qe7 (ta:TE):TE:=fun σ H Q=>ta σ H fun x H1=>∃c,x=.bl c/\Q (.bl (!c)) H1
theorem xL {op}{t:TE}(h:PE X a t):PE X (.BoolOp op [a] pos) t:=fun pins s σ H Q I hw=>BoolOp_one (h pins s σ H Q I hw)
theorem uF (ha:PE X a ta)(hb:PE X (.BoolOp .And (b :: rest) pos) tb):PE X (.BoolOp .And (a :: b :: rest) pos) (qa2 ta tb):=by
 intro pins s σ H Q I h;refine BoolOp_and (thn (ha pins s σ H _ I h) fun v s1 ⟨x,H1,I1,r1,q1⟩=>?_);obtain⟨c,rfl,q1⟩:=q1
 cases r1
 refine wpAny_truthy_bool ?_
 cases c with
 |true=>exact hb pins s1 σ H1 Q I1 q1
 |false=>exact⟨.bl false,H1,I1,rfl,q1⟩
theorem Wd (ha:PE X a ta):PE X (.UnaryOp .Not a pos) (qe7 ta):=by
 intro pins s σ H Q I h;refine UnaryOp_ (thn (ha pins s σ H _ I h) fun v s1 ⟨x,H1,I1,r1,q1⟩=>?_);obtain⟨c,rfl,q1⟩:=q1
 cases r1
 exact not_of (wpAny_truthy_bool ⟨.bl (!c),H1,I1,rfl,q1⟩)
def tIf (t:TT)(ta tb:TE):TE:=fun σ H Q=>t σ H fun c H1=>if c=true then ta σ H1 Q else tb σ H1 Q
theorem sR {c:Expr}(hc:PT X c tA)(ha:PE X a ta)(hb:PE X b tb):PE X (.IfExp c a b pos) (tIf tA ta tb):=by
 intro pins s σ H Q I h;refine wpAny_IfExp (thn (hc pins s σ H _ I h) fun d s1 ⟨H1,I1,q1⟩=>?_)
 cases d with
 |true=>exact ha pins s1 σ H1 Q I1 q1
 |false=>exact hb pins s1 σ H1 Q I1 q1
end
def SqL (K:Frag)(H:Hp)(a:Addr)(xs:List V):Prop:=
 Rd H a (.lst xs)\/
  ∃(o:Obj) (its:Array Value) (n:Nat),K.lookup a=some o/\o.cls=.type "list"/\o.dict=none/\o.data=.seq its n/\its.size<=sizeLine/\bZ xs its.toList
def SqT (K:Frag)(H:Hp)(a:Addr)(xs:List V):Prop:=
 Rd H a (.tup xs)\/
  ∃(o:Obj) (its:Array Value) (n:Nat),K.lookup a=some o/\o.cls=.type "tuple"/\o.data=.seq its n/\its.size<=sizeLine/\bZ xs its.toList
def qg7:Value->Option V
 | .none=>some .non
 | .bool b=>some (.bl b)
 | .int i _=>some (.int i)
 | .str x _=>some (.str x)
 | .bytes b _=>some (.byt b)
 | .float b _=>some (.flt b)
 | .ref a=>some (.ref a)
 | .type n=>some (.ty n)
 |_=>none
theorem cE.abs {x:V}{u:Value}(r:cE x u):qg7 u=some x:=by
 cases x with
 |non=>cases r;rfl
 |bl _=>cases r;rfl
 |int _=>obtain⟨t,rfl⟩:=r;rfl
 |str _=>obtain⟨t,rfl⟩:=r;rfl
 |byt _=>obtain⟨t,rfl⟩:=r;rfl
 |flt _=>obtain⟨t,rfl⟩:=r;rfl
 |ref _=>cases r;rfl
 |ty _=>cases r;rfl
theorem cE.inj {x y:V}{u:Value}(r:cE x u)(q:cE y u):x=y:=Option.some.inj (r.abs.symm.trans q.abs)
theorem bZ.inj:∀{xs ys:List V} {us:List Value},bZ xs us->bZ ys us->xs=ys
 |_,_,_,.nil,.nil=>rfl
 |_,_,_,.cons r t,.cons r' t'=>by rw[r.inj r',bZ.inj t t']
section
variable {X:Cx} {pins:List (Addr × Obj)} {σ:St} {H:Hp} {s:Shared} {a:Addr} {xs ys:List V}
theorem SqL.of {K:Frag}(h:H a=some (.lst xs)):SqL K H a xs:=.inl (.inl h)
theorem SqT.of {K:Frag}(h:H a=some (.tup xs)):SqT K H a xs:=.inl (.inl h)
theorem Inv.list (I:Inv X pins σ H s)(h:SqL X.K H a xs):∃its:List Value,bZ xs its/\PlainL s.heap a its.toArray/\xs.length<=sizeLine:=by
 rcases h with h | ⟨o,its,n,hk,hc,hd,hs,hz,r⟩
 ·obtain⟨z,its,n,r,e⟩:=h.ok I.hok;exact⟨its,r,⟨_,n,e,rfl,rfl,rfl⟩,z⟩
 ·refine⟨its.toList,r,⟨o,n,I.kIn a o hk,hc,hd,by simpa using hs⟩,?_⟩;have e:=r.length;simp only[Array.length_toList] at e;lia
theorem Inv.tuple (I:Inv X pins σ H s)(h:SqT X.K H a xs):∃its:List Value,bZ xs its/\IsTup s.heap a its.toArray/\xs.length<=sizeLine:=by
 rcases h with h | ⟨o,its,n,hk,hc,hs,hz,r⟩
 ·obtain⟨z,its,r,p⟩:=h.ok I.hok;exact⟨its,r,p,z⟩
 ·refine⟨its.toList,r,⟨o,I.kIn a o hk,hc,n,by simpa using hs⟩,?_⟩;have e:=r.length;simp only[Array.length_toList] at e;lia
theorem Inv.list_inj (I:Inv X pins σ H s)(h:SqL X.K H a xs)(h':SqL X.K H a ys):xs=ys:=by
 obtain⟨its,r,⟨o,n,e,_,_,d⟩,_⟩:=I.list h;obtain⟨its',r',⟨o',n',e',_,_,d'⟩,_⟩:=I.list h';rw[e] at e';cases e';rw[d] at d';injection d' with d1 _
 have:its=its':=by simpa using congrArg Array.toList d1
 subst this;exact r.inj r'
theorem Inv.tuple_inj (I:Inv X pins σ H s)(h:SqT X.K H a xs)(h':SqT X.K H a ys):xs=ys:=by
 obtain⟨its,r,⟨o,e,_,n,d⟩,_⟩:=I.tuple h;obtain⟨its',r',⟨o',e',_,n',d'⟩,_⟩:=I.tuple h';rw[e] at e';cases e';rw[d] at d';injection d' with d1 _
 have:its=its':=by simpa using congrArg Array.toList d1
 subst this;exact r.inj r'
end
abbrev Cx.wish (X:Cx)(E:Value->Shared->Prop):Cx:={ X with xe:=E }
abbrev Cx.nox (X:Cx):Cx:=X.wish fun _ _=>False
theorem Cx.Ok.wish {X:Cx}(ok:X.Ok)(E:Value->Shared->Prop):(X.wish E).Ok:=
 ⟨ok.mod,ok.kind,ok.glob,ok.blt,ok.above,ok.inj,ok.has,ok.cab,ok.hd,ok.frames,ok.stk,ok.exf,ok.bs,ok.bsz,ok.noex,ok.exfs,ok.funs,ok.frf⟩
theorem Cx.Ok.unwish {X:Cx}{E:Value->Shared->Prop}(ok:(X.wish E).Ok):X.Ok:=
 ⟨ok.mod,ok.kind,ok.glob,ok.blt,ok.above,ok.inj,ok.has,ok.cab,ok.hd,ok.frames,ok.stk,ok.exf,ok.bs,ok.bsz,ok.noex,ok.exfs,ok.funs,ok.frf⟩
section
variable {X:Cx} {pins:List (Addr × Obj)} {σ:St} {H:Hp} {s:Shared} {E:Value->Shared->Prop}
theorem Inv.wish (I:Inv X pins σ H s)(E:Value->Shared->Prop):Inv (X.wish E) pins σ H s:=⟨I.ok.wish E,I.os,I.bare,I.base,I.loc,I.cell,I.free,I.freeC,I.pin,I.hok,I.len⟩
theorem Inv.unwish (I:Inv (X.wish E) pins σ H s):Inv X pins σ H s:=⟨I.ok.unwish,I.os,I.bare,I.base,I.loc,I.cell,I.free,I.freeC,I.pin,I.hok,I.len⟩
theorem SP.unwish {D:lF}{f:Flow}{s':Shared}(h:SP (X.wish E) pins D f s'):SP X pins D f s':=by
 cases f with
 |next=>obtain⟨σ',H',I,q⟩:=h;exact⟨σ',H',I.unwish,q⟩
 |brk=>obtain⟨σ',H',I,q⟩:=h;exact⟨σ',H',I.unwish,q⟩
 |cont=>obtain⟨σ',H',I,q⟩:=h;exact⟨σ',H',I.unwish,q⟩
 |ret u=>obtain⟨v,σ',H',I,r,q⟩:=h;exact⟨v,σ',H',I.unwish,r,q⟩
theorem PSs.nox {st:List Stmt}{t:TS}(h:PSs X.nox st t):PSs X st t:=fun pins s σ H D I hw=>
 wpAny_mono (h pins s σ H D (I.wish _) hw) (fun _ _ q=>q.unwish) fun _ _ z=>False.elim z
end
section
variable {X:Cx} {st:Stmt} {rest:List Stmt} {t u:TS} {e:Expr} {te:TE} {pos:Pos}
def qf7:TS:=fun D σ H=>D.nx σ H
def gO (t u:TS):TS:=fun D σ H=>t { D with nx:=u D } σ H
theorem bH:PSs X [] qf7:=fun _ _ σ H _ I h=>wpAny_execs_nil ⟨σ,H,I,h⟩
theorem aC (h1:PS X st t)(h2:PSs X rest u):PSs X (st :: rest) (gO t u):=by
 intro pins s σ H D I h;refine wpAny_execs_cons (thn (h1 pins s σ H { D with nx:=u D } I h) fun f s1 q=>?_)
 cases f with
 |next=>
  obtain⟨σ',H',I',q⟩:=q;exact h2 pins s1 σ' H' D I' q
 |ret v=>exact q
 |brk=>exact q
 |cont=>exact q
theorem aF (h1:PS X st t):PSs X [st] t:=by
 intro pins s σ H D I h;refine wpAny_execs_cons (thn (h1 pins s σ H D I h) fun f s1 q=>?_)
 cases f with
 |next=>exact wpAny_execs_nil q
 |ret v=>exact q
 |brk=>exact q
 |cont=>exact q
def qb7:TS:=fun D σ H=>D.ct σ H
theorem Al:PS X (.Continue pos) qb7:=fun _ _ σ H _ I h=>wpAny_Continue ⟨σ,H,I,h⟩
theorem Inv.quiet {pins:List (Addr × Obj)}{σ:St}{H:Hp}{s:Shared}(I:Inv X pins σ H s):interactive X.env=false:=by simp[interactive,I.ok.kind]
def qf3 (te:TE):TS:=fun D σ H=>te σ H fun _ H1=>D.nx σ H1
theorem bQ (he:PE X e te)(hs:swapsWith e none pos.line X.env=pure false:=by rfl):PS X (.Expr e pos) (qf3 te):=by
 intro pins s σ H D I h;exact wpAny_Expr_any (thn (he pins s σ H _ I h) fun v s1 ⟨x,H1,I1,r1,q1⟩=>⟨σ,H1,I1,q1⟩) I.quiet hs
def qi2 (te:TE):TS:=fun D σ H=>te σ H D.rt
theorem aX (he:PE X e te):PS X (.Return (some e) pos) (qi2 te):=by
 intro pins s σ H D I h;exact wpAny_Return_some (thn (he pins s σ H _ I h) fun v s1 ⟨x,H1,I1,r1,q1⟩=>⟨x,σ,H1,I1,r1,q1⟩)
def qh7 (c:TT)(t u:TS):TS:=fun D σ H=>c σ H fun b H1=>if b=true then t D σ H1 else u D σ H1
theorem cC {c:Expr}{a b:List Stmt}{tc:TT}(hc:PT X c tc)(ha:PSs X a t)(hb:PSs X b u):PS X (.If c a b pos) (qh7 tc t u):=by
 intro pins s σ H D I h;refine wpAny_If (thn (hc pins s σ H _ I h) fun d s1 ⟨H1,I1,q1⟩=>?_)
 cases d with
 |true=>exact ha pins s1 σ H1 D I1 q1
 |false=>exact hb pins s1 σ H1 D I1 q1
def Ln:TS:=fun _ _ _=>False
theorem gA:PS X st Ln:=fun _ _ _ _ _ _ h=>h.elim
theorem Iw {sts:List Stmt}:PSs X sts Ln:=fun _ _ _ _ _ _ h=>h.elim
end
abbrev TG:=V->St->Hp->(St->Hp->Prop)->Prop
abbrev TGs:=List V->St->Hp->(St->Hp->Prop)->Prop
def PG (X:Cx)(target:Expr)(t:TG):Prop:=
 ∀(pins:List (Addr × Obj)) (s:Shared) (σ:St) (H:Hp) (v:V) (u:Value) (Q:St->Hp->Prop),Inv X pins σ H s->cE v u->t v σ H Q->
  wpAny (model X.prog X.w) X.A (assign target X.env u) (fun _ s'=>∃σ' H',Inv X pins σ' H' s'/\Q σ' H') X.xe s
def PGs (X:Cx)(ts:List Expr)(t:TGs):Prop:=
 ∀(pins:List (Addr × Obj)) (s:Shared) (σ:St) (H:Hp) (vs:List V) (us:List Value) (Q:St->Hp->Prop),Inv X pins σ H s->bZ vs us->t vs σ H Q->
  wpAny (model X.prog X.w) X.A (assignInOrder ((assignEach ts X.env).map (·.2)) us) (fun _ s'=>∃σ' H',Inv X pins σ' H' s'/\Q σ' H') X.xe s
abbrev Yg:=V->V->V->Hp->(Hp->Prop)->Prop
def Zq (X:Cx)(t:Yg):Prop:=
 ∀(pins:List (Addr × Obj)) (s:Shared) (σ:St) (H:Hp) (o i v:V) (ov iv u:Value) (Q:Hp->Prop),Inv X pins σ H s->cE o ov->cE i iv->cE v u->t o i v H Q->
  wpAny (model X.prog X.w) X.A (setItem ov iv u) (fun _ s'=>∃H',Inv X pins σ H' s'/\Q H') X.xe s
abbrev TIp:=V->V->Hp->VK->Prop
def PIp (X:Cx)(op:Operator)(t:TIp):Prop:=
 ∀(pins:List (Addr × Obj)) (s:Shared) (σ:St) (H:Hp) (x y:V) (v u:Value) (Q:VK),Inv X pins σ H s->cE x v->cE y u->t x y H Q->
  wpAny (model X.prog X.w) X.A (inplaceOp op v u) (EP X pins σ Q) X.xe s
section
variable {X:Cx} {pos:Pos}
def iC (i:Nat):TG:=fun v σ H Q=>Q (σ.set i (some v)) H
theorem aZ {i:Nat}{x:Str}(hN:X.N.Nodup)(hi:X.N[i]?=some x)(hx:Loc X.env.scope x)(hf:X.fn x=true\/X.env.scope.names.lookup x=some .local:=by first | exact .inl rfl | exact .inr rfl | assumption):PG X (.Name x pos) (iC i):=by
 intro pins s σ H v u Q I r h;exact wpAny_assign_Name (lM I hN hi hx r (fun s' I'=>⟨_,H,I',h⟩) hf)
def Ah:TGs:=fun vs σ H Q=>vs=[]/\Q σ H
def iS (t:TG)(u:TGs):TGs:=fun vs σ H Q=>∃v r,vs=v :: r/\t v σ H fun σ' H'=>u r σ' H' Q
theorem fR:PGs X [] Ah:=by
 intro pins s σ H vs us Q I r h;obtain⟨e,h⟩:=h;subst e
 cases r
 exact assignInOrder_nil ⟨σ,H,I,h⟩
theorem bO {e:Expr}{es:List Expr}{t:TG}{u:TGs}(h1:PG X e t)(h2:PGs X es u)(hs:(assignEach (e :: es) X.env).map (·.2)=assign e X.env :: (assignEach es X.env).map (·.2):=by rfl):PGs X (e :: es) (iS t u):=by
 intro pins s σ H vs us Q I r h;obtain⟨v,vr,e1,h⟩:=h;subst e1
 cases r with
 |cons r rr=>
  rw[hs];refine assignInOrder_cons (thn (h1 pins s σ H _ _ _ I r h) fun _ s1 ⟨σ1,H1,I1,q1⟩=>?_);exact h2 pins s1 σ1 H1 _ _ Q I1 rr q1
def Bh (K:Frag)(n:Nat)(t:TGs):TG:=fun v σ H Q=>∃a xs,v=.ref a/\SqT K H a xs/\xs.length=n/\t xs σ H Q
theorem gR {es:List Expr}{k:Nat}{t:TGs}{n:Nat}(hc:X.calm=true)(h:PGs X es t)(hn:(assignEach es X.env).length=n:=by rfl)(hst:(assignEach es X.env).findIdx? (·.1)=none:=by rfl):PG X (.Tuple es k pos) (Bh X.K n t):=by
 intro pins s σ H v u Q I r hw;obtain⟨a,xs,e1,hq,hl,hw⟩:=hw;subst e1
 cases r
 obtain⟨its,rv,ht,hz⟩:=I.tuple hq;refine assign_Tuple_tuple (I.ok.hd hc) ht (by simp[hn,<- hl,rv.length]) hst fun h' hx=>?_;have I1:Inv X pins σ H { s with heap:=h' }:=I.kept (t':=s.toks) fun b o e=>hx b o (Nat.ne_of_lt (Heap.lt_size e)) e;exact h pins _ σ H xs _ Q I1 (by simpa using rv) hw
def qi6 (to ti:TE)(t:Yg):TG:=fun v σ H Q=>to σ H fun o H1=>ti σ H1 fun i H2=>t o i v H2 fun H3=>Q σ H3
theorem oE {o i:Expr}{to ti:TE}{t:Yg}(ho:PE X o to)(hi:PE X i ti)(hs:Zq X t)(ha:∀v,assign (.Subscript o i pos) X.env v=(do
   let ov <- holding [v] (eval o X.env)
   let iv <- holding [v,ov] (eval i X.env)
   standAt pos
   holding [v,ov,iv] (setItem ov iv v)
   release [v,ov,iv] []):=by intro _;rfl):PG X (.Subscript o i pos) (qi6 to ti t):=by
 intro pins s σ H v u Q I r h;rw[ha];refine wpAny_bind (wpAny_holding (thn (ho pins s σ H _ I h) fun ov s1 ⟨x,H1,I1,r1,q1⟩=>?_));refine wpAny_bind (wpAny_holding (thn (hi pins s1 σ H1 _ I1 q1) fun iv s2 ⟨y,H2,I2,r2,q2⟩=>?_));refine wpAny_bind (wpAny_standAt (wpAny_bind (wpAny_holding (thn (hs pins s2 σ H2 x y v ov iv u _ I2 r1 r2 r q2) fun _ s3 ⟨H3,I3,q3⟩=>?_))));exact wpAny_release ⟨σ,H3,I3,q3⟩
def Xk (te:TE)(g:TG):TS:=fun D σ H=>te σ H fun x H1=>g x σ H1 D.nx
theorem jU {tg e:Expr}{te:TE}{g:TG}(he:PE X e te)(hg:PG X tg g)(hs:swapsWithSole [tg] e pos.line X.env=pure false:=by rfl)(hw:swappedStores [tg] e X.env=pure none:=by rfl)(h1:(assignEach [tg] X.env).map (·.2)=[assign tg X.env]:=by rfl):PS X (.Assign [tg] e pos) (Xk te g):=by
 intro pins s σ H D I h;refine wpAny_Assign_stores (thn (he pins s σ H _ I h) fun v s1 ⟨x,H1,I1,r1,q1⟩=>?_) hs hw;rw[h1];exact thn (hg pins s1 σ H1 x v _ I1 r1 q1) fun _ s2 q=>q
theorem aR {i:Nat}{x:Str}{e:Expr}{te:TE}{pos':Pos}(hN:X.N.Nodup)(hi:X.N[i]?=some x)(hx:Loc X.env.scope x)(he:PE X e te)(hs:swapsWith e (some (.Name x pos')) pos.line X.env=pure false:=by rfl)(hf:X.fn x=true\/X.env.scope.names.lookup x=some .local:=by first | exact .inl rfl | exact .inr rfl | assumption) :
  PS X (.Assign [.Name x pos'] e pos) (Xk te (iC i)):=by
 intro pins s σ H D I h;refine wpAny_Assign_Name (thn (he pins s σ H _ I h) fun v s1 ⟨y,H1,I1,r1,q1⟩=>?_) hs;exact lM I1 hN hi hx r1 (fun s2 I2=>⟨_,H1,I2,q1⟩) hf
def qh9 (i j:Nat)(ta:TA):TS:=fun D σ H=>ta σ H fun vs H1=>∃v w,vs=[v,w]/\D.nx ((σ.set i (some v)).set j (some w)) H1
theorem Lo {i j:Nat}{x y:Str}{a b:Expr}{ta:TA}{px py pt:Pos}{kt k2 pt2}(hc:X.calm=true)(hN:X.N.Nodup)(hi:X.N[i]?=some x)(hj:X.N[j]?=some y)(hij:i≠j)(hx:X.env.scope.names.lookup x=some .local)(hy:X.env.scope.names.lookup y=some .local)(ha:PA X [a,b] ta)(hw:swappedStores [.Tuple [.Name x px,.Name y py] kt pt] (.Tuple [a,b] k2 pt2) X.env=pure (some [x,y]))(hs:swapsWithSole [.Tuple [.Name x px,.Name y py] kt pt] (.Tuple [a,b] k2 pt2) pos.line X.env=pure false:=by rfl) :
  PS X (.Assign [.Tuple [.Name x px,.Name y py] kt pt] (.Tuple [a,b] k2 pt2) pos) (qh9 i j ta):=by
 intro pins s σ H D I h;rw[exec_Assign_arm];refine wpAny_bind (wpAny_standAt ?_);rw[hs];refine wpAny_bind (wpAny_pure ?_);rw[if_neg (by decide)];refine wpAny_bind (Tuple_ (thn (ha _ pins s σ H _ I h) fun us s1 ⟨vs,H1,I1,r1,q1⟩=>?_));obtain⟨v,w,e1,q1⟩:=q1;subst e1;obtain⟨u1,u2,rfl,rv,rw'⟩:∃u1 u2,us=[u1,u2]/\cE v u1/\cE w u2:=by
  cases r1 with
  |cons p q=>
   cases q with
   |cons p' q'=>
    cases q'
    exact⟨_,_,rfl,p,p'⟩
 refine wpAny_newObj_type ?_ (by show 2<=sizeLine;decide);have I2:Inv X pins σ H1 { s1 with heap:=s1.heap.push { cls:=.type "tuple",data:=.seq [u1,u2].toArray } }:=I1.kept (t':=s1.toks) fun b o e=>Heap.get?_push_of_some _ e;rw[hw];refine wpAny_bind (wpAny_pure ?_);show wpAny (model X.prog X.w) X.A (do rule "assign.swapped-stores";let items <- unpackItems (.ref s1.heap.objs.size) 2 none;assignInOrder [fun v=>bindName X.env y v,fun v=>bindName X.env x v] items.reverse;pure Flow.next) _ _ _;refine wpAny_bind (wpAny_rule (wpAny_bind (unpackItems_tuple (items:=#[u1,u2]) (I.ok.hd hc) (IsTup.new s1.heap _) fun h' hx'=>?_)));have I3:=I2.kept (h':=h') (t':=s1.toks) fun b o e=>hx' b o (Nat.ne_of_lt (Heap.lt_size e)) e;show wpAny _ _ (assignInOrder [fun v=>bindName X.env y v,fun v=>bindName X.env x v] [u2,u1] >>= fun _=>pure Flow.next) _ _ _;refine wpAny_bind (assignInOrder_cons (wpAny_bindName (lM I3 hN hj (.inl hy) rw' (fun s2 I4=>?_) (.inr hy))));refine assignInOrder_cons (wpAny_bindName (lM I4 hN hi (.inl hx) rv (fun s3 I5=>assignInOrder_nil (wpAny_pure ?_)) (.inr hx)));rw[set_comm _ _ (Ne.symm hij)] at I5;exact⟨_,H1,I5,q1⟩
def qh1 (i:Nat)(te:TE)(ti:TIp):TS:=fun D σ H=>∃x,σ[i]?=some (some x)/\te σ H fun y H1=>ti x y H1 fun z H2=>D.nx (σ.set i (some z)) H2
theorem Dx {i:Nat}{x:Str}{e:Expr}{te:TE}{op:Operator}{ti:TIp}{pos':Pos}(hN:X.N.Nodup)(hi:X.N[i]?=some x)(hx:Loc X.env.scope x)(he:PE X e te)(ho:PIp X op ti)(hf:X.fn x=true\/X.env.scope.names.lookup x=some .local:=by first | exact .inl rfl | exact .inr rfl | assumption) :
  PS X (.AugAssign (.Name x pos') op e pos) (qh1 i te ti):=by
 intro pins s σ H D I h;obtain⟨v,e1,h⟩:=h;obtain⟨m,hn,hl⟩:=I.loc;have vis:Vis X.env.scope x:=by rcases hx with k | k;exact .inl k;exact .inr (.inl k)
 obtain⟨u,r,l⟩:=hl i x v hi e1 vis;refine wpAny_AugAssign_Name ?_;have go:wpAny (model X.prog X.w) X.A (eval e X.env) (fun w s₂=>wpAny (model X.prog X.w) X.A (inplaceOp op u w) (fun r s₃=>wpAny (model X.prog X.w) X.A (storeName X.env x r) (fun _=>SP X pins D .next) X.xe s₃) X.xe s₂) X.xe s:=by
  refine thn (he pins s σ H _ I h) fun w s1 ⟨y,H1,I1,r1,q1⟩=>?_;refine thn (ho pins s1 σ H1 v y u w _ I1 r r1 q1) fun z s2 ⟨zv,H2,I2,r2,q2⟩=>?_;exact lM I2 hN hi hx r2 (fun s3 I3=>⟨_,H2,I3,q2⟩) hf
 rcases l with ⟨hk,hm⟩ | ⟨hk,c,hc,hcell⟩
 ·exact wpAny_loadName_local I.ok.kind hk hn hm go
 ·rcases hk with hk | hk
  ·exact wpAny_loadName_cell I.ok.kind hk hc hcell go
  ·rcases hx with k | k
   ·have:X.env.scope.names.lookup x=some .free:=hk;rw[k] at this;cases this
   ·have:X.env.scope.names.lookup x=some .free:=hk;rw[k] at this;cases this
def ipI (f:Int->Int->Int):TIp:=fun x y H Q=>∃i j,x=.int i/\y=.int j/\Q (.int (f i j)) H
theorem Da:PIp X .Add (ipI fun i j=>i+j):=by
 intro pins s σ H x y v u Q I r1 r2 h;obtain⟨i,j,e1,e2,q⟩:=h;subst e1;subst e2;obtain⟨t,rfl⟩:=r1;obtain⟨t',rfl⟩:=r2;exact iadd_int ⟨.int _,H,I.tok _,⟨_,rfl⟩,q⟩
def Ld (c:TT)(tb:TS):TS:=fun D σ H=>∃W:Nat->St->Hp->Prop,(∃m,W m σ H)/\∀m σ H,W m σ H->
 c σ H fun b H1=>if b=true then ∃N:St->Hp->Prop,(∀σ' H',N σ' H'->∃m',m' < m/\W m' σ' H')/\tb { D with nx:=N,ct:=N,bk:=D.nx } σ H1 else D.nx σ H1
theorem uQ {c:Expr}{body:List Stmt}{tc:TT}{tb:TS}(hp:PassesOwn (model X.prog X.w) X.A X.env X.xe)(hc:PT X c tc)(hb:PSs X body tb):PS X (.While c body [] pos) (Ld tc tb):=by
 intro pins s σ H D I h;obtain⟨W,⟨m0,w0⟩,turn⟩:=h;refine wpAny_While (codeAny_whileLoop (fun n s'=>∃σ' H',Inv X pins σ' H' s'/\W n σ' H') ?_ m0 ⟨σ,H,I,w0⟩);rintro n s1 ⟨σ1,H1,I1,w1⟩;refine wpAny_passesOwn hp (thn (hc pins s1 σ1 H1 _ I1 (turn n σ1 H1 w1)) fun b s2 ⟨H2,I2,q2⟩=>?_)
 cases b with
 |true=>
  obtain⟨N,hN,q2⟩:=q2;rw[if_pos rfl];refine wpAny_passesOwn hp (thn (hb pins s2 σ1 H2 _ I2 q2) fun f s3 q3=>?_)
  cases f with
  |next=>
   obtain⟨σ3,H3,I3,n3⟩:=q3;obtain⟨m',hm,w3⟩:=hN σ3 H3 n3;exact⟨m',hm,σ3,H3,I3,w3⟩
  |cont=>
   obtain⟨σ3,H3,I3,n3⟩:=q3;obtain⟨m',hm,w3⟩:=hN σ3 H3 n3;exact⟨m',hm,σ3,H3,I3,w3⟩
  |brk=>exact q3
  |ret v=>exact q3
 |false=>
  rw[if_neg Bool.false_ne_true];exact wpAny_execs_nil ⟨σ1,H2,I2,q2⟩
end
structure It where
 go:Nat->Hp->Prop
 yld:Nat->Hp->V->Hp->Prop
 stop:Nat->Hp->Prop
def mX (X:Cx)(pins:List (Addr × Obj))(H:Hp)(b:Addr):Prop:=
 H b=none/\b≠X.env.locals/\b∉X.fs/\(b∈X.ex\/X.s₀.heap.objs.size<=b)/\(∀x c,X.env.cells.lookup x=some c->c≠b)/\∀p∈X.pn++pins,p.1≠b
theorem Inv.fpOk {X:Cx}{pins:List (Addr × Obj)}{σ:St}{H H':Hp}{s:Shared}{b:Addr}(I:Inv X pins σ H s)(hb:s.heap.objs.size<=b)(hn:H' b=none):mX X pins H' b:=by
 refine⟨hn,Nat.ne_of_gt (Nat.lt_of_lt_of_le I.lt hb),I.nofs hb,.inr (Nat.le_trans I.sz hb),fun x c e z=>?_,fun p hp z=>?_⟩
 ·obtain⟨v,q⟩:=I.cell x c e;exact absurd (Nat.lt_of_lt_of_le q.lt (by rw[z];exact hb)) (Nat.lt_irrefl _)
 ·exact absurd (Nat.lt_of_lt_of_le (Heap.lt_size (I.pin p hp).1) (by rw[z];exact hb)) (Nat.lt_irrefl _)
structure Jj (P:Program) (w:World) (K:Frag) (tg:Expr) (J:It) (fp:List Addr) (it:Addr) (tn:Nat->Heap->Prop):Prop where
 mem:it∈fp
 obj:∀i h,tn i h->∀b∈fp,∃o,h.get? b=some o/\∀v,o.data≠.cell v
 keep:∀i h h',tn i h->(∀b∈fp,∀o,h.get? b=some o->h'.get? b=some o)->tn i h'
 item:∀(X:Cx),X.prog=P->X.w=w->X.K=K->X.calm=true->∀(i:Nat) (pins:List (Addr × Obj)) (s:Shared) (σ:St) (H:Hp) (E:Value->Shared->Prop),Inv X pins σ H s->(∀b∈fp,mX X pins H b)->tn i s.heap->J.go i H->
  wpAny (model P w) X.A (pyNext (.ref it)) (fun r s1=>∃u,r=some u/\
   wpAny (model P w) X.A (letOwnedTupleGo tg (.ref it) u) (fun _ s2=>∃x H',Inv X pins σ H' s2/\cE x u/\J.yld i H x H'/\tn (i+1) s2.heap/\∀b∈fp,H' b=none) E s1) E s
 done:∀(X:Cx),X.prog=P->X.w=w->X.K=K->X.calm=true->∀(i:Nat) (pins:List (Addr × Obj)) (s:Shared) (σ:St) (H:Hp) (E:Value->Shared->Prop),Inv X pins σ H s->(∀b∈fp,mX X pins H b)->tn i s.heap->J.stop i H->
  wpAny (model P w) X.A (pyNext (.ref it)) (fun r s1=>r=none/\Inv X pins σ H s1) E s
 self:∀(A:Around) (i:Nat) (s:Shared) (Q:Value->Shared->Prop) (E:Value->Shared->Prop),tn i s.heap->Q (.ref it) s->wpAny (model P w) A (pyIter (.ref it)) Q E s
abbrev TI:=St->Hp->(It->Hp->Prop)->Prop
def PIE (X:Cx)(pins:List (Addr × Obj))(σ:St)(tg:Expr)(R:It->Hp->Prop)(itv:Value)(s2:Shared):Prop:=
 ∃(it:Addr) (fp:List Addr) (tn:Nat->Heap->Prop) (J:It) (H':Hp),itv=.ref it/\Inv X pins σ H' s2/\Jj X.prog X.w X.K tg J fp it tn/\tn 0 s2.heap/\(∀b∈fp,mX X pins H' b)/\R J H'
def PI (X:Cx)(tg iter:Expr)(wi:TI):Prop:=
 ∀(pins:List (Addr × Obj)) (s:Shared) (σ:St) (H:Hp) (R:It->Hp->Prop),Inv X pins σ H s->wi σ H R->
  wpAny (model X.prog X.w) X.A (eval iter X.env) (fun v s1=>wpAny (model X.prog X.w) X.A (pyIter v) (PIE X pins σ tg R) X.xe s1) X.xe s
theorem Nd {M : Model}{A : Around}{E : Value -> Shared -> Prop}{s : Shared}{tg : Expr}{it : Addr}{u : Value}{o : Obj}{n : String}{vs : Array Value}{Q : Unit -> Shared -> Prop}(ho : s.heap.get? it = some o)(hc : o.cls = .type n)(hd : o.data = .fields vs)(hn : ["enumerate", "zip", "dict_itemiterator", "dict_reverseitemiterator", "odict_iterator", "itertools.zip_longest", "itertools.pairwise"].contains n = false)(hQ : Q () s) : wpAny M A (letOwnedTupleGo tg (.ref it) u) Q E s := by
  unfold letOwnedTupleGo
  cases tg <;> first
    | exact wpAny_pure hQ
    | (cases u <;> first
        | exact wpAny_pure hQ
        | (refine wpAny_bind (wpAny_load ho ?_)
           rw [hc, hd];show wpAny M A (if (["enumerate", "zip", "dict_itemiterator", "dict_reverseitemiterator", "odict_iterator", "itertools.zip_longest", "itertools.pairwise"].contains n && vs[0]? == some (rawInt _)) = true then _ else _) Q E s;rw [if_neg (by intro h; rw [hn, Bool.false_and] at h; cases h)];exact wpAny_pure hQ))
def Itl (K:Frag)(a:Addr):It:=
 ⟨fun i H=>∃xs x,SqL K H a xs/\xs[i]?=some x,fun i H x H'=>H'=H/\∀xs,SqL K H a xs->xs[i]?=some x,fun i H=>∃xs,SqL K H a xs/\xs.length<=i⟩
def Itt (K:Frag)(a:Addr):It:=
 ⟨fun i H=>∃xs x,SqT K H a xs/\xs[i]?=some x,fun i H x H'=>H'=H/\∀xs,SqT K H a xs->xs[i]?=some x,fun i H=>∃xs,SqT K H a xs/\xs.length<=i⟩
def Itr (lo:Int)(n:Nat):It:=⟨fun i _=>i < n,fun i H x H'=>H'=H/\x=.int (lo+i),fun i _=>n<=i⟩
theorem Ki {P:Program}{w:World}{K:Frag}{tg:Expr}(a it:Addr):Jj P w K tg (Itl K a) [it] it (fun i h=>h.IsListIter it a i) where
 mem:=by simp
 obj:=fun i h st b hb=>by
  have e:b=it:=by simpa using hb
  subst e;obtain⟨o,e,c,d⟩:=st;exact⟨o,e,fun v z=>by rw[d] at z;cases z⟩
 keep:=fun i h h' st k=>st.at fun o e=>k it (by simp) o e
 item:=by
  intro X hP hw hK hc i pins s σ H E I hf st hg;subst hP hw hK;obtain⟨xs,x,hq,hx⟩:=hg;obtain⟨its,rv,p,hz⟩:=I.list hq;obtain⟨u,hu,ru⟩:=rv.get hx;obtain⟨f0,f1,f2,f3,f4,f5⟩:=hf it (by simp);refine wpAny_pyNext_list_item st p.isList (x:=u) (by simpa using hu) fun h' st' sb=>?_;have I1:Inv X pins σ H { s with heap:=h' }:=I.turned (t':=s.toks) (fun b o hb e=>(sb.2 b hb).trans e) f0 f1 f3 f4 f5;obtain⟨o,e,c,d⟩:=id st';exact⟨u,rfl,Nd (s:={ s with heap:=h' }) e c d (by decide) ⟨x,H,I1,ru,⟨rfl,fun ys hy=>by rw[I.list_inj hy hq];exact hx⟩,st',fun b hb=>(hf b hb).1⟩⟩
 done:=by
  intro X hP hw hK hc i pins s σ H E I hf st hg;subst hP hw hK;obtain⟨xs,hq,hx⟩:=hg;obtain⟨its,rv,p,hz⟩:=I.list hq;obtain⟨f0,f1,f2,f3,f4,f5⟩:=hf it (by simp);have hl:=rv.length;exact wpAny_pyNext_list_end (I.ok.hd hc) st p.isList (by simp;lia) fun h' eb=>⟨rfl,I.turned (t':=s.toks) (fun b o hb e=>eb b o hb e) f0 f1 f3 f4 f5⟩
 self:=fun _ _ _ _ _ st h=>wpAny_pyIter_listiter st h
theorem Dz {P:Program}{w:World}{K:Frag}{tg:Expr}(a it:Addr):Jj P w K tg (Itt K a) [it] it (fun i h=>h.IsTupleIter it a i) where
 mem:=by simp
 obj:=fun i h st b hb=>by
  have e:b=it:=by simpa using hb
  subst e;obtain⟨o,e,c,d⟩:=st;exact⟨o,e,fun v z=>by rw[d] at z;cases z⟩
 keep:=fun i h h' st k=>st.at fun o e=>k it (by simp) o e
 item:=by
  intro X hP hw hK hc i pins s σ H E I hf st hg;subst hP hw hK;obtain⟨xs,x,hq,hx⟩:=hg;obtain⟨its,rv,p,hz⟩:=I.tuple hq;obtain⟨u,hu,ru⟩:=rv.get hx;obtain⟨f0,f1,f2,f3,f4,f5⟩:=hf it (by simp);refine wpAny_pyNext_tuple_item st (show s.heap.IsTuple a its.toArray from p) (x:=u) (by simpa using hu) fun h' st' sb=>?_;have I1:Inv X pins σ H { s with heap:=h' }:=I.turned (t':=s.toks) (fun b o hb e=>(sb.2 b hb).trans e) f0 f1 f3 f4 f5;obtain⟨o,e,c,d⟩:=id st';exact⟨u,rfl,Nd (s:={ s with heap:=h' }) e c d (by decide) ⟨x,H,I1,ru,⟨rfl,fun ys hy=>by rw[I.tuple_inj hy hq];exact hx⟩,st',fun b hb=>(hf b hb).1⟩⟩
 done:=by
  intro X hP hw hK hc i pins s σ H E I hf st hg;subst hP hw hK;obtain⟨xs,hq,hx⟩:=hg;obtain⟨its,rv,p,hz⟩:=I.tuple hq;obtain⟨f0,f1,f2,f3,f4,f5⟩:=hf it (by simp);have hl:=rv.length;exact wpAny_pyNext_tuple_end (I.ok.hd hc) st (show s.heap.IsTuple a its.toArray from p) (by simp;lia) fun h' eb=>⟨rfl,I.turned (t':=s.toks) (fun b o hb e=>eb b o hb e) f0 f1 f3 f4 f5⟩
 self:=fun _ _ _ _ _ st h=>wpAny_pyIter_tupleiter st h
theorem Ec {P:Program}{w:World}{K:Frag}{tg:Expr}(it:Addr)(lo:Int)(n:Nat):Jj P w K tg (Itr lo n) [it] it (fun i h=>IsRangeIter h it (lo+(i:Nat)*1) ((n:Int) - (i:Nat)) 1) where
 mem:=by simp
 obj:=fun i h st b hb=>by
  have e:b=it:=by simpa using hb
  subst e;exact⟨_,st,fun v z=>by
   have z':Data.fields _=Data.cell v:=z
   cases z'⟩
 keep:=fun i h h' st k=>k it (by simp) _ st
 item:=by
  intro X hP hw hK hc i pins s σ H E I hf st hg;subst hP hw hK;obtain⟨f0,f1,f2,f3,f4,f5⟩:=hf it (by simp);have W:=Walks.range (prog:=X.prog) (w:=X.w) (I.ok.hd hc) it lo 1 n;refine W.item i s _ _ hg st fun v h' tk hv st' kk=>?_;obtain⟨t,rfl⟩:=hv;have I1:Inv X pins σ H { s with heap:=h',toks:=tk }:=I.turned (fun b o hb e=>kk b o (by simpa using hb) e) f0 f1 f3 f4 f5;refine⟨_,rfl,Nd (s:={ s with heap:=h',toks:=tk }) (n:="range_iterator") st' rfl rfl (by decide) ⟨.int (lo+i),H,I1,⟨t,?_⟩,⟨rfl,rfl⟩,st',fun b hb=>(hf b hb).1⟩⟩;rw[Int.mul_one]
 done:=by
  intro X hP hw hK hc i pins s σ H E I hf st hg;subst hP hw hK;obtain⟨f0,f1,f2,f3,f4,f5⟩:=hf it (by simp);exact wpAny_pyNext_range_end (I.ok.hd hc) st (by have:n<=i:=hg;lia) fun h' eb=>⟨rfl,I.turned (t':=s.toks) (fun b o hb e=>eb b o hb e) f0 f1 f3 f4 f5⟩
 self:=fun _ _ _ _ _ st h=>wpAny_pyIter_rangeiter st h
section
variable {X:Cx} {tg:Expr}
def qd4 (K:Frag)(tl:TE):TI:=fun σ H R=>tl σ H fun x H1=>∃a,x=.ref a/\(∃xs,SqL K H1 a xs)/\R (Itl K a) H1
def qh4 (K:Frag)(tl:TE):TI:=fun σ H R=>tl σ H fun x H1=>∃a,x=.ref a/\(∃xs,SqT K H1 a xs)/\R (Itt K a) H1
theorem cW {l:Expr}{tl:TE}(hl:PE X l tl):PI X tg l (qd4 X.K tl):=by
 intro pins s σ H R I h;refine thn (hl pins s σ H _ I h) fun v s1 ⟨x,H1,I1,r1,q1⟩=>?_;obtain⟨a,e,⟨xs,hq⟩,q⟩:=q1;subst e
 cases r1
 obtain⟨its,rv,p,hz⟩:=I1.list hq;refine wpAny_pyIter_list p.isList ?_;refine⟨s1.heap.objs.size,[s1.heap.objs.size],_,_,H1,rfl,I1.kept (t':=s1.toks) fun b o e=>Heap.get?_push_of_some _ e,Ki a _,⟨_,Heap.get?_push_size _ rfl,rfl,rfl⟩,fun b hb=>?_,q⟩;have e:b=s1.heap.objs.size:=by simpa using hb
 subst e;exact I1.fpOk (Nat.le_refl _) (I1.hok.fresh (Nat.le_refl _))
theorem Xf {l:Expr}{tl:TE}(hl:PE X l tl):PI X tg l (qh4 X.K tl):=by
 intro pins s σ H R I h;refine thn (hl pins s σ H _ I h) fun v s1 ⟨x,H1,I1,r1,q1⟩=>?_;obtain⟨a,e,⟨xs,hq⟩,q⟩:=q1;subst e
 cases r1
 obtain⟨its,rv,p,hz⟩:=I1.tuple hq;refine wpAny_pyIter_tuple (show s1.heap.IsTuple a its.toArray from p) ?_;refine⟨s1.heap.objs.size,[s1.heap.objs.size],_,_,H1,rfl,I1.kept (t':=s1.toks) fun b o e=>Heap.get?_push_of_some _ e,Dz a _,⟨_,Heap.get?_push_size _ rfl,rfl,rfl⟩,fun b hb=>?_,q⟩;have e:b=s1.heap.objs.size:=by simpa using hb
 subst e;exact I1.fpOk (Nat.le_refl _) (I1.hok.fresh (Nat.le_refl _))
theorem Bc {pins:List (Addr × Obj)}{σ:St}{H:Hp}{s:Shared}{R:It->Hp->Prop}{E:Value->Shared->Prop}{lo hi:Int}{t u v:Tok}{tk:Nat}(I:Inv X pins σ H s)(h1:-(2 ^ 62)<=lo)(h2:lo < 2 ^ 62)(h3:-(2 ^ 62)<=hi)(h4:hi < 2 ^ 62)(q:R (Itr lo (hi - lo).toNat) H):wpAny (model X.prog X.w) X.A (pyIter (.ref s.heap.objs.size)) (PIE X pins σ tg R) E { s with heap:=s.heap.push { cls:=.type "range",data:=.fields #[.int lo t,.int hi u,.int 1 v] },toks:=tk }:=by
 refine wpAny_pyIter_range (IsRange.new ..) (small_one h1 h2 h3 h4) ?_;have I1:Inv X pins σ H { s with heap:=s.heap.push { cls:=.type "range",data:=.fields #[.int lo t,.int hi u,.int 1 v] },toks:=tk }:=I.kept fun b o e=>Heap.get?_push_of_some _ e;refine⟨(s.heap.push { cls:=.type "range",data:=.fields #[.int lo t,.int hi u,.int 1 v] }).objs.size,[(s.heap.push { cls:=.type "range",data:=.fields #[.int lo t,.int hi u,.int 1 v] }).objs.size],_,_,H,rfl,
  I1.kept (t':=tk) fun b o e=>Heap.get?_push_of_some _ e,Ec _ lo (hi - lo).toNat,?_,fun b hb=>?_,q⟩
 ·have e1:lo+((0:Nat):Int)*1=lo:=by simp
  have e2:(((hi - lo).toNat:Nat):Int) - ((0:Nat):Int)=Builtin.Range.rangeSize lo hi 1:=by rw[rangeSize_one];split<;>lia
  show IsRangeIter _ _ (lo+((0:Nat):Int)*1) ((((hi - lo).toNat:Nat):Int) - ((0:Nat):Int)) 1;rw[e1,e2];exact Heap.get?_push_size _ rfl
 ·have e:b=(s.heap.push { cls:=.type "range",data:=.fields #[.int lo t,.int hi u,.int 1 v] }).objs.size:=by simpa using hb
  subst e;exact I1.fpOk (Nat.le_refl _) (I1.hok.fresh (Nat.le_refl _))
def qd7 (ta:TA):TI:=fun σ H R=>ta σ H fun vs H1=>∃j:Int,vs=[.int j]/\-(2 ^ 62)<=j/\j < 2 ^ 62/\R (Itr 0 j.toNat) H1
def qa7 (ta:TA):TI:=fun σ H R=>ta σ H fun vs H1=>∃i j:Int,vs=[.int i,.int j]/\(-(2 ^ 62)<=i/\i < 2 ^ 62/\-(2 ^ 62)<=j/\j < 2 ^ 62)/\R (Itr i (j - i).toNat) H1
theorem hG {a:Expr}{ta:TA}{p pos:Pos}(hg:Gl X "range")(hm:X.mg "range"=none)(ha:PA X [a] ta)(hs:starEach [a] X.env=[(false,eval a X.env)]:=by rfl):PI X tg (.Call (.Name "range" p) [a] [] pos) (qd7 ta):=by
 intro pins s σ H R I h;refine Call_ (kD I hg hm boot_range (PyProof.Rows.callWith_type1 (thn (ha pos pins s σ H _ I h) fun us s1 ⟨vs,H1,I1,r1,q1⟩=>?_) hs rfl));obtain⟨j,e,q1,q2,q⟩:=q1;subst e
 cases r1 with
 |cons r rr=>
  cases rr
  obtain⟨t,rfl⟩:=r;exact call_range_1 (Bc I1 (by lia) (by lia) q1 q2 (by simpa using q))
theorem qC {a b:Expr}{ta:TA}{p pos:Pos}(hg:Gl X "range")(hm:X.mg "range"=none)(ha:PA X [a,b] ta)(hs:starEach [a,b] X.env=[(false,eval a X.env),(false,eval b X.env)]:=by rfl)(hs2:starEach [b] X.env=[(false,eval b X.env)]:=by rfl) :
  PI X tg (.Call (.Name "range" p) [a,b] [] pos) (qa7 ta):=by
 intro pins s σ H R I h;refine Call_ (kD I hg hm boot_range (PyProof.Rows.callWith_type1 (thn (ha pos pins s σ H _ I h) fun us s1 ⟨vs,H1,I1,r1,q1⟩=>?_) (by rw[hs,hs2]) (by rw[hs2];rfl)));obtain⟨i,j,e,⟨q1,q2,q3,q4⟩,q⟩:=q1;subst e
 cases r1 with
 |cons r rr=>
  cases rr with
  |cons r' rr=>
   cases rr
   obtain⟨t,rfl⟩:=r;obtain⟨t',rfl⟩:=r';exact call_range_2 (Bc I1 q1 q2 q3 q4 q)
def qi8 (wi:TI)(g:TG)(tb:TS):TS:=fun D σ H=>wi σ H fun J H1=>∃W:Nat->Nat->St->Hp->Prop,(∃m,W 0 m σ H1)/\∀i m σ H,W i m σ H->
 (J.stop i H/\D.nx σ H)\/(J.go i H/\∃N:St->Hp->Prop,(∀σ' H',N σ' H'->∃m',m' < m/\W (i+1) m' σ' H')/\∀x H',J.yld i H x H'->g x σ H' fun σ2 H2=>tb { D with nx:=N,ct:=N,bk:=D.nx } σ2 H2)
def tT (fp:List Addr)(h:Heap):List (Addr × Obj):=fp.filterMap fun b=>(h.get? b).map fun o=>(b,o)
theorem kE {fp:List Addr}{h:Heap}{b:Addr}{o:Obj}(hb:b∈fp)(e:h.get? b=some o):(b,o)∈tT fp h:=mem_filterMap.mpr ⟨b,hb,by rw[e];rfl⟩
theorem Jk {fp:List Addr}{h:Heap}{p:Addr × Obj}(hp:p∈tT fp h):p.1∈fp/\h.get? p.1=some p.2:=by
 obtain⟨b,hb,e⟩:=mem_filterMap.mp hp
 cases q:h.get? b with
 |none=>rw[q] at e;cases e
 |some o=>
  rw[q] at e;have e':(b,o)=p:=Option.some.inj e;subst e';exact⟨hb,q⟩
theorem Inv.pinned {pins:List (Addr × Obj)}{σ:St}{H:Hp}{s:Shared}{fp:List Addr}(I:Inv X pins σ H s)(hf:∀b∈fp,mX X pins H b)(ho:∀b∈fp,∃o,s.heap.get? b=some o/\∀v,o.data≠.cell v):Inv X (pins++tT fp s.heap) σ H s:=
 I.pins_of fun p hp=>(mem_append.mp hp).elim (fun z=>I.pin p (mem_append_right _ z)) fun z=>by
  obtain⟨hb,e⟩:=Jk z;obtain⟨f0,f1,f2,_⟩:=hf p.1 hb;obtain⟨o,e',d⟩:=ho p.1 hb;rw[e] at e';cases e';exact⟨e,f0,f1,f2,d⟩
theorem Inv.unpinned {pins pl:List (Addr × Obj)}{σ:St}{H:Hp}{s:Shared}(I:Inv X (pins++pl) σ H s):Inv X pins σ H s:=I.pins_of fun p hp=>I.pin p (mem_append_right _ (mem_append_left _ hp))
theorem dQ {iter:Expr}{body:List Stmt}{wi:TI}{g:TG}{tb:TS}{pos:Pos}(hp:PassesOwn (model X.prog X.w) X.A X.env X.xe)(hc:X.calm=true)(hi:PI X tg iter wi)(hg:PG X tg g)(hb:PSs X body tb)(hs:∀x,foldedSetIterable iter X.env x=pure x:=by intro _;rfl):PS X (.For tg iter body [] pos) (qi8 wi g tb):=by
 intro pins s σ H D I h;refine wpAny_For (thn (hi pins s σ H _ I h) fun v s1 h1=>thn h1 fun itv s2 h2=>?_) hs;obtain⟨it,fp,tn,J,H2,e,I2,T,st2,f2,W,⟨m0,w0⟩,turn⟩:=h2;subst e;have stat:∀{H':Hp},(∀b∈fp,H' b=none)->∀b∈fp,mX X pins H' b:=fun hn b hb=>⟨hn b hb,(f2 b hb).2⟩
 refine codeAny_forLoop_any (fun n s'=>∃i σ' H',Inv X pins σ' H' s'/\tn i s'.heap/\(∀b∈fp,H' b=none)/\W i n σ' H') ?_ m0 ⟨0,σ,H2,I2,st2,fun b hb=>(f2 b hb).1,w0⟩;rintro n s3 ⟨i,σ3,H3,I3,st3,fr3,w3⟩;rcases turn i n σ3 H3 w3 with ⟨stop,qn⟩ | ⟨go,N,hN,step⟩
 ·refine wpAny_passesOwn hp (thn (T.done X rfl rfl rfl hc i pins s3 σ3 H3 X.xe I3 (stat fr3) st3 stop) fun r s4 ⟨hr,I4⟩=>?_);subst hr;exact wpAny_execs_nil ⟨σ3,H3,I4,qn⟩
 ·refine wpAny_passesOwn hp (thn (T.item X rfl rfl rfl hc i pins s3 σ3 H3 X.xe I3 (stat fr3) st3 go) fun r s4 ⟨u,hr,h4⟩=>?_);subst hr;refine wpAny_passesOwn hp (thn h4 fun _ s5 ⟨x,H5,I5,r5,y5,st5,fr5⟩=>?_);have I5':=I5.pinned (stat fr5) (T.obj _ _ st5);refine wpAny_passesOwn hp (thn (hg _ s5 σ3 H5 x u _ I5' r5 (step x H5 y5)) fun _ s6 ⟨σ6,H6,I6,q6⟩=>?_);refine wpAny_passesOwn hp (thn (hb _ s6 σ6 H6 _ I6 q6) fun f s7 q7=>?_);have again:∀{σ7:St} {H7:Hp},Inv X (pins++tT fp s5.heap) σ7 H7 s7->N σ7 H7->∃m,m < n/\∃i σ' H',Inv X pins σ' H' s7/\tn i s7.heap/\(∀b∈fp,H' b=none)/\W i m σ' H':=fun {σ7 H7} I7 n7=>by
   obtain⟨m',hm,w7⟩:=hN σ7 H7 n7;refine⟨m',hm,i+1,σ7,H7,I7.unpinned,T.keep _ _ _ st5 fun b hb o e=>(I7.pin (b,o) (mem_append_right _ (mem_append_right _ (kE hb e)))).1,fun b hb=>?_,w7⟩;obtain⟨o,e,d⟩:=T.obj _ _ st5 b hb;exact(I7.pin (b,o) (mem_append_right _ (mem_append_right _ (kE hb e)))).2.1
  cases f with
  |next=>obtain⟨σ7,H7,I7,n7⟩:=q7;exact again I7 n7
  |cont=>obtain⟨σ7,H7,I7,n7⟩:=q7;exact again I7 n7
  |brk=>obtain⟨σ7,H7,I7,q7⟩:=q7;exact⟨σ7,H7,I7.unpinned,q7⟩
  |ret v=>obtain⟨x7,σ7,H7,I7,r7,q7⟩:=q7;exact⟨x7,σ7,H7,I7.unpinned,r7,q7⟩
end
theorem gS {K:Frag}{a:Addr}{xs:List V}{g:TG}{tb:TS}{D:lF}{σ:St}{H:Hp}(Pv:Nat->St->Hp->Prop)(h0:Pv 0 σ H)(hl:∀i σ H,i<=xs.length->Pv i σ H->SqL K H a xs)(hs:∀i x σ H,xs[i]?=some x->Pv i σ H->g x σ H fun σ2 H2=>tb { D with nx:=Pv (i+1),ct:=Pv (i+1),bk:=D.nx } σ2 H2)(hd:∀σ H,Pv xs.length σ H->D.nx σ H) :
  ∃W:Nat->Nat->St->Hp->Prop,(∃m,W 0 m σ H)/\∀i m σ H,W i m σ H->
   ((Itl K a).stop i H/\D.nx σ H)\/((Itl K a).go i H/\∃N:St->Hp->Prop,(∀σ' H',N σ' H'->∃m',m' < m/\W (i+1) m' σ' H')/\∀x H',(Itl K a).yld i H x H'->g x σ H' fun σ2 H2=>tb { D with nx:=N,ct:=N,bk:=D.nx } σ2 H2):=by
 refine⟨fun i m σ H=>m=xs.length - i/\i<=xs.length/\Pv i σ H,⟨xs.length,by simp,Nat.zero_le _,h0⟩,?_⟩;rintro i m σ H ⟨rfl,hi,p⟩;have q:=hl i σ H hi p
 by_cases hlt:i < xs.length
 ·refine .inr ⟨⟨xs,xs[i],q,by simp[hlt]⟩,Pv (i+1),fun σ' H' p'=>⟨xs.length - (i+1),by lia,rfl,hlt,p'⟩,fun x H' y=>?_⟩;obtain⟨e,y⟩:=y;subst e;exact hs i x σ _ (y xs q) p
 ·have e:i=xs.length:=by lia
  subst e;exact .inl ⟨⟨xs,q,Nat.le_refl _⟩,hd σ H p⟩
theorem Um {K:Frag}{a:Addr}{xs:List V}{g:TG}{tb:TS}{D:lF}{σ:St}{H:Hp}(Pv:Nat->St->Hp->Prop)(h0:Pv 0 σ H)(hl:∀i σ H,i<=xs.length->Pv i σ H->SqT K H a xs)(hs:∀i x σ H,xs[i]?=some x->Pv i σ H->g x σ H fun σ2 H2=>tb { D with nx:=Pv (i+1),ct:=Pv (i+1),bk:=D.nx } σ2 H2)(hd:∀σ H,Pv xs.length σ H->D.nx σ H) :
  ∃W:Nat->Nat->St->Hp->Prop,(∃m,W 0 m σ H)/\∀i m σ H,W i m σ H->
   ((Itt K a).stop i H/\D.nx σ H)\/((Itt K a).go i H/\∃N:St->Hp->Prop,(∀σ' H',N σ' H'->∃m',m' < m/\W (i+1) m' σ' H')/\∀x H',(Itt K a).yld i H x H'->g x σ H' fun σ2 H2=>tb { D with nx:=N,ct:=N,bk:=D.nx } σ2 H2):=by
 refine⟨fun i m σ H=>m=xs.length - i/\i<=xs.length/\Pv i σ H,⟨xs.length,by simp,Nat.zero_le _,h0⟩,?_⟩;rintro i m σ H ⟨rfl,hi,p⟩;have q:=hl i σ H hi p
 by_cases hlt:i < xs.length
 ·refine .inr ⟨⟨xs,xs[i],q,by simp[hlt]⟩,Pv (i+1),fun σ' H' p'=>⟨xs.length - (i+1),by lia,rfl,hlt,p'⟩,fun x H' y=>?_⟩;obtain⟨e,y⟩:=y;subst e;exact hs i x σ _ (y xs q) p
 ·have e:i=xs.length:=by lia
  subst e;exact .inl ⟨⟨xs,q,Nat.le_refl _⟩,hd σ H p⟩
theorem gM {lo:Int}{n:Nat}{g:TG}{tb:TS}{D:lF}{σ:St}{H:Hp}(Pv:Nat->St->Hp->Prop)(h0:Pv 0 σ H)(hs:∀i σ H,i < n->Pv i σ H->g (.int (lo+i)) σ H fun σ2 H2=>tb { D with nx:=Pv (i+1),ct:=Pv (i+1),bk:=D.nx } σ2 H2)(hd:∀σ H,Pv n σ H->D.nx σ H) :
  ∃W:Nat->Nat->St->Hp->Prop,(∃m,W 0 m σ H)/\∀i m σ H,W i m σ H->
   ((Itr lo n).stop i H/\D.nx σ H)\/((Itr lo n).go i H/\∃N:St->Hp->Prop,(∀σ' H',N σ' H'->∃m',m' < m/\W (i+1) m' σ' H')/\∀x H',(Itr lo n).yld i H x H'->g x σ H' fun σ2 H2=>tb { D with nx:=N,ct:=N,bk:=D.nx } σ2 H2):=by
 refine⟨fun i m σ H=>m=n - i/\i<=n/\Pv i σ H,⟨n,by simp,Nat.zero_le _,h0⟩,?_⟩;rintro i m σ H ⟨rfl,hi,p⟩
 by_cases hlt:i < n
 ·refine .inr ⟨hlt,Pv (i+1),fun σ' H' p'=>⟨n - (i+1),by lia,rfl,hlt,p'⟩,fun x H' y=>?_⟩;obtain⟨e,y⟩:=y;subst e y;exact hs i σ _ hlt p
 ·have e:i=n:=by lia
  subst e;exact .inl ⟨Nat.le_refl _,hd σ H p⟩
theorem rY {c:TT}{tb:TS}{D:lF}{σ:St}{H:Hp}(Pv:St->Hp->Prop)(μ:St->Hp->Nat)(h0:Pv σ H)(hs:∀σ H,Pv σ H->c σ H fun b H1=>if b=true then tb { D with nx:=fun σ' H'=>Pv σ' H'/\μ σ' H' < μ σ H,ct:=fun σ' H'=>Pv σ' H'/\μ σ' H' < μ σ H,bk:=D.nx } σ H1 else D.nx σ H1)(mono:∀σ H Q Q',(∀b H1,Q b H1->Q' b H1)->c σ H Q->c σ H Q'):Ld c tb D σ H:=by
 refine⟨fun m σ H=>m=μ σ H/\Pv σ H,⟨_,rfl,h0⟩,?_⟩;rintro m σ H ⟨rfl,p⟩;refine mono σ H _ _ (fun b H1 q=>?_) (hs σ H p)
 cases b with
 |true=>exact⟨_,fun σ' H' ⟨p',l⟩=>⟨_,l,rfl,p'⟩,q⟩
 |false=>exact q
abbrev R2:=V->V->Hp->VK->Prop
def OpR (X:Cx)(f:Value->Value->Sem Value)(r:R2):Prop:=
 ∀(pins:List (Addr × Obj)) (s:Shared) (σ:St) (H:Hp) (x y:V) (v u:Value) (Q:VK),Inv X pins σ H s->cE x v->cE y u->r x y H Q->
  wpAny (model X.prog X.w) X.A (f v u) (EP X pins σ Q) X.xe s
def UnR (X:Cx)(f:Value->Sem Value)(r:V->Hp->VK->Prop):Prop:=
 ∀(pins:List (Addr × Obj)) (s:Shared) (σ:St) (H:Hp) (x:V) (v:Value) (Q:VK),Inv X pins σ H s->cE x v->r x H Q->
  wpAny (model X.prog X.w) X.A (f v) (EP X pins σ Q) X.xe s
def tQ (X:Cx)(f:Value)(r:List V->Hp->VK->Prop):Prop:=
 ∀(pins:List (Addr × Obj)) (s:Shared) (σ:St) (H:Hp) (xs:List V) (us:List Value) (Q:VK),Inv X pins σ H s->bZ xs us->r xs H Q->
  wpAny (model X.prog X.w) X.A (call f us) (EP X pins σ Q) X.xe s
def tOp (r:R2)(ta tb:TE):TE:=fun σ H Q=>ta σ H fun x H1=>tb σ H1 fun y H2=>r x y H2 Q
def tUn (r:V->Hp->VK->Prop)(ta:TE):TE:=fun σ H Q=>ta σ H fun x H1=>r x H1 Q
def rI (C:Int->Int->Prop)(g:Int->Int->V):R2:=fun x y H Q=>∃i j,x=.int i/\y=.int j/\C i j/\Q (g i j) H
def rI0 (g:Int->Int->V):R2:=fun x y H Q=>∃i j,x=.int i/\y=.int j/\Q (g i j) H
def rU (g:Int->V):V->Hp->VK->Prop:=fun x H Q=>∃i,x=.int i/\Q (g i) H
section
variable {X:Cx} {a b c:Expr} {ta tb tc:TE} {pos:Pos}
theorem Xv (ha:PE X a ta)(hb:PE X b tb){pins:List (Addr × Obj)}{s:Shared}{σ:St}{H:Hp}{R:V->V->Hp->Prop}(I:Inv X pins σ H s)(h:ta σ H fun x H1=>tb σ H1 fun y H2=>R x y H2){Q:Value->Shared->Prop}{f:Value->Value->Sem Value}(hf:∀v u s2 x y H2,Inv X pins σ H2 s2->cE x v->cE y u->R x y H2->wpAny (model X.prog X.w) X.A (f v u) Q X.xe s2) :
  wpAny (model X.prog X.w) X.A (eval a X.env) (fun v s₁=>wpAny (model X.prog X.w) X.A (eval b X.env) (fun u s₂=>wpAny (model X.prog X.w) X.A (f v u) Q X.xe s₂) X.xe s₁) X.xe s:=by
 refine thn (ha pins s σ H _ I h) fun v s1 ⟨x,H1,I1,r1,q1⟩=>?_;refine thn (hb pins s1 σ H1 _ I1 q1) fun u s2 ⟨y,H2,I2,r2,q2⟩=>?_;exact hf v u s2 x y H2 I2 r1 r2 q2
theorem aU {op:Operator}{r:R2}(ho:OpR X (binaryOp op) r)(ha:PE X a ta)(hb:PE X b tb):PE X (.BinOp a op b pos) (tOp r ta tb):=by
 intro pins s σ H Q I h;exact wpAny_BinOp (Xv ha hb I h fun v u s2 x y H2 I2 rx ry q=>ho pins s2 σ H2 x y v u Q I2 rx ry q)
theorem Oy {op:UnaryOp}{r:V->Hp->VK->Prop}(ho:UnR X (unaryOp op) r)(ha:PE X a ta):PE X (.UnaryOp op a pos) (tUn r ta):=by
 intro pins s σ H Q I h;exact UnaryOp_ (thn (ha pins s σ H _ I h) fun v s1 ⟨x,H1,I1,r1,q1⟩=>ho pins s1 σ H1 x v Q I1 r1 q1)
theorem opI {f:Value->Value->Sem Value}{C:Int->Int->Prop}{g:Int->Int->Int}(rule:∀(i j:Int) (t u:Tok) (s:Shared) (Q:Value->Shared->Prop) (E:Value->Shared->Prop),C i j->Q (.int (g i j) s.toks) { s with toks:=s.toks+1 }->wpAny (model X.prog X.w) X.A (f (.int i t) (.int j u)) Q E s) :
  OpR X f (rI C fun i j=>.int (g i j)):=by
 intro pins s σ H x y v u Q I rx ry h;obtain⟨i,j,rfl,rfl,hc,q⟩:=h;obtain⟨t,rfl⟩:=rx;obtain⟨t',rfl⟩:=ry;exact rule i j t t' s _ _ hc ⟨.int (g i j),H,I.tok _,⟨_,rfl⟩,q⟩
theorem qb0 {f:Value->Value->Sem Value}{g:Int->Int->Int}(rule:∀(i j:Int) (t u:Tok) (s:Shared) (Q:Value->Shared->Prop) (E:Value->Shared->Prop),Q (.int (g i j) s.toks) { s with toks:=s.toks+1 }->wpAny (model X.prog X.w) X.A (f (.int i t) (.int j u)) Q E s) :
  OpR X f (rI0 fun i j=>.int (g i j)):=by
 intro pins s σ H x y v u Q I rx ry h;obtain⟨i,j,rfl,rfl,q⟩:=h;obtain⟨t,rfl⟩:=rx;obtain⟨t',rfl⟩:=ry;exact rule i j t t' s _ _ ⟨.int (g i j),H,I.tok _,⟨_,rfl⟩,q⟩
theorem Wv {f:Value->Value->Sem Value}{g:Int->Int->Bool}(rule:∀(i j:Int) (t u:Tok) (s:Shared) (Q:Value->Shared->Prop) (E:Value->Shared->Prop),Q (.bool (g i j)) s->wpAny (model X.prog X.w) X.A (f (.int i t) (.int j u)) Q E s) :
  OpR X f (rI0 fun i j=>.bl (g i j)):=by
 intro pins s σ H x y v u Q I rx ry h;obtain⟨i,j,rfl,rfl,q⟩:=h;obtain⟨t,rfl⟩:=rx;obtain⟨t',rfl⟩:=ry;exact rule i j t t' s _ _ ⟨.bl (g i j),H,I,rfl,q⟩
def qh6 (i j:Int):Prop:=0 < j/\j < 1073741824
def qj7 (i j:Int):Prop:=0<=j/\j<=1000000/\i.natAbs < 2 ^ 64
def Zp (i j:Int):Prop:=(-(2 ^ 64) < i/\i < 2 ^ 64)\/(-(2 ^ 64) < j/\j < 2 ^ 64)
theorem Zp.ok {i j:Int}(h:Zp i j):IntMulOk i j:=by
 rcases h with ⟨h1,h2⟩ | ⟨h1,h2⟩
 ·exact .of_left (intBits_le_64 h1 h2)
 ·exact .of_right (intBits_le_64 h1 h2)
theorem cZ:OpR X (binaryOp .Add) (rI0 fun i j=>.int (i+j)):=qb0 fun _ _ _ _ _ _ _ q=>add_int q
theorem jR:OpR X (binaryOp .Sub) (rI0 fun i j=>.int (i - j)):=qb0 fun _ _ _ _ _ _ _ q=>sub_int q
theorem lL:OpR X (binaryOp .Mult) (rI Zp fun i j=>.int (i*j)):=opI fun _ _ _ _ _ _ _ hc q=>mul_int q hc.ok
theorem kM:OpR X (binaryOp .FloorDiv) (rI qh6 fun i j=>.int (i / j)):=opI fun i j _ _ _ _ _ hc q=>by
 have h1:(0:Int) < j:=hc.1;have h2:j < 1073741824:=hc.2;exact floordiv_int (by lia) (by rw[Int.fdiv_eq_ediv_of_nonneg i (by lia)];exact q) (.inl (PyProof.noPylong_small (by lia)))
theorem jP:OpR X (binaryOp .Mod) (rI (fun _ j=>0 < j) fun i j=>.int (i % j)):=opI fun i j _ _ _ _ _ hc q=>by
 have h1:(0:Int) < j:=hc;exact mod_int' (by lia) (by rw[Int.fmod_eq_emod_of_nonneg i (by lia)];exact q)
theorem kQ:OpR X (binaryOp .Mod) (rI (fun _ j=>j≠0) fun i j=>.int (i.fmod j)):=opI fun _ _ _ _ _ _ _ hc q=>mod_int' hc q
theorem jS:OpR X (binaryOp .Pow) (rI qj7 fun i j=>.int (i ^ j.toNat)):=opI fun _ _ _ _ _ _ _ hc q=>pow_int_small hc.1 hc.2.1 hc.2.2 q
theorem unI {f:Value->Sem Value}{g:Int->Int}(rule:∀(i:Int) (t:Tok) (s:Shared) (Q:Value->Shared->Prop) (E:Value->Shared->Prop),Q (.int (g i) s.toks) { s with toks:=s.toks+1 }->wpAny (model X.prog X.w) X.A (f (.int i t)) Q E s) :
  UnR X f (rU fun i=>.int (g i)):=by
 intro pins s σ H x v Q I rx h;obtain⟨i,rfl,q⟩:=h;obtain⟨t,rfl⟩:=rx;exact rule i t s _ _ ⟨.int (g i),H,I.tok _,⟨_,rfl⟩,q⟩
theorem Ef:UnR X (unaryOp .USub) (rU fun i=>.int (-i)):=unI fun _ _ _ _ _ q=>neg_int q
end
def qe8:V->V->Bool
 | .non,.non=>true | .non,.int _=>true | .int _,.non=>true | .non,.bl _=>true | .bl _,.non=>true | .non,.str _=>true | .str _,.non=>true
 | .int _,.int _=>true | .bl _,.bl _=>true | .str _,.str _=>true | .byt _,.byt _=>true
 | .int _,.str _=>true | .str _,.int _=>true | .bl _,.str _=>true | .str _,.bl _=>true
 |_,_=>false
def rEq:R2:=fun x y H Q=>qe8 x y=true/\Q (.bl (decide (x=y))) H
def rNe:R2:=fun x y H Q=>qe8 x y=true/\Q (.bl (!decide (x=y))) H
theorem Fh {i j:Int}:decide (V.int i=V.int j)=(i == j):=by
 rw[Bool.eq_iff_iff];simp
theorem Qg {i j:Bool}:decide (V.bl i=V.bl j)=(i == j):=by
 rw[Bool.eq_iff_iff];simp
theorem Ia {i j:Str}:decide (V.str i=V.str j)=(i == j):=by
 rw[Bool.eq_iff_iff];simp
theorem Fu {i j:Array UInt8}:decide (V.byt i=V.byt j)=(i.toList == j.toList):=by
 rw[Bool.eq_iff_iff]
 cases i
 cases j
 simp
section
variable {X:Cx} {a b c:Expr} {ta tb tc:TE} {pos:Pos}
theorem cS {pins:List (Addr × Obj)}{σ:St}{H:Hp}{s:Shared}{Q:VK}{k k':Bool}(I:Inv X pins σ H s)(q:Q (.bl k) H)(e:k=k'):EP X pins σ Q (.bool k') s:=by
 subst e;exact⟨.bl k,H,I,rfl,q⟩
theorem dZ:OpR X (compareOp .Eq) rEq:=by
 intro pins s σ H x y v u Q I rx ry h;obtain⟨hs,q⟩:=h
 cases x with
 |non=>
  cases rx
  cases y with
  |non=>cases ry;exact PySem.EqNone.eq_none_none (cS I q (by simp))
  |bl j=>cases ry;exact PySem.EqNone.eq_none_bool (cS I q (by simp))
  |int j=>obtain⟨t',rfl⟩:=ry;exact PySem.EqNone.eq_none_int (cS I q (by simp))
  |str j=>obtain⟨t',rfl⟩:=ry;exact PySem.EqNone.eq_none_str (cS I q (by simp))
  |_=>exact absurd (show false=true from hs) Bool.false_ne_true
 |bl i=>
  cases rx
  cases y with
  |non=>cases ry;exact PySem.EqNone.eq_bool_none (cS I q (by simp))
  |bl j=>cases ry;exact eq_bool (cS I q Qg)
  |str j=>obtain⟨t',rfl⟩:=ry;exact PySem.EqMixed.eq_bool_str (cS I q (by simp))
  |_=>exact absurd (show false=true from hs) Bool.false_ne_true
 |int i=>
  obtain⟨t,rfl⟩:=rx
  cases y with
  |non=>cases ry;exact PySem.EqNone.eq_int_none (cS I q (by simp))
  |int j=>obtain⟨t',rfl⟩:=ry;exact eq_int (cS I q Fh)
  |str j=>obtain⟨t',rfl⟩:=ry;exact PySem.EqMixed.eq_int_str (cS I q (by simp))
  |_=>exact absurd (show false=true from hs) Bool.false_ne_true
 |str i=>
  obtain⟨t,rfl⟩:=rx
  cases y with
  |non=>cases ry;exact PySem.EqNone.eq_str_none (cS I q (by simp))
  |bl j=>cases ry;exact PySem.EqMixed.eq_str_bool (cS I q (by simp))
  |int j=>obtain⟨t',rfl⟩:=ry;exact PySem.EqMixed.eq_str_int (cS I q (by simp))
  |str j=>obtain⟨t',rfl⟩:=ry;exact eq_str (cS I q Ia)
  |_=>exact absurd (show false=true from hs) Bool.false_ne_true
 |byt i=>
  obtain⟨t,rfl⟩:=rx
  cases y with
  |byt j=>obtain⟨t',rfl⟩:=ry;exact W.eq_bytes (cS I q Fu)
  |_=>exact absurd (show false=true from hs) Bool.false_ne_true
 |_=>cases y<;>exact absurd (show false=true from hs) Bool.false_ne_true
theorem qH:OpR X (compareOp .NotEq) rNe:=by
 intro pins s σ H x y v u Q I rx ry h;obtain⟨hs,q⟩:=h
 cases x with
 |non=>
  cases rx
  cases y with
  |non=>cases ry;exact PySem.EqNone.ne_none_none (cS I q (by simp))
  |bl j=>cases ry;exact PySem.EqNone.ne_none_bool (cS I q (by simp))
  |int j=>obtain⟨t',rfl⟩:=ry;exact PySem.EqNone.ne_none_int (cS I q (by simp))
  |str j=>obtain⟨t',rfl⟩:=ry;exact PySem.EqNone.ne_none_str (cS I q (by simp))
  |_=>exact absurd (show false=true from hs) Bool.false_ne_true
 |bl i=>
  cases rx
  cases y with
  |non=>cases ry;exact PySem.EqNone.ne_bool_none (cS I q (by simp))
  |bl j=>cases ry;exact ne_bool (cS I q (congrArg not Qg))
  |str j=>obtain⟨t',rfl⟩:=ry;exact PySem.EqMixed.ne_bool_str (cS I q (by simp))
  |_=>exact absurd (show false=true from hs) Bool.false_ne_true
 |int i=>
  obtain⟨t,rfl⟩:=rx
  cases y with
  |non=>cases ry;exact PySem.EqNone.ne_int_none (cS I q (by simp))
  |int j=>obtain⟨t',rfl⟩:=ry;exact ne_int (cS I q (congrArg not Fh))
  |str j=>obtain⟨t',rfl⟩:=ry;exact PySem.EqMixed.ne_int_str (cS I q (by simp))
  |_=>exact absurd (show false=true from hs) Bool.false_ne_true
 |str i=>
  obtain⟨t,rfl⟩:=rx
  cases y with
  |non=>cases ry;exact PySem.EqNone.ne_str_none (cS I q (by simp))
  |bl j=>cases ry;exact PySem.EqMixed.ne_str_bool (cS I q (by simp))
  |int j=>obtain⟨t',rfl⟩:=ry;exact PySem.EqMixed.ne_str_int (cS I q (by simp))
  |str j=>obtain⟨t',rfl⟩:=ry;exact ne_str (cS I q (congrArg not Ia))
  |_=>exact absurd (show false=true from hs) Bool.false_ne_true
 |byt i=>
  obtain⟨t,rfl⟩:=rx
  cases y with
  |byt j=>obtain⟨t',rfl⟩:=ry;exact W.ne_bytes (cS I q (congrArg not Fu))
  |_=>exact absurd (show false=true from hs) Bool.false_ne_true
 |_=>cases y<;>exact absurd (show false=true from hs) Bool.false_ne_true
theorem xE:OpR X (compareOp .Lt) (rI0 fun i j=>.bl (decide (i < j))):=Wv fun _ _ _ _ _ _ _ q=>lt_int q
theorem Hw:OpR X (compareOp .Gt) (rI0 fun i j=>.bl (decide (j < i))):=Wv fun _ _ _ _ _ _ _ q=>gt_int q
theorem Mc:OpR X (compareOp .GtE) (rI0 fun i j=>.bl (decide (j<=i))):=Wv fun _ _ _ _ _ _ _ q=>ge_int q
theorem bM (b:Expr){op:CmpOp}(h:op≠.In:=by decide)(h2:op≠.NotIn:=by decide):behindInMarks op b=false:=by
 have e1:(op == CmpOp.In)=false:=by cases op<;>first | rfl | exact absurd rfl h
 have e2:(op == CmpOp.NotIn)=false:=by cases op<;>first | rfl | exact absurd rfl h2
 cases b<;>simp[behindInMarks,e1,e2]
theorem mO {op:CmpOp}{r:R2}(ho:OpR X (compareOp op) r)(ha:PE X a ta)(hb:PE X b tb)(hm:behindInMarks op b=false):PE X (.Compare a [op] [b] pos) (tOp r ta tb):=by
 intro pins s σ H Q I h;exact wpAny_Compare1 (Xv ha hb I h fun v u s2 x y H2 I2 rx ry q=>ho pins s2 σ H2 x y v u Q I2 rx ry q) hm
def qd3 (t:TE):TT:=fun σ H Q=>t σ H fun x H'=>∃k,x=.bl k/\Q k H'
theorem bF {op:CmpOp}{r:R2}(ho:OpR X (compareOp op) r)(ha:PE X a ta)(hb:PE X b tb)(hm:behindInMarks op b=false):PT X (.Compare a [op] [b] pos) (qd3 (tOp r ta tb)):=by
 intro pins s σ H Q I h;refine wpAny_isTrue_Compare1 (thn (ha pins s σ H _ I h) fun v s1 ⟨x,H1,I1,r1,q1⟩=>thn (hb pins s1 σ H1 _ I1 q1) fun u s2 ⟨y,H2,I2,r2,q2⟩=>
  thn (ho pins s2 σ H2 x y v u _ I2 r1 r2 q2) fun c s3 ⟨z,H3,I3,r3,k,e,q3⟩=>?_) hm
 subst e
 cases r3
 exact wpAny_truthy_bool ⟨H3,I3,q3⟩
theorem yF:(sizeLine:Nat) < 2 ^ 63:=by rw[sizeLine_eq];decide
theorem An {x:V}{us:List Value}(r:bZ [x] us):∃u,us=[u]/\cE x u:=by
 cases r with
 |cons r1 r2=>cases r2;exact⟨_,rfl,r1⟩
theorem Lx {x y:V}{us:List Value}(r:bZ [x,y] us):∃u w',us=[u,w']/\cE x u/\cE y w':=by
 cases r with
 |cons r1 r2=>
  cases r2 with
  |cons r3 r4=>cases r4;exact⟨_,_,rfl,r1,r3⟩
theorem sU:tQ X (.builtin "abs") (fun xs H Q=>∃i,xs=[.int i]/\Q (.int (if i < 0 then -i else i)) H):=by
 intro pins s σ H xs us Q I r h;obtain⟨i,rfl,q⟩:=h;obtain⟨u,rfl,t,rfl⟩:=An r;exact call_abs_int fun u tk=>⟨.int (if i < 0 then -i else i),H,I.tok _,⟨_,rfl⟩,q⟩
end
structure Dy (h:Heap) (x dx C:Addr) (mA:Str->Option Value):Prop where
 obj:h.get? x=some (W.instObj C dx)
 ns:h.Ns1 dx mA
 ne:dx≠x
theorem Io {h:Heap}{dx:Addr}{mA:Str->Option Value}(n:h.Ns1 dx mA):∃od,h.get? dx=some od/\∀name,W.lookIn name od=some (mA name):=by
 obtain⟨o,es,ep,ho,hd,hk,_,hm⟩:=n;refine⟨o,ho,fun name=>?_⟩;have e:=hm name;unfold nsFind findBy at e;rw[<- Array.find?_toList] at e;unfold W.lookIn;rw[hd];dsimp only;split
 ·rename_i y q
  rw[q] at e;exact congrArg some e
 ·rename_i q
  rw[q] at e;have a:es.toList.any (·.refKey)=false:=by
   rw[any_eq_false];intro y hy;obtain⟨z,t,hkey⟩:=hk y (Array.mem_toList_iff.mp hy);simp[DictEntry.refKey,hkey]
  have a':¬es.toList.any (·.refKey)=true:=by rw[a];exact Bool.false_ne_true
  rw[if_neg a'];exact congrArg some e
theorem Dy.look {h:Heap}{x dx C:Addr}{mA:Str->Option Value}(I:Dy h x dx C mA):∃od,W.InstAt h x (W.instObj C dx) C (some od)/\∀name,W.lookIn name od=some (mA name):=
 let ⟨od,ho,hl⟩:=Io I.ns
 ⟨od,⟨I.obj,rfl,rfl,ho⟩,hl⟩
section
variable {prog:Program} {w:World} {A:Around} {E:Value->Shared->Prop} {s:Shared} {K:Frag} {x dx C f:Addr} {mA:Str->Option Value} {name:Str} {v:Value}
theorem Tm {expr:Bool}{Q:Value->Shared->Prop}(X:K.In s.heap)(I:Dy s.heap x dx C mA)(hg:W.plainGet K C name=true)(hh:W.hasDictIn K C=true)(ha:W.findIn K (.ref C) name=some none)(hv:mA name=some v)(hv':W.handedIn v=true)(h:Q v { s with toks:=s.toks+1 }) :
  wpAny (model prog w) A (getAttr (.ref x) name expr) Q E s:=by
 obtain⟨od,J,hl⟩:=I.look;exact W.get_value X J (W.plainGet_of hg).1 (W.findObj_own hh ha rfl (by rw[hl,hv])) hv' h
theorem Nq {pl:Sem Bool}{Q:Value × List Value->Shared->Prop}(X:K.In s.heap)(I:Dy s.heap x dx C mA)(hg:W.plainGet K C name=true)(hf:W.findIn K (.ref C) name=some (some (.ref f)))(ht:W.isFn K (.ref f)=true)(hv:mA name=none)(h:Q (.ref f,[.ref x]) s) :
  wpAny (model prog w) A (getMethod (.ref x) name pl) Q E s:=by
 obtain⟨od,J,hl⟩:=I.look;exact W.method_fn X J (W.plainGet_of hg).1 (W.plainGet_of hg).2 hf (beq_iff_eq.mp ht) (by show (W.lookIn name od).map (·.isSome)=some false;rw[hl,hv];rfl) h
theorem Uo {ns:List Str}{Q:Unit->Shared->Prop}(X:K.In s.heap)(I:Dy s.heap x dx C mA)(hs:W.findIn K (.ref C) "__setattr__"=some (some (.builtin "object.__setattr__")))(hp:W.plainOver K C=true)(ht:W.takerIn K C name=some none)(hh:W.hasDictIn K C=true)(hw:PySem.Within mA ns)(hsz:ns.length<=sizeLine)(h:∀h',Dy h' x dx C (fun y=>if y=name then some v else mA y)->Heap.SameBut dx s.heap h'->Q () { s with heap:=h',toks:=s.toks+2 }) :
  wpAny (model prog w) A (setAttr (.ref x) name v) Q E s:=by
 obtain⟨od,J,hl⟩:=I.look;refine W.set_plain X J hs (W.osa_open (s:={ s with toks:=s.toks+1 }) (r:=none) X J hp ht fun b=>?_);obtain⟨cd,hc,hd'⟩:=W.any_some hh;have hx:s.heap.get? x=some ⟨.ref C,some dx,.plain,#[]⟩:=I.obj;refine wpAny_bind (wpAny_pure (wpAny_bind (wpAny_bind (wpAny_loadPart hx (wpAny_bind (W.Looks.here (s:={ s with toks:=s.toks+1 }) (W.looks_clsIn X hc) ?_))))));rw[hd'];refine wpAny_pure (a:=some dx) (wpAny_bind (wpAny_pure (wpAny_bind ?_)));refine wpAny_nsSet1 (s:={ s with toks:=s.toks+1 }) I.ns fun h' hn2 hs2=>?_;obtain⟨oD,esD,epD,hoD,hdD,hcD⟩:=hn2.count (PySem.Within.cons name v hw);refine wpAny_bind (wpAny_lookBehind hoD (by rw[hdD];exact pastItsLine_dict (Nat.le_trans hcD (by rw[length_cons];lia))) ?_);exact wpAny_pure (h _ ⟨(hs2.2 _ (Ne.symm I.ne)).trans I.obj,hn2,I.ne⟩ hs2)
theorem Qj {R:Result->Shared->Prop}{vs:List Value}{kw:List (Str × Value)}(X:K.In s.heap)(hm:W.makesIn K C=true)(hi:W.findIn K (.ref C) "__init__"=some (some (.ref f)))(hf:W.typeIn K (.ref f)=some (.type "function"))(h:codeAny (model prog w) (A.under (.builtin "type.__call__" ⟨.ref C :: vs,kw⟩)) (.call (.ref f) ⟨.ref (s.heap.objs.size+1) :: vs,kw⟩) (W.InitBack (s.heap.objs.size+1) R)
   { s with heap:=(s.heap.push W.emptyDict).push (W.instObj C s.heap.objs.size) }) :
  codeAny (model prog w) A (.call (.ref C) ⟨vs,kw⟩) R s:=by
 obtain⟨hh,g,d,t,os⟩:=s;exact W.make_core (W.makes_of X hm) (W.looks_findIn X hi) (fun self=>W.bind_fn X self hf) (.inl rfl) h
end
def dE (f:Str)(v:V):List (Str × V)->List (Str × V)
 | []=>[(f,v)]
 | (g,x) :: r=>if g=f then (g,v) :: r else (g,x) :: dE f v r
theorem bK (f g:Str)(v:V):∀fs:List (Str × V),(dE f v fs).lookup g=if g=f then some v else fs.lookup g
 | []=>by
  show List.lookup g [(f,v)]=_
  by_cases h:g=f
  ·have hb:(g == f)=true:=beq_iff_eq.mpr h;simp only[List.lookup,hb,if_pos h]
  ·have hb:(g == f)=false:=beq_eq_false_iff_ne.mpr h;simp only[List.lookup,hb,if_neg h]
 | (k,x) :: r=>by
  have ih:=bK f g v r;rw[show dE f v ((k,x) :: r)=(if k=f then (k,v) :: r else (k,x) :: dE f v r) from rfl]
  by_cases hk:k=f
  ·rw[if_pos hk]
   by_cases h:g=k
   ·have hb:(g == k)=true:=beq_iff_eq.mpr h;simp only[List.lookup,hb,if_pos (h.trans hk)]
   ·have hb:(g == k)=false:=beq_eq_false_iff_ne.mpr h;simp only[List.lookup,hb,if_neg (fun e:g=f=>h (e.trans hk.symm))]
  ·rw[if_neg hk]
   by_cases h:g=k
   ·have hb:(g == k)=true:=beq_iff_eq.mpr h;simp only[List.lookup,hb,if_neg (fun e:g=f=>hk (h.symm.trans e))]
   ·have hb:(g == k)=false:=beq_eq_false_iff_ne.mpr h;simp only[List.lookup,hb];exact ih
theorem pP (f:Str)(v:V):∀fs:List (Str × V),f∈(dE f v fs).map (·.1)/\∀g,g∈fs.map (·.1)->g∈(dE f v fs).map (·.1)
 | []=>⟨by simp[dE],fun g h=>by simp at h⟩
 | (k,x) :: r=>by
  obtain⟨i1,i2⟩:=pP f v r;rw[show dE f v ((k,x) :: r)=(if k=f then (k,v) :: r else (k,x) :: dE f v r) from rfl]
  by_cases hk:k=f
  ·rw[if_pos hk];subst hk;exact⟨by simp,fun g h=>by simpa using h⟩
  ·rw[if_neg hk];refine⟨?_,fun g h=>?_⟩
   ·rw[map_cons];exact mem_cons_of_mem _ i1
   ·rw[map_cons] at h ⊢;rcases mem_cons.mp h with e | e
    ·exact mem_cons.mpr (.inl e)
    ·exact mem_cons_of_mem _ (i2 g e)
theorem dD (f:Str)(v:V):∀fs:List (Str × V),(dE f v fs).length<=fs.length+1
 | []=>by simp[dE]
 | (k,x) :: r=>by
  have ih:=dD f v r;rw[show dE f v ((k,x) :: r)=(if k=f then (k,v) :: r else (k,x) :: dE f v r) from rfl]
  by_cases hk:k=f
  ·rw[if_pos hk,length_cons,length_cons];lia
  ·rw[if_neg hk,length_cons,length_cons];lia
theorem lB.some_of {v:V}{o:Option Value}(r:lB (some v) o):∃u,o=some u/\cE v u:=by
 cases o with
 |none=>exact(show False from r).elim
 |some u=>exact⟨u,rfl,r⟩
theorem lB.none_of {o:Option Value}(r:lB none o):o=none:=by
 cases o with
 |none=>rfl
 |some u=>exact(show False from r).elim
theorem Iv {v:V}{u:Value}(r:cE v u):W.handedIn u=true:=by
 cases v with
 |non=>cases (show u=Value.none from r);rfl
 |bl b=>cases (show u=Value.bool b from r);rfl
 |int i=>obtain⟨t,e⟩:=(show ∃t,u=Value.int i t from r);cases e;rfl
 |str x=>obtain⟨t,e⟩:=(show ∃t,u=Value.str x t from r);cases e;rfl
 |byt b=>obtain⟨t,e⟩:=(show ∃t,u=Value.bytes b t from r);cases e;rfl
 |flt b=>obtain⟨t,e⟩:=(show ∃t,u=Value.float b t from r);cases e;rfl
 |ref a=>cases (show u=Value.ref a from r);rfl
 |ty n=>cases (show u=Value.type n from r);rfl
section
variable {P:Program} {w:World} {H H':Hp} {h h':Heap} {a C dx:Addr} {fs fs':List (Str × V)}
theorem rM (hok:HOk P w H h)(e:H a=some (.ins C dx fs)):∃mA,Dy h a dx C mA/\(∀f,lB (fs.lookup f) (mA f))/\PySem.Within mA (fs.map (·.1))/\fs.length<=1000/\H dx=some (.own a):=by
 obtain⟨d,z,ne,ob,mA,n,r,q⟩:=(show dX P w H h a (.ins C dx fs) from hok a _ e)
 exact⟨mA,⟨ob,n,ne⟩,r,q,z,d⟩
end
structure Cls (K:Frag) (C:Addr):Prop where
 pg:W.plainGet K C Str.empty=true
 hd:W.hasDictIn K C=true
 po:W.plainOver K C=true
 sa:W.findIn K (.ref C) "__setattr__"=some (some (.builtin "object.__setattr__"))
theorem Cls.get {K:Frag}{C:Addr}(c:Cls K C)(f:Str):W.plainGet K C f=true:=c.pg
def gV (K:Frag)(C:Addr)(f:Str):Prop:=W.findIn K (.ref C) f=some none
theorem gV.taker {K:Frag}{C:Addr}{f:Str}(n:gV K C f):W.takerIn K C f=some none:=by
 unfold W.takerIn;rw[show W.findIn K (.ref C) f=some none from n];rfl
structure gE (K:Frag) (C:Addr) (m:Str) (f:Addr):Prop where
 at_:W.findIn K (.ref C) m=some (some (.ref f))
 fn:W.isFn K (.ref f)=true
 kp:W.keepIn K (.ref f)=true
section
variable {X:Cx} {pins:List (Addr × Obj)} {σ:St} {H:Hp} {s:Shared} {a C dx:Addr} {fs:List (Str × V)} {f:Str} {v:V} {A:Around} {E:Value->Shared->Prop}
theorem Eg {b:Bool}{Q:Value->Shared->Prop}(I:Inv X pins σ H s)(e:H a=some (.ins C dx fs))(c:Cls X.K C)(n:gV X.K C f)(l:fs.lookup f=some v)(h:∀u s',Inv X pins σ H s'->cE v u->Q u s'):wpAny (model X.prog X.w) A (getAttr (.ref a) f b) Q E s:=by
 obtain⟨mA,O,r,_,_,_⟩:=rM I.hok e;obtain⟨u,hu,ru⟩:=lB.some_of (v:=v) (o:=mA f) (by rw[<- l];exact r f);exact Tm I.kIn O (c.get f) c.hd n hu (Iv ru) (h u _ (I.tok _) ru)
theorem kH {m:Str}{g:Addr}{pl:Sem Bool}{Q:Value × List Value->Shared->Prop}(I:Inv X pins σ H s)(e:H a=some (.ins C dx fs))(c:Cls X.K C)(k:gE X.K C m g)(l:fs.lookup m=none)(h:Q (.ref g,[.ref a]) s):wpAny (model X.prog X.w) A (getMethod (.ref a) m pl) Q E s:=by
 obtain⟨mA,O,r,_,_,_⟩:=rM I.hok e;have hn:mA m=none:=lB.none_of (by rw[<- l];exact r m);exact Nq I.kIn O (c.get m) k.at_ k.fn hn h
theorem Cm {y:V}{u:Value}{Q:Unit->Shared->Prop}(I:Inv X pins σ H s)(e:H a=some (.ins C dx fs))(c:Cls X.K C)(n:gV X.K C f)(hl:fs.length < 1000)(ry:cE y u)(h:∀s',Inv X pins σ (upd H a (.ins C dx (dE f y fs))) s'->Q () s'):wpAny (model X.prog X.w) A (setAttr (.ref a) f u) Q E s:=by
 obtain⟨mA,O,r,wi,_,ho⟩:=rM I.hok e;have hz:(fs.map (·.1)).length<=sizeLine:=by rw[length_map,sizeLine_eq];lia
 refine Uo I.kIn O c.sa c.po n.taker c.hd wi hz fun h' O' sb=>h _ ?_;have hd:∃o,h'.get? dx=some o:=let ⟨o,_,_,e',_⟩:=O'.ns;⟨o,e'⟩
 refine I.write (x:=a) (e:=dx) (by rw[e];exact True.intro) (.inr ho) (fun b q hb z=>(sb.2 b hb).trans z) hd ?_;refine⟨by rw[aW O.ne];exact ho,?_,O.ne,O'.obj,_,O'.ns,fun g=>?_,fun g hg=>?_⟩
 ·have:=dD f y fs;lia
 ·show lB ((dE f y fs).lookup g) (if g=f then some u else mA g);rw[bK]
  by_cases q:g=f
  ·rw[if_pos q,if_pos q];exact ry
  ·rw[if_neg q,if_neg q];exact r g
 ·by_cases q:g=f
  ·rw[q];exact(pP f y fs).1
  ·refine(pP f y fs).2 g (wi g fun z=>hg ?_);show (if g=f then some u else mA g)=none;rw[if_neg q];exact z
theorem Inv.made (I:Inv X pins σ H s):Inv X pins σ (upd (upd H s.heap.objs.size (.own (s.heap.objs.size+1))) (s.heap.objs.size+1) (.ins C s.heap.objs.size []))
  { s with heap:=(s.heap.push W.emptyDict).push (W.instObj C s.heap.objs.size) }:=by
 have e1:(s.heap.push W.emptyDict).get? s.heap.objs.size=some W.emptyDict:=Heap.get?_push_size s.heap rfl;have e2:((s.heap.push W.emptyDict).push (W.instObj C s.heap.objs.size)).get? (s.heap.objs.size+1)=some (W.instObj C s.heap.objs.size):=by
  have:=Heap.get?_push_size (s.heap.push W.emptyDict) (o:=W.instObj C s.heap.objs.size) rfl
  rwa [Heap.size_push] at this
 have e3:(s.heap.push W.emptyDict).Ns s.heap.objs.size (fun _=>none):=⟨W.emptyDict,#[],_,e1,rfl,(fun e he=>absurd he (by simp)),fun _=>rfl⟩
 have I1:=I.laid (a:=s.heap.objs.size) (o:=.own (s.heap.objs.size+1)) (h':=s.heap.push W.emptyDict) (t':=s.toks) (fun b u q=>Heap.get?_push_of_some _ q) (Nat.le_refl _) ⟨_,e1⟩;refine I1.laid (a:=s.heap.objs.size+1) (o:=.ins C s.heap.objs.size []) (t':=s.toks) (fun b u q=>Heap.get?_push_of_some _ q) (Nat.le_of_eq (Heap.size_push _ _)) ?_;have ne:s.heap.objs.size≠s.heap.objs.size+1:=Nat.ne_of_lt (Nat.lt_succ_self _);refine⟨by rw[aW ne,aE],Nat.zero_le _,ne,e2,fun _=>none,(Heap.Ns1.of_empty e3).at fun o q=>Heap.get?_push_of_some _ q,fun _=>True.intro,fun y hy=>absurd rfl hy⟩
theorem Tz {prog:Program}{w:World}{env:Env}{e:Expr}{f:Str}{pos:Pos}{s:Shared}{Q:Value->Shared->Prop}(hb:attributeBase e f env (eval e env)=eval e env)(h:wpAny (model prog w) A (eval e env) (fun o s₁=>wpAny (model prog w) A (getAttr o f true) Q E s₁) E s):wpAny (model prog w) A (eval (.Attribute e f pos) env) Q E s:=
 Attribute_any_ h (by rw[arm_eval_Attribute,hb])
end
def qc0 (K:Frag)(ta:TE)(f:Str):TE:=fun σ H Q=>ta σ H fun x H1=>∃a C dx fs v,x=.ref a/\H1 a=some (.ins C dx fs)/\Cls K C/\gV K C f/\fs.lookup f=some v/\Q v H1
def qj8 (K:Frag)(ta tv:TE)(f:Str):TS:=fun D σ H=>tv σ H fun y H1=>ta σ H1 fun x H2=>∃a C dx fs,x=.ref a/\H2 a=some (.ins C dx fs)/\Cls K C/\gV K C f/\fs.length < 1000/\
 D.nx σ (upd H2 a (.ins C dx (dE f y fs)))
section
variable {X:Cx} {o e value:Expr} {f:Str} {pos pos' tpos:Pos} {ta tv:TE}
theorem bU (he:PE X e ta)(hb:attributeBase e f X.env (eval e X.env)=eval e X.env):PE X (.Attribute e f pos) (qc0 X.K ta f):=by
 intro pins s σ H Q I h;refine Tz hb (thn (he pins s σ H _ I h) fun u s1 ⟨x,H1,I1,rx,a,C,dx,fs,v,ex,ea,c,n,l,q⟩=>?_);subst ex;obtain rfl:u=Value.ref a:=rx;exact Eg I1 ea c n l fun u' s2 I2 ru=>⟨v,H1,I2,ru,q⟩
theorem kL (ha:PE X o ta)(hv:PE X value tv)(hs:swapsWith value (some (.Attribute o f pos')) pos.line X.env=pure false):PS X (.Assign [.Attribute o f pos'] value pos) (qj8 X.K ta tv f):=by
 intro pins s σ H D I h;refine plainObj_wpAny_Assign_Attribute (thn (hv pins s σ H _ I h) fun u s1 ⟨y,H1,I1,ry,q⟩=>thn (ha pins s1 σ H1 _ I1 q) fun ov s2 ⟨x,H2,I2,rx,a,C,dx,fs,ex,ea,c,n,l,q2⟩=>?_) hs;subst ex;obtain rfl:ov=Value.ref a:=rx;exact Cm I2 ea c n l ry fun s3 I3=>⟨σ,_,I3,q2⟩
end
section
variable {X:Cx} {pins:List (Addr × Obj)} {σ:St} {H:Hp} {s:Shared} {A:Around} {E:Value->Shared->Prop} {Q:Value->Shared->Prop} {c:Value} {b:Bool}
inductive mY (K:Frag) (H:Hp):V->Value->Prop where
 |non:mY K H .non (.type "NoneType")
 |bl (x:Bool):mY K H (.bl x) (.type "bool")
 |int (i:Int):mY K H (.int i) (.type "int")
 |str (x:Str):mY K H (.str x) (.type "str")
 |flt (x:UInt64):mY K H (.flt x) (.type "float")
 |lst {a:Addr} {xs:List V} (e:H a=some (.lst xs)):mY K H (.ref a) (.type "list")
 |frz {a:Addr} {o:Obj} {xs:List V} (e:H a=some (.frz o (.lst xs))):mY K H (.ref a) (.type "list")
 |tup {a:Addr} {xs:List V} (e:H a=some (.tup xs)):mY K H (.ref a) (.type "tuple")
 |dK {a:Addr} {kvs:List (Key × V)} (e:H a=some (.dK kvs)):mY K H (.ref a) (.type "dict")
 |dT {a:Addr} {kvs:List (List Key × V)} (e:H a=some (.dT kvs)):mY K H (.ref a) (.type "dict")
 |ins {a C dx:Addr} {fs:List (Str × V)} (e:H a=some (.ins C dx fs)) (cl:Cls K C) (ha:W.findIn K (.ref C) "__class__"=some (some (.builtin "object.__class__")))
   (hn:W.specialIn K (.builtin "object.__class__") "__get__"=some (some (.builtin "getset_descriptor.__get__"))) (htk:W.takesIn K (.builtin "object.__class__")=some true)
   (hm:W.mroIn K C (.type "object")=some true):mY K H (.ref a) (.ref C)
theorem Ic {x:V}{u t:Value}(I:Inv X pins σ H s)(rx:cE x u)(ty:mY X.K H x t)(e:W.kitOne X.K t c=some b)(h:∀tk,Q (.bool b) { s with toks:=tk }) :
  wpAny (model X.prog X.w) A (call (.builtin "isinstance") [u,c]) Q E s:=by
 cases ty with
 |non=>cases (show u=Value.none from rx);exact W.kia_one W.kitx_none I.kIn True.intro e (fun z=>nomatch z) h
 |bl y=>cases (show u=Value.bool y from rx);exact W.kia_one W.kitx_bool I.kIn True.intro e (fun z=>nomatch z) h
 |int i=>obtain⟨t,q⟩:=(show ∃t,u=Value.int i t from rx);cases q;exact W.kia_one W.kitx_int I.kIn True.intro e (fun z=>nomatch z) h
 |str y=>obtain⟨t,q⟩:=(show ∃t,u=Value.str y t from rx);cases q;exact W.kia_one W.kitx_str I.kIn True.intro e (fun z=>nomatch z) h
 |flt y=>obtain⟨t,q⟩:=(show ∃t,u=Value.float y t from rx);cases q;exact W.kia_one W.kitx_float I.kIn True.intro e (fun z=>nomatch z) h
 | @lst a xs ea=>
  cases (show u=Value.ref a from rx)
  obtain⟨_,_,n,_,h1⟩:=(show dX X.prog X.w H s.heap a (.lst xs) from I.hok a _ ea)
  exact W.kia_one W.kitx_list I.kIn ⟨_,h1,rfl⟩ e (fun z=>nomatch z) h
 | @frz a ob xs ea=>
  cases (show u=Value.ref a from rx)
  obtain⟨_,_,_,n,_,h1⟩:=(show dX X.prog X.w H s.heap a (.frz ob (.lst xs)) from I.hok a _ ea)
  exact W.kia_one W.kitx_list I.kIn ⟨_,h1,rfl⟩ e (fun z=>nomatch z) h
 | @tup a xs ea=>
  cases (show u=Value.ref a from rx)
  obtain⟨_,_,_,p⟩:=(show dX X.prog X.w H s.heap a (.tup xs) from I.hok a _ ea)
  obtain⟨o,h1,h2,_⟩:=p;exact W.kia_one W.kitx_tuple I.kIn ⟨o,h1,h2⟩ e (fun z=>nomatch z) h
 | @dK a kvs ea=>
  cases (show u=Value.ref a from rx)
  obtain⟨_,_,vs,_,p⟩:=(show dX X.prog X.w H s.heap a (.dK kvs) from I.hok a _ ea)
  obtain⟨o,es,ep,h1,h2,_⟩:=p;exact W.kia_one W.kitx_dict I.kIn ⟨o,h1,h2.1⟩ e (fun z=>nomatch z) h
 | @dT a kvs ea=>
  cases (show u=Value.ref a from rx)
  obtain⟨_,_,xs,_,o,es,ep,h1,h2,_⟩:=(show dX X.prog X.w H s.heap a (.dT kvs) from I.hok a _ ea)
  exact W.kia_one W.kitx_dict I.kIn ⟨o,h1,h2.1⟩ e (fun z=>nomatch z) h
 | @ins a C dx fs ea cl ha hn htk hm=>
  cases (show u=Value.ref a from rx)
  obtain⟨mA,O,_⟩:=rM I.hok ea;obtain⟨od,J,_⟩:=O.look;exact W.kia_one (W.kitx_own (cl.get _) cl.hd ha hn htk hm) I.kIn J e (fun z=>nomatch z) h
end
structure gX (k:Nat) (A:Around):Prop where
 hd:A.handled=none
 dp:A.depth+3*k+5 < recursionLimit
 un:A.units+16*k+200 < cLine
theorem gX.mono {j k:Nat}{A:Around}(r:gX k A)(h:j<=k):gX j A:=⟨r.hd,by have:=r.dp;lia,by have:=r.un;lia⟩
theorem gX.deeper {k:Nat}{A:Around}(r:gX (k+1) A)(env:Env):gX k (A.deeper env):=
 ⟨r.hd,by have:=r.dp;show A.depth+1+3*k+5 < _;lia,by have:=r.un;show A.units+3+16*k+200 < _;lia⟩
theorem Ds {A:Around}{C:Addr}{us:List Value}{kw:List (Str × Value)}:(A.under (.builtin "type.__call__" ⟨.ref C :: us,kw⟩)).depth=A.depth+1:=by
 first | rfl | simp[Around.under,Code.weight,Code.isCreation,Code.isGuard,Code.isCaller,Code.frames,Code.isFrame,guardIds]
theorem Es {A:Around}{C:Addr}{us:List Value}{kw:List (Str × Value)}:(A.under (.builtin "type.__call__" ⟨.ref C :: us,kw⟩)).units=A.units+1:=by
 first | rfl | simp[Around.under,Code.cUnits,Code.frames,Code.isFrame]
theorem gX.make {k:Nat}{A:Around}(r:gX (k+1) A)(C:Addr)(us:List Value)(kw:List (Str × Value)):gX k (A.under (.builtin "type.__call__" ⟨.ref C :: us,kw⟩)):=
 ⟨r.hd,by have:=r.dp;rw[Ds];lia,by have:=r.un;rw[Es];lia⟩
theorem gX.depth {k:Nat}{A:Around}(r:gX k A):A.depth < recursionLimit:=by have:=r.dp;lia
theorem gX.units {k:Nat}{A:Around}(r:gX k A):A.units+64 < cLine:=by have:=r.un;lia
def Yt:TA:=fun _ H Q=>Q [] H
def Zy (ta:TE)(tr:TA):TA:=fun σ H Q=>ta σ H fun x H1=>tr σ H1 fun xs H2=>Q (x :: xs) H2
section
variable {X:Cx} {e:Expr} {es:List Expr} {te:TE} {t:TA} {pos:Pos}
theorem aB:PA X [] Yt:=fun _ _ _ _ H Q I h=>Calls.spliced_nil ⟨[],H,I,.nil,h⟩
theorem aA (ha:PE X e te)(hr:PA X es t)(hs:starEach (e :: es) X.env=(false,eval e X.env) :: starEach es X.env:=by rfl):PA X (e :: es) (Zy te t):=by
 intro pos pins s σ H Q I h;rw[hs];show wpAny _ _ (spliced ((false,eval e X.env) :: backTo pos (starEach es X.env))) _ _ s;refine Calls.spliced_cons (thn (ha pins s σ H _ I h) fun u s1 ⟨x,H1,I1,r1,q1⟩=>?_);exact thn (hr pos pins s1 σ H1 _ I1 q1) fun us s2 ⟨xs,H2,I2,r2,q2⟩=>⟨x :: xs,H2,I2,.cons r1 r2,q2⟩
def qh0 (t:TA):TE:=fun σ H Q=>t σ H fun xs H1=>xs.length<=sizeLine/\∀p,H1 p=none->Q (.ref p) (upd H1 p (.tup xs))
def qg5 (t:TA):TE:=fun σ H Q=>t σ H fun xs H1=>xs.length<=sizeLine/\∀p,H1 p=none->Q (.ref p) (upd H1 p (.lst xs))
theorem dP {x1}(h:PA X es t):PE X (.Tuple es x1 pos) (qh0 t):=by
 intro pins s σ H Q I hq;refine wpAny_Tuple_spliced (thn (h pos pins s σ H _ I hq) fun us s1 ⟨xs,H1,I1,r,z,q⟩=>⟨by rw[<- r.length];exact z,?_⟩);have hf:H1 s1.heap.objs.size=none:=I1.hok.fresh (Nat.le_refl _);refine⟨.ref s1.heap.objs.size,upd H1 s1.heap.objs.size (.tup xs),I1.laid (t':=s1.toks) (fun b u e=>Heap.get?_push_of_some _ e) (Nat.le_refl _) ?_,rfl,q _ hf⟩;exact⟨z,us,r,⟨_,Heap.get?_push_size _ rfl,rfl,_,rfl⟩⟩
theorem dH (h:PA X es t):PE X (.List es pos) (qg5 t):=by
 intro pins s σ H Q I hq;refine wpAny_List_spliced (thn (h pos pins s σ H _ I hq) fun us s1 ⟨xs,H1,I1,r,z,q⟩=>⟨by rw[<- r.length];exact z,?_⟩);have hf:H1 s1.heap.objs.size=none:=I1.hok.fresh (Nat.le_refl _);refine⟨.ref s1.heap.objs.size,upd H1 s1.heap.objs.size (.lst xs),I1.laid (t':=s1.toks) (fun b u e=>Heap.get?_push_of_some _ e) (Nat.le_refl _) ?_,rfl,q _ hf⟩;exact⟨z,us,0,r,Heap.get?_push_size _ rfl⟩
end
abbrev Sp:=List V->Hp->VK->XK->Prop
abbrev CXT:=List Env->Hp->Shared->XK->Value->Shared->Prop
structure Dc (P:Program) (w:World) (K:Frag) (mg:Str->Option Value) (base:Heap) (A:Around) (outer:List Env) (s:Shared) (H:Hp):Prop where
 frames:A.frames=some outer
 mod:Mod K mg base
 bs:∀b o,base.get? b=some o->s.heap.get? b=some o/\H b=none
 bsz:base.objs.size<=s.heap.objs.size
 funs:s.heap.FunFrames base outer
 frf:∀b∈frs outer,H b=none
 hok:HOk P w H s.heap
 bare:AllBare s.gens
def CE (outer:List Env)(P:Program)(w:World)(H:Hp)(s:Shared)(Q:VK)(u:Value)(s':Shared):Prop:=
 ∃v H',s'.os=s.os/\AllBare s'.gens/\Un (frs outer) [] H H' s.heap s'.heap/\HOk P w H' s'.heap/\cE v u/\Q v H'
def CR (CX:CXT)(outer:List Env)(P:Program)(w:World)(H:Hp)(s:Shared)(Q:VK)(E:XK)(r:Result)(s':Shared):Prop:=
 match r with
 | .ok (.ret u)=>CE outer P w H s Q u s'
 | .ok _=>False
 | .error e=>CX outer H s E e s'
structure aL (P:Program) (w:World) (K:Frag) (mg:Str->Option Value) (base:Heap) (CX:CXT) (k:Nat) (f:Addr) (fd:FuncData) (ps:List Str) (sp:Sp):Prop where
 len:∀vs H Q E,sp vs H Q E->vs.length=ps.length
 run:∀(A:Around) (outer:List Env) (s:Shared) (H:Hp) (args:Args) (us:List Value) (vs:List V) (Q:VK) (E:XK),gX k A->Dc P w K mg base A outer s H->BindsTo s fd args (ps.zip us)->bZ vs us->sp vs H Q E->
  codeAny (model P w) A (.call (.ref f) args) (CR CX outer P w H s Q E) s
theorem Dc.make {P:Program}{w:World}{K:Frag}{mg:Str->Option Value}{base:Heap}{A:Around}{outer:List Env}{s:Shared}{H:Hp}(e:Dc P w K mg base A outer s H)(C:Addr)(us:List Value)(kw:List (Str × Value)) :
  Dc P w K mg base (A.under (.builtin "type.__call__" ⟨.ref C :: us,kw⟩)) outer s H:=⟨by first | exact e.frames | (simpa[Around.under,Code.envs,Code.isFrame,pushEnvs] using e.frames),e.mod,e.bs,e.bsz,e.funs,e.frf,e.hok,e.bare⟩
section
variable {X:Cx} {pins:List (Addr × Obj)} {σ:St} {H:Hp} {s s':Shared}
theorem Inv.env0 (I:Inv X pins σ H s):Dc X.prog X.w X.K X.mg X.base X.A X.stack s H:=
 ⟨I.ok.frames,I.ok.mod,I.bs,Nat.le_trans I.ok.bsz I.sz,I.stack,I.stkFree,I.hok,I.bare⟩
theorem Inv.after {Q:VK}{u:Value}(I:Inv X pins σ H s)(h:CE X.stack X.prog X.w H s Q u s'):EP X pins σ Q u s':=by
 obtain⟨v,H',os,bare,un,hok,r,q⟩:=h;obtain⟨hh,g,d,t,os'⟩:=s';obtain rfl:os'=s.os:=os;exact⟨v,H',I.call (h':=hh) (g':=g) (d':=d) (t':=t) (ch:=[]) un hok bare (fun b z=>absurd z (by simp)),r,q⟩
end
def qc1 (sp:Sp)(dvs:List V)(E:XK)(t:TA):TE:=fun σ H Q=>t σ H fun vs H1=>sp (vs++dvs) H1 Q E
def Vy (C:Addr)(m:Str)(sp:Sp)(dvs:List V)(E:XK)(ta:TE)(t:TA):TE:=fun σ H Q=>ta σ H fun x H1=>∃a dx fs,x=.ref a/\H1 a=some (.ins C dx fs)/\fs.lookup m=none/\
 t σ H1 fun vs H2=>sp (x :: (vs++dvs)) H2 Q E
def qd2 (C:Addr)(sp:Sp)(dvs:List V)(E:XK)(t:TA):TE:=fun σ H Q=>t σ H fun vs H1=>∀x dx,H1 x=none->H1 dx=none->dx≠x->
 sp (.ref x :: (vs++dvs)) (upd (upd H1 dx (.own x)) x (.ins C dx [])) (fun v H2=>v=.non/\Q (.ref x) H2) E
def aM (K:Frag)(fd:FuncData)(ps:List Str)(ds:List Value):Prop:=
 ∀(s:Shared) (us:List Value),K.In s.heap->(us++ds).length=ps.length->BindsTo s fd ⟨us,[]⟩ (ps.zip (us++ds))
theorem aM.all {K:Frag}{fd:FuncData}{ps:List Str}(h:∀us:List Value,us.length=ps.length->bindArgs fd ⟨us,[]⟩=pure (ps.zip us)):aM K fd ps []:=fun s us _ hl=>by
 rw[append_nil] at hl ⊢;exact .of_eq (h us hl)
def kI (CX:CXT)(X:Cx)(E:XK):Prop:=∀(pins:List (Addr × Obj)) (σ:St) (H:Hp) (s:Shared) (e:Value) (s':Shared),Inv X pins σ H s->CX X.stack H s E e s'->X.xe e s'
section
variable {X:Cx} {CX:CXT} {k:Nat} {f C:Addr} {fd:FuncData} {ps:List Str} {sp:Sp} {dvs:List V} {ds:List Value} {E:XK} {x m:Str} {p pos apos:Pos} {e o:Expr} {es:List Expr} {ta:TE} {t:TA}
theorem sY {pins:List (Addr × Obj)}{σ:St}{H:Hp}{s:Shared}{Q:VK}{us:List Value}{vs:List V}(F:aL X.prog X.w X.K X.mg X.base CX k f fd ps sp)(hr:gX k X.A)(hb:aM X.K fd ps ds)(hd:bZ dvs ds)(hx:kI CX X E)(I:Inv X pins σ H s)(r:bZ vs us)(h:sp (vs++dvs) H Q E):wpAny (model X.prog X.w) X.A (call (.ref f) us) (EP X pins σ Q) X.xe s:=by
 have r2:bZ (vs++dvs) (us++ds):=r.append hd;have hl:(us++ds).length=ps.length:=by rw[<- r2.length];exact F.len _ _ _ _ h
 refine wpAny_call (codeAny_mono (F.run X.A X.stack s H ⟨us,[]⟩ (us++ds) (vs++dvs) Q E hr I.env0 (hb s us I.kIn hl) r2 h) fun r s' hq=>?_)
 cases r with
 |error e=>exact hx pins σ H s e s' I hq
 |ok fl=>
  cases fl with
  |ret u=>exact I.after hq
  |next=>exact False.elim hq
  |brk=>exact False.elim hq
  |cont=>exact False.elim hq
theorem aG (F:aL X.prog X.w X.K X.mg X.base CX k f fd ps sp)(hr:gX k X.A)(hg:Gl X x)(hm:X.mg x=some (.ref f))(hk:W.keepIn X.K (.ref f)=true)(hb:aM X.K fd ps ds)(hd:bZ dvs ds)(hx:kI CX X E)(ha:PA X (e :: es) t)(hdb:(x == ("__debug__":Str))=false:=by decide)(he:starEach (e :: es) X.env=(false,eval e X.env) :: starEach es X.env:=by rfl)(hpl:(backTo pos (starEach es X.env)).any (·.1)=false:=by rfl) :
  PE X (.Call (.Name x p) (e :: es) [] pos) (qc1 sp dvs E t):=by
 intro pins s σ H Q I h;refine wpAny_Call_Name_kw (yB I hg hm ?_ hdb);refine W.callWith_K (h₀:=X.base) I.ok.mod.kin hk (thn (ha pos pins s σ H _ I h) fun us s1 ⟨vs,H1,I1,r,q⟩=>⟨I1.kIn,?_⟩) he hpl;exact sY F hr hb hd hx I1 r q
theorem Gj {pl:Sem Bool}(he:PE X o ta)(c:Cls X.K C)(hm:gE X.K C m f)(F:aL X.prog X.w X.K X.mg X.base CX k f fd ps sp)(hr:gX k X.A)(hb:aM X.K fd ps ds)(hd:bZ dvs ds)(hx:kI CX X E)(ha:PA X (e :: es) t)(hst:starEach (e :: es) X.env=(false,eval e X.env) :: starEach es X.env:=by rfl)(hpl:(backTo pos (starEach es X.env)).any (·.1)=false:=by rfl)(ht:eval (.Call (.Attribute o m apos) (e :: es) [] pos) X.env=(do
   let ov <- eval o X.env
   standAt apos.atName
   let (f,first) <- holding [ov] (getMethod ov m pl)
   callWith pos f first (backTo pos (starEach (e :: es) X.env)) (backToKw pos (keywordEach [] X.env))):=by rfl) :
  PE X (.Call (.Attribute o m apos) (e :: es) [] pos) (Vy C m sp dvs E ta t):=by
 intro pins s σ H Q I h;refine W.methodCall_KW (pl:=pl) (thn (he pins s σ H _ I h) fun u s1 ⟨x,H1,I1,rx,a,dx,fs,ex,ea,l,q⟩=>?_) ht;subst ex;obtain rfl:u=Value.ref a:=rx;refine kH I1 ea c hm l ?_;refine W.callWith_K (first:=[.ref a]) (h₀:=X.base) I.ok.mod.kin hm.kp (thn (ha pos pins s1 σ H1 _ I1 q) fun us s2 ⟨vs,H2,I2,r,q2⟩=>⟨I2.kIn,?_⟩) hst hpl;exact sY (us:=.ref a :: us) (vs:=.ref a :: vs) F hr hb hd hx I2 (.cons rfl r) q2
theorem fE {pl:Sem Bool}(he:PE X o ta)(c:Cls X.K C)(hm:gE X.K C m f)(F:aL X.prog X.w X.K X.mg X.base CX k f fd ps sp)(hr:gX k X.A)(hb:aM X.K fd ps ds)(hd:bZ dvs ds)(hx:kI CX X E)(ht:eval (.Call (.Attribute o m apos) [] [] pos) X.env=(do
   let ov <- eval o X.env
   standAt apos.atName
   let (f,first) <- holding [ov] (getMethod ov m pl)
   callWith pos f first (backTo pos (starEach [] X.env)) (backToKw pos (keywordEach [] X.env))):=by rfl) :
  PE X (.Call (.Attribute o m apos) [] [] pos) (Vy C m sp dvs E ta Yt):=by
 intro pins s σ H Q I h;refine W.methodCall_KW (pl:=pl) (thn (he pins s σ H _ I h) fun u s1 ⟨x,H1,I1,rx,a,dx,fs,ex,ea,l,q⟩=>?_) ht;subst ex;obtain rfl:u=Value.ref a:=rx;refine kH I1 ea c hm l ?_;exact W.callWith_K0 (first:=[.ref a]) I1.kIn hm.kp (sY (us:=[.ref a]) (vs:=[.ref a]) F hr hb hd hx I1 (.cons rfl .nil) q)
structure Mk (K:Frag) (C f:Addr):Prop where
 makes:W.makesIn K C=true
 init:W.findIn K (.ref C) "__init__"=some (some (.ref f))
 fn:W.isFn K (.ref f)=true
 kp:W.keepIn K (.ref C)=true
theorem Pn {pins:List (Addr × Obj)}{σ:St}{H:Hp}{s:Shared}{Q:VK}{us:List Value}{vs:List V}(M:Mk X.K C f)(F:aL X.prog X.w X.K X.mg X.base CX k f fd ps sp)(hr:gX (k+1) X.A)(hb:aM X.K fd ps ds)(hd:bZ dvs ds)(hx:kI CX X E)(I:Inv X pins σ H s)(r:bZ vs us)(h:∀x dx,H x=none->H dx=none->dx≠x->sp (.ref x :: (vs++dvs)) (upd (upd H dx (.own x)) x (.ins C dx [])) (fun v H2=>v=.non/\Q (.ref x) H2) E) :
  wpAny (model X.prog X.w) X.A (call (.ref C) us) (EP X pins σ Q) X.xe s:=by
 have hq:=h (s.heap.objs.size+1) s.heap.objs.size (I.hok.fresh (Nat.le_succ _)) (I.hok.fresh (Nat.le_refl _)) (Nat.ne_of_lt (Nat.lt_succ_self _));have I2:=Inv.made (C:=C) I;have r2:bZ (V.ref (s.heap.objs.size+1) :: (vs++dvs)) (Value.ref (s.heap.objs.size+1) :: (us++ds)):=.cons rfl (r.append hd);have hl:(Value.ref (s.heap.objs.size+1) :: us++ds).length=ps.length:=by
  have e:=r2.length;rw[F.len _ _ _ _ hq] at e;exact e.symm
 refine wpAny_call (Qj (f:=f) I.kIn M.makes M.init (beq_iff_eq.mp M.fn) (codeAny_mono (F.run _ X.stack _ _ ⟨Value.ref (s.heap.objs.size+1) :: us,[]⟩ (Value.ref (s.heap.objs.size+1) :: (us++ds)) _ _ E (hr.make C us [])
  (I2.env0.make C us []) (hb _ (Value.ref (s.heap.objs.size+1) :: us) I2.kIn hl) r2 hq) fun r s' hq'=>?_))
 cases r with
 |error e=>exact hx pins σ _ _ e s' I2 hq'
 |ok fl=>
  cases fl with
  |ret u=>
   obtain⟨v,H',I3,rv,ev,q3⟩:=I2.after hq';subst ev;exact⟨rv,⟨V.ref (s.heap.objs.size+1),H',I3,rfl,q3⟩⟩
  |next=>exact False.elim hq'
  |brk=>exact False.elim hq'
  |cont=>exact False.elim hq'
theorem mF (M:Mk X.K C f)(F:aL X.prog X.w X.K X.mg X.base CX k f fd ps sp)(hr:gX (k+1) X.A)(hg:Gl X x)(hm:X.mg x=some (.ref C))(hb:aM X.K fd ps ds)(hd:bZ dvs ds)(hx:kI CX X E)(ha:PA X (e :: es) t)(hdb:(x == ("__debug__":Str))=false:=by decide)(he:starEach (e :: es) X.env=(false,eval e X.env) :: starEach es X.env:=by rfl)(hpl:(backTo pos (starEach es X.env)).any (·.1)=false:=by rfl) :
  PE X (.Call (.Name x p) (e :: es) [] pos) (qd2 C sp dvs E t):=by
 intro pins s σ H Q I h;refine wpAny_Call_Name_kw (yB I hg hm ?_ hdb);refine W.callWith_K (h₀:=X.base) I.ok.mod.kin M.kp (thn (ha pos pins s σ H _ I h) fun us s1 ⟨vs,H1,I1,r,q⟩=>⟨I1.kIn,?_⟩) he hpl;exact Pn M F hr hb hd hx I1 r q
end
structure aP (N P:List Str) (sc:Scope):Prop where
 kind:sc.kind=.function
 co:sc.isCoroutine=false
 gen:sc.isGenerator=false
 nd:N.Nodup
 pre:N.take P.length=P
 par:∀x∈P,sc.names.lookup x=some .local\/sc.names.lookup x=some .cell
 nofree:∀y∈sc.names,y.2≠.free
theorem sK9 {N P:List Str}{sc:Scope}(a:sc.kind=.function)(b:sc.isCoroutine=false)(c:sc.isGenerator=false)(d:N.take P.length=P)(e:(decide N.Nodup&&decide (∀x∈P,sc.names.lookup x=some .local\/sc.names.lookup x=some .cell)&&decide (∀y∈sc.names,y.2≠.free))=true):aP N P sc:=by
 rw[Bool.and_eq_true,Bool.and_eq_true] at e
 exact ⟨a,b,c,of_decide_eq_true e.1.1,d,of_decide_eq_true e.1.2,of_decide_eq_true e.2⟩
theorem zl9 (n:Nat)(h:n<=16:=by decide):n<=sizeLine:=Nat.le_trans h (by decide)
abbrev kI9 (K:Frag)(g:Addr):Prop:=W.keepIn K (.ref g)=true
abbrev mI9 (mg:Str->Option Value)(x:Str)(g:Addr):Prop:=mg x=some (.ref g)
theorem vS {kindOf:Str->Option NameKind}{x:Str}:∀{binds:List (Str × Value)} {m:Str->Option Value},(∀v,(x,v)∉binds)->bindL kindOf binds m x=m x
 | [],_,_=>rfl
 | (n,v) :: r,m,h=>by
  unfold bindL;rw[vS fun w hw=>h w (mem_cons_of_mem _ hw)];split
  ·have:x≠n:=by rintro rfl;exact h v mem_cons_self
   simp[this]
  ·rfl
theorem wQ {kindOf:Str->Option NameKind}{x:Str}:∀{binds:List (Str × Value)} {m:Str->Option Value},(∀v,(x,v)∉binds)->bindC kindOf binds m x=m x
 | [],_,_=>rfl
 | (n,v) :: r,m,h=>by
  unfold bindC;rw[wQ fun w hw=>h w (mem_cons_of_mem _ hw)];split
  ·rfl
  ·have:x≠n:=by rintro rfl;exact h v mem_cons_self
   simp[this]
theorem wM {kindOf:Str->Option NameKind}{x:Str}{v:Value}:∀{P:List Str} {vs:List Value} {i:Nat} {m:Str->Option Value},P.Nodup->P[i]?=some x->vs[i]?=some v->kindOf x=some .local->
  bindL kindOf (P.zip vs) m x=some v
 | [],_,_,_,_,h,_,_=>by simp at h
 |_ :: _,[],_,_,_,_,h,_=>by simp at h
 |p :: P,w :: vs,0,m,nd,h1,h2,hk=>by
  simp at h1 h2;subst h1;subst h2;show bindL kindOf ((p,w) :: P.zip vs) m p=_;unfold bindL;rw[vS fun v hv=>(nodup_cons.mp nd).1 (of_mem_zip hv).1,if_pos hk];simp
 |p :: P,w :: vs,i+1,m,nd,h1,h2,hk=>by
  show bindL kindOf ((p,w) :: P.zip vs) m x=_;unfold bindL;exact wM (i:=i) (nodup_cons.mp nd).2 (by simpa using h1) (by simpa using h2) hk
theorem vV {kindOf:Str->Option NameKind}{x:Str}{v:Value}:∀{P:List Str} {vs:List Value} {i:Nat} {m:Str->Option Value},P.Nodup->P[i]?=some x->vs[i]?=some v->kindOf x≠some .local->
  bindC kindOf (P.zip vs) m x=some v
 | [],_,_,_,_,h,_,_=>by simp at h
 |_ :: _,[],_,_,_,_,h,_=>by simp at h
 |p :: P,w :: vs,0,m,nd,h1,h2,hk=>by
  simp at h1 h2;subst h1;subst h2;show bindC kindOf ((p,w) :: P.zip vs) m p=_;unfold bindC;rw[wQ fun v hv=>(nodup_cons.mp nd).1 (of_mem_zip hv).1,if_neg hk];simp
 |p :: P,w :: vs,i+1,m,nd,h1,h2,hk=>by
  show bindC kindOf ((p,w) :: P.zip vs) m x=_;unfold bindC;exact vV (i:=i) (nodup_cons.mp nd).2 (by simpa using h1) (by simpa using h2) hk
def start (N:List Str)(vs:List V):St:=vs.map some++replicate (N.length - vs.length) none
def Ei (CX:CXT)(P:Program)(w:World)(K:Frag)(mg:Str->Option Value)(base:Heap)(N:List Str)(qual:Str)(scope:Scope)(f:Addr)(cd:Value)(A:Around)(outer:List Env)(s:Shared)(H:Hp)(E:XK):Cx where
 prog:=P
 w:=w
 K:=K
 mg:=mg
 base:=base
 A:=A.deeper (envOfC qual scope s.heap.objs.size f cd)
 N:=N
 s₀:=s
 H₀:=H
 env:=envOfC qual scope s.heap.objs.size f cd
 outer:=outer
 stack:=envOfC qual scope s.heap.objs.size f cd :: outer
 ex:=[]
 calm:=true
 fn:=fun _=>true
 pn:=[]
 xe:=fun e s'=>wpAny (model P w) (A.deeper (envOfC qual scope s.heap.objs.size f cd)) (leaving (envOfC qual scope s.heap.objs.size f cd) e) (fun _ s''=>CX outer H s E e s'') (fun e' s''=>CX outer H s E e' s'') s'
theorem Ae {sc:Scope}{n:Nat}{x:Str}(h:sc.names.lookup x=some .cell):∃c,(cellsFrom n sc.names []).lookup x=some c:=by
 have q:=W.cellsFrom_some sc.names n [] (.inl h);exact Option.isSome_iff_exists.mp q
theorem Kk {CX:CXT}{P:Program}{w:World}{K:Frag}{mg:Str->Option Value}{base:Heap}{N ps:List Str}{qual:Str}{scope:Scope}{f:Addr}{cd:Value}{A:Around}{outer:List Env}{s s1:Shared}{H:Hp}{E:XK}{us:List Value}{vs:List V}(S:aP N ps scope)(hd:A.handled=none)(e0:Dc P w K mg base A outer s H)(hl:vs.length=ps.length)(r:bZ vs us)(x:InCallC s s.heap.objs.size (bindL (envOfC qual scope s.heap.objs.size f cd).kindOf (ps.zip us) fun _=>none) (cellsFrom (s.heap.objs.size+1) scope.names []) (bindC (envOfC qual scope s.heap.objs.size f cd).kindOf (ps.zip us) fun _=>none) s1) :
  Inv (Ei CX P w K mg base N qual scope f cd A outer s H E) [] (start N vs) H s1:=by
 have hpl:ps.length<=N.length:=by have:=congrArg List.length S.pre;rw[length_take] at this;lia
 obtain⟨h1,tk,rfl,hk⟩:=x.done;have noA:∀b:Addr,b∉(Ei CX P w K mg base N qual scope f cd A outer s H E).ex:=fun b z=>absurd (show b∈([]:List Addr) from z) (by simp);refine⟨⟨e0.mod,S.kind,rfl,rfl,Nat.le_refl _,fun y z c h1 h2=>?_,fun y hy=>?_,fun y c _ h=>?_,fun _=>hd,Around.frames_deeper e0.frames,.inr ⟨rfl,rfl⟩,fun b z=>absurd z (noA b),e0.bs,e0.bsz,fun b _ _=>noA b,fun b z=>absurd z (noA b),e0.funs,e0.frf⟩,
  rfl,e0.bare,Un.kept hk,⟨_,x.toInCall.ns,fun i y v h1 h2 h3=>?_⟩,fun y c h=>⟨_,x.cell y c h⟩,e0.hok.fresh (Nat.le_refl _),fun y c h=>?_,fun p hp=>absurd (show p∈([]:List (Addr × Obj)) from hp) (by simp),e0.hok.kept hk,?_⟩
 ·exact name_of_addr x.apart (PySem.mem_of_lookup h1) (PySem.mem_of_lookup h2)
 ·have hy:scope.names.lookup y=some .cell\/scope.names.lookup y=some .free:=hy;rcases hy with hy | hy
  ·exact Ae hy
  ·exact absurd rfl (S.nofree _ (PySem.mem_of_lookup hy))
 ·exact Nat.le_of_lt (x.above y c (PySem.mem_of_lookup h))
 ·have hi:i < vs.length:=by
   unfold start at h2
   by_cases hi:i < vs.length
   ·exact hi
   ·rw[getElem?_append_right (by simpa using hi)] at h2;rw[getElem?_replicate] at h2;split at h2<;>cases h2
  have ha:vs[i]?=some v:=by
   unfold start at h2;rw[getElem?_append_left (by simpa using hi),getElem?_map] at h2
   cases e:vs[i]? with
   |none=>rw[e] at h2;cases h2
   |some a=>rw[e] at h2;cases h2;rfl
  obtain⟨u,hu,rv⟩:=r.get ha;have hp:ps[i]?=some y:=by
   rw[<- S.pre,getElem?_take_of_lt (by lia)];exact h1
  have ndP:ps.Nodup:=by rw[<- S.pre];exact S.nd.sublist (take_sublist _ _)
  refine⟨u,rv,?_⟩;rcases S.par y (mem_of_getElem? hp) with k | k
  ·exact .inl ⟨k,wM ndP hp hu k⟩
  ·obtain⟨c,e⟩:=Ae (n:=s.heap.objs.size+1) k;refine .inr ⟨.inl k,c,e,?_⟩;have q:=x.cell y c e;rw[vV ndP hp hu (by show scope.names.lookup y≠_;rw[k];decide)] at q;exact q
 ·exact e0.hok.fresh (Nat.le_of_lt (x.above y c (PySem.mem_of_lookup h)))
 ·unfold start;show _=N.length;rw[List.length_append,length_map,length_replicate];lia
theorem Zw {CX:CXT}{P:Program}{w:World}{K:Frag}{mg:Str->Option Value}{base:Heap}{k:Nat}{f:Addr}{name qual:Str}{params:Arguments}{body:List Stmt}{scope:Scope}{dV kV doc pm cdv ct oc:Value}{an od:Option Addr}{osl:Array (Option Value)}{N ps:List Str}{sp:Sp}(lk:K.lookup f=some ⟨oc,od,.func (W.fnOf name qual params body scope dV kV doc pm an cdv ct),osl⟩)(hcd:W.codeIn K cdv qual=true)(S:aP N ps scope)(len:∀vs H Q E,sp vs H Q E->vs.length=ps.length)(hbody:∀(A:Around) (outer:List Env) (s:Shared) (H:Hp) (vs:List V) (Q:VK) (E:XK),gX k (A.deeper (envOfC qual scope s.heap.objs.size f cdv))->sp vs H Q E->
   ∃t,PSs (Ei CX P w K mg base N qual scope f cdv A outer s H E) body t/\t { nx:=fun _ H'=>Q .non H',rt:=Q } (start N vs) H) :
  aL P w K mg base CX (k+1) f (W.fnOf name qual params body scope dV kV doc pm an cdv ct) ps sp:=by
 refine⟨len,fun A outer s H args us vs Q E hr e0 hb r hsp=>?_⟩;have hl:=len _ _ _ _ hsp;have KX:K.In s.heap:=e0.mod.kin.keeps fun b o e=>(e0.bs b o e).1;have lim:s.heap.NoLimit:=e0.mod.nolimit.keeps fun b o e=>(e0.bs b o e).1;have hkind:∀y∈ps.zip us,scope.names.lookup y.1=some .local\/(scope.names.lookup y.1=some .cell/\((cellsFrom (s.heap.objs.size+1) scope.names []).lookup y.1).isSome=true):=fun ⟨n,v⟩ hy=>by
  rcases S.par n (of_mem_zip hy).1 with q | q
  ·exact .inl q
  ·exact .inr ⟨q,W.cellsFrom_some _ _ _ (.inl q)⟩
 refine codeAny_call_function hr.depth (KX _ _ lk) rfl S.co S.gen rfl (W.codeRec_of KX hcd) (hb _ _ _ _ ?_);refine wpAny_newFunctionEnv_cells S.kind hkind fun env he s1 x=>?_;subst he;refine⟨lim.keeps x.toInCall.keep,codeAny_func ?_⟩;obtain⟨t,ht,hq⟩:=hbody A outer s H vs Q E (hr.deeper _) hsp;have I:Inv (Ei CX P w K mg base N qual scope f cdv A outer s H E) [] (start N vs) H s1:=Kk S hr.hd e0 hl r x;refine wpAny_mono (ht [] s1 (start N vs) H _ I hq) (fun fl s' hs=>?_) fun e s' hs=>hs;have fin:∀{σ':St} {H':Hp} {v:V} {u:Value},Inv (Ei CX P w K mg base N qual scope f cdv A outer s H E) [] σ' H' s'->cE v u->Q v H'->CE outer P w H s Q u s':=
  fun {σ' H' v u} J rv q=>⟨v,H',J.os,J.bare,J.base,J.hok,rv,q⟩
 cases fl with
 |ret u=>
  obtain⟨v,σ',H',J,rv,q⟩:=hs;exact fin J rv q
 |next=>
  obtain⟨σ',H',J,q⟩:=hs;exact fin (v:=V.non) (u:=Value.none) J rfl q
 |brk=>
  obtain⟨_,_,_,q⟩:=hs;exact False.elim q
 |cont=>
  obtain⟨_,_,_,q⟩:=hs;exact False.elim q
section
variable {X:Cx} {x:Str} {p pos:Pos} {e:Expr} {es:List Expr} {t:TA} {id T:String} {r:List V->Hp->VK->Prop}
def tCB (r:List V->Hp->VK->Prop)(t:TA):TE:=fun σ H Q=>t σ H fun vs H1=>r vs H1 Q
theorem cN (hc:tQ X (.builtin id) r)(hg:Gl X x)(hm:X.mg x=none)(hv:bootBuiltins x=some (.builtin id))(ha:PA X (e :: es) t)(hn:x≠"__name__":=by decide)(hdb:(x == ("__debug__":Str))=false:=by decide)(he:starEach (e :: es) X.env=(false,eval e X.env) :: starEach es X.env:=by rfl)(hpl:(backTo pos (starEach es X.env)).any (·.1)=false:=by rfl):PE X (.Call (.Name x p) (e :: es) [] pos) (tCB r t):=by
 intro pins s σ H Q I h;refine wpAny_Call_Name_kw (kD I hg hm hv ?_ hn hdb);exact PyProof.Rows.callWith_builtin1 (thn (ha pos pins s σ H _ I h) fun us s1 ⟨vs,H1,I1,r1,q1⟩=>hc pins s1 σ H1 vs us Q I1 r1 q1) he hpl
theorem jV (hc:tQ X (.type T) r)(hg:Gl X x)(hm:X.mg x=none)(hv:bootBuiltins x=some (.type T))(ha:PA X (e :: es) t)(hn:x≠"__name__":=by decide)(hdb:(x == ("__debug__":Str))=false:=by decide)(he:starEach (e :: es) X.env=(false,eval e X.env) :: starEach es X.env:=by rfl)(hpl:(backTo pos (starEach es X.env)).any (·.1)=false:=by rfl):PE X (.Call (.Name x p) (e :: es) [] pos) (tCB r t):=by
 intro pins s σ H Q I h;refine wpAny_Call_Name_kw (kD I hg hm hv ?_ hn hdb);exact PyProof.Rows.callWith_type1 (thn (ha pos pins s σ H _ I h) fun us s1 ⟨vs,H1,I1,r1,q1⟩=>hc pins s1 σ H1 vs us Q I1 r1 q1) he hpl
end
end L2
namespace HT
open PySem PyProof.Rows
section
variable {prog:Program} {w:World} {A:Around} {E:Value->Shared->Prop} {s:Shared}
def sIx (n d:Nat):Option Int->Nat
 |none=>d
 |some v=>if v < 0 then (v+(n:Int)).toNat else min v.toNat n
end
end HT
namespace L2
open PySem PySem.Spec PyProof.Rows
abbrev TO:=St->Hp->(Option Int->Hp->Prop)->Prop
def PO (X:Cx)(e:Option Expr)(t:TO):Prop:=
 ∀(pins:List (Addr × Obj)) (s:Shared) (σ:St) (H:Hp) (Q:Option Int->Hp->Prop),Inv X pins σ H s->t σ H Q->
  wpAny (model X.prog X.w) X.A (evalPart e X.env) (fun u s'=>∃o H',Inv X pins σ H' s'/\IsPart u o/\Q o H') X.xe s
def Rj:TO:=fun _ H Q=>Q none H
def qb2 (t:TE):TO:=fun σ H Q=>t σ H fun x H1=>∃i,x=.int i/\Q (some i) H1
section
variable {X:Cx} {e:Expr} {te:TE} {lo hi:Option Expr} {tl th:TO} {pos p2:Pos}
theorem oX:PO X none Rj:=by
 intro pins s σ H Q I h;rw[evalPart_none];exact wpAny_pure ⟨none,H,I,.none,h⟩
theorem iK (h:PE X e te):PO X (some e) (qb2 te):=by
 intro pins s σ H Q I hw;rw[evalPart_some];refine thn (h pins s σ H _ I hw) fun u s1 ⟨x,H1,I1,r1,q1⟩=>?_;obtain⟨i,rfl,q⟩:=q1;obtain⟨t,rfl⟩:=r1;exact⟨some i,H1,I1,.int i t,q⟩
def SlR (X:Cx)(r:V->Option Int->Option Int->Hp->VK->Prop):Prop:=
 ∀(pins:List (Addr × Obj)) (s:Shared) (σ:St) (H:Hp) (x:V) (v vl vu:Value) (lo hi:Option Int) (sl:Addr) (Q:VK),Inv X pins σ H s->cE x v->s.heap.IsSliceOf sl vl vu .none->IsPart vl lo->IsPart vu hi->r x lo hi H Q->
  ∃T id,typeLookup (.type T) "__getitem__"=pure (some (.builtin id))/\s.TypeIs v T/\wpAny (model X.prog X.w) X.A (getItem v (.ref sl)) (EP X pins σ Q) X.xe s
def tSl (r:V->Option Int->Option Int->Hp->VK->Prop)(te:TE)(tl th:TO):TE:=fun σ H Q=>te σ H fun x H1=>tl σ H1 fun l H2=>th σ H2 fun u H3=>r x l u H3 Q
theorem jC {r:V->Option Int->Option Int->Hp->VK->Prop}(hr:SlR X r)(he:PE X e te)(hl:PO X lo tl)(hu:PO X hi th):PE X (.Subscript e (.Slice lo hi none p2) pos) (tSl r te tl th):=by
 intro pins s σ H Q I h;refine Subscript_ (thn (he pins s σ H _ I h) fun v s1 ⟨x,H1,I1,r1,q1⟩=>?_);refine wpAny_Slice (thn (hl pins s1 σ H1 _ I1 q1) fun vl s2 ⟨l,H2,I2,pl,q2⟩=>thn (hu pins s2 σ H2 _ I2 q2) fun vu s3 ⟨u,H3,I3,pu,q3⟩=>?_);rw[evalPart_none];refine wpAny_pure ?_;have I4:Inv X pins σ H3 { s3 with heap:=s3.heap.push { cls:=.type "slice",data:=.fields #[vl,vu,.none] } }:=I3.kept (t':=s3.toks) fun b ob q=>Heap.get?_push_of_some _ q;obtain⟨T,id,hT,ht,hg⟩:=hr pins { s3 with heap:=s3.heap.push { cls:=.type "slice",data:=.fields #[vl,vu,.none] } } σ H3 x v vl vu l u s3.heap.objs.size Q I4 r1 (Heap.IsSliceOf.new ..) pl pu q3;show wpAny (model X.prog X.w) X.A (subscriptTail e (.Slice lo hi none p2) v (.ref s3.heap.objs.size)) (EP X pins σ Q) X.xe { s3 with heap:=s3.heap.push { cls:=.type "slice",data:=.fields #[vl,vu,.none] } };exact tail_any (ops:=[.ref s3.heap.objs.size,v]) ht hT hg (by with_unfolding_all rfl)
def kZ (xs:List V)(lo hi:Option Int):List V:=(xs.drop (HT.sIx xs.length 0 lo)).take (HT.sIx xs.length xs.length hi - HT.sIx xs.length 0 lo)
theorem Bo (xs:List V)(lo hi:Option Int):(kZ xs lo hi).length<=xs.length:=by
 unfold kZ;exact Nat.le_trans (length_take_le' _ _) (by rw[length_drop];exact Nat.sub_le _ _)
end
def ixN (n:Nat)(i:Int):Option Nat:=if 0<=i then (if i < n then some i.toNat else none) else if -(n:Int)<=i then some (i+n).toNat else none
def atI {α:Type}(xs:List α)(i:Int):Option α:=(ixN xs.length i).bind fun j=>xs[j]?
theorem Hy {n:Nat}{i:Int}{j:Nat}(h:ixN n i=some j):seqIndex? i n=some j/\j < n/\-(n:Int)<=i/\i < n:=by
 unfold ixN at h
 by_cases h0:0<=i
 ·rw[if_pos h0] at h
  by_cases h1:i < n
  ·rw[if_pos h1] at h;have e:i.toNat=j:=Option.some.inj h;exact⟨by rw[seqIndex_of h0 h1,e],by lia,by lia,h1⟩
  ·rw[if_neg h1] at h;cases h
 ·rw[if_neg h0] at h
  by_cases h1:-(n:Int)<=i
  ·rw[if_pos h1] at h;have e:(i+n).toNat=j:=Option.some.inj h;exact⟨by rw[seqIndex_neg (by lia) h1,e],by lia,h1,by lia⟩
  ·rw[if_neg h1] at h;cases h
theorem Gx {α:Type}{xs:List α}{i:Int}{v:α}(h:atI xs i=some v):∃j,seqIndex? i xs.length=some j/\xs[j]?=some v/\j < xs.length/\-(xs.length:Int)<=i/\i < xs.length:=by
 unfold atI at h
 cases e:ixN xs.length i with
 |none=>rw[e] at h;cases h
 |some j=>
  rw[e] at h;obtain⟨h1,h2,h3,h4⟩:=Hy e;exact⟨j,h1,h,h2,h3,h4⟩
theorem bV {α:Type}{xs:List α}{j:Nat}{v:α}(h:xs[j]?=some v):atI xs (j:Int)=some v:=by
 have hj:j < xs.length:=(List.getElem?_eq_some_iff.mp h).1;have e:ixN xs.length (j:Int)=some j:=by
  unfold ixN;rw[if_pos (by lia),if_pos (by lia)];simp
 unfold atI;rw[e];exact h
def Tk (b:Expr):Prop:=∀o i,subscripted b false o i=operate [o,i] (getItem o i)
def IxR (X:Cx)(r:R2):Prop:=
 ∀(value slice:Expr) (pins:List (Addr × Obj)) (s:Shared) (σ:St) (H:Hp) (x y:V) (v u:Value) (Q:VK),Inv X pins σ H s->cE x v->cE y u->r x y H Q->
  subscripted slice false v u=operate [v,u] (getItem v u)->wpAny (model X.prog X.w) X.A (subscriptTail value slice v u) (EP X pins σ Q) X.xe s
def MtR (X:Cx)(id:String)(r:V->List V->Hp->VK->Prop):Prop:=
 ∀(pins:List (Addr × Obj)) (s:Shared) (σ:St) (H:Hp) (x:V) (xs:List V) (v:Value) (us:List Value) (Q:VK),Inv X pins σ H s->cE x v->bZ xs us->r x xs H Q->
  wpAny (model X.prog X.w) X.A (call (.builtin id) (v :: us)) (EP X pins σ Q) X.xe s
section
variable {X:Cx} {a b:Expr} {ta tb:TE} {pos:Pos}
theorem aQ {r:R2}(hr:IxR X r)(ha:PE X a ta)(hb:PE X b tb)(hs:Tk b):PE X (.Subscript a b pos) (tOp r ta tb):=by
 intro pins s σ H Q I h;exact Subscript_ (Xv ha hb I h fun v u s2 x y H2 I2 rx ry q=>hr a b pins s2 σ H2 x y v u Q I2 rx ry q (hs _ _))
def qe1 (K:Frag):R2:=fun x y H Q=>∃p xs i v,x=.ref p/\y=.int i/\SqL K H p xs/\atI xs i=some v/\Q v H
def Sh (K:Frag):R2:=fun x y H Q=>∃p xs i v,x=.ref p/\y=.int i/\SqT K H p xs/\atI xs i=some v/\Q v H
theorem bN:IxR X (qe1 X.K):=by
 intro value slice pins s σ H x y v u Q I rx ry h hs;obtain⟨p,xs,i,z,rfl,rfl,hq,he,q⟩:=h
 cases rx
 obtain⟨t,rfl⟩:=ry;obtain⟨its,r,pl,hz⟩:=I.list hq;obtain⟨j,h1,h2,h3,h4,h5⟩:=Gx he;obtain⟨w,ew,rw'⟩:=r.get h2;have hl:=r.length;have hn:=yF;have fin:EP X pins σ Q w s:=⟨z,H,I,rw',q⟩
 by_cases h0:0<=i
 ·have hj:i.toNat=j:=by
   rw[seqIndex_of h0 h5] at h1;exact Option.some.inj h1
  exact item_listR pl.isList h0 (by lia) (by rw[hj];simpa using ew) fin hs
 ·have hj:(i+(its.toArray.size:Int)).toNat=j:=by
   rw[seqIndex_neg (by lia) h4] at h1;rw[size_toArray,<- hl];exact Option.some.inj h1
  exact subscriptTail_builtinR (x:=w) pl.isList.typeIs slot_list_getitem.lookup
   (wpAny_getItem_list_neg (Q:=fun r s'=>r=w/\EP X pins σ Q r s') pl.isList (by lia) (by rw[size_toArray]<;>lia) (by lia) (by rw[hj];simpa using ew) ⟨rfl,fin⟩) hs
theorem aT:IxR X (Sh X.K):=by
 intro value slice pins s σ H x y v u Q I rx ry h hs;obtain⟨p,xs,i,z,rfl,rfl,hq,he,q⟩:=h
 cases rx
 obtain⟨t,rfl⟩:=ry;obtain⟨its,r,pl,hz⟩:=I.tuple hq;obtain⟨j,h1,h2,h3,h4,h5⟩:=Gx he;obtain⟨w,ew,rw'⟩:=r.get h2;have hl:=r.length;have hn:=yF;have fin:EP X pins σ Q w s:=⟨z,H,I,rw',q⟩
 exact subscriptTail_builtinR (x:=w) pl.typeIs slot_tuple_getitem.lookup
  (getItem_tuple (j:=j) (Q:=fun r s'=>r=w/\EP X pins σ Q r s') pl (by lia) (by lia) (by rw[size_toArray,<- hl];exact h1) (by simpa using ew) ⟨rfl,fin⟩) hs
theorem Dg (its:List Value)(n j:Nat)(u:Value):Obj.mapSeq (·.setIfInBounds j u) { cls:=.type "list",data:=.seq its.toArray n }={ cls:=.type "list",data:=.seq (its.set j u).toArray n }:=by
 simp[Obj.mapSeq]
theorem Inv.lst {pins:List (Addr × Obj)}{σ:St}{H:Hp}{s:Shared}{p:Addr}{xs:List V}(I:Inv X pins σ H s)(h:H p=some (.lst xs)) :
  ∃(its:List Value) (n:Nat),bZ xs its/\s.heap.get? p=some { cls:=.type "list",data:=.seq its.toArray n }/\xs.length<=sizeLine:=by
 obtain⟨z,its,n,r,e⟩:=I.hok p _ h;exact⟨its,n,r,e,z⟩
theorem Inv.lstUpd {pins:List (Addr × Obj)}{σ:St}{H:Hp}{s:Shared}{p:Addr}{xs ys:List V}{its its':List Value}{n n':Nat}{f:Obj->Obj}(I:Inv X pins σ H s)(h:H p=some (.lst xs))(ho:s.heap.get? p=some { cls:=.type "list",data:=.seq its.toArray n })(hf:f { cls:=.type "list",data:=.seq its.toArray n }={ cls:=.type "list",data:=.seq its'.toArray n' })(r:bZ ys its')(hz:ys.length<=sizeLine)(t:Nat) :
  Inv X pins σ (upd H p (.lst ys)) { s with heap:=s.heap.update p f,toks:=t }:=by
 have e:(s.heap.update p f).get? p=some { cls:=.type "list",data:=.seq its'.toArray n' }:=by
  rw[Heap.get?_update_self f ho (by rw[hf]<;>rfl),hf]
 refine I.write (x:=p) (e:=p) (by rw[h];trivial) (.inl rfl) (fun b u hb q=>(Heap.get?_update_other _ _ (Ne.symm hb)).trans q) ⟨_,e⟩ ?_;exact⟨hz,its',n',r,e⟩
def qb9:V->V->V->Hp->(Hp->Prop)->Prop:=fun o i v H Q=>∃p xs k j,o=.ref p/\i=.int k/\H p=some (.lst xs)/\ixN xs.length k=some j/\Q (upd H p (.lst (xs.set j v)))
theorem iT:Zq X qb9:=by
 intro pins s σ H o i v ov iv u Q I ro ri rv h;obtain⟨p,xs,k,j,rfl,rfl,hp,hj,q⟩:=h
 cases ro
 obtain⟨t,rfl⟩:=ri;obtain⟨its,n,r,ho,hz⟩:=I.lst hp;obtain⟨h1,h2,h3,h4⟩:=Hy hj;have hl:=r.length;have hn:=yF;have I':Inv X pins σ (upd H p (.lst (xs.set j v))) { s with heap:=s.heap.update p (Obj.mapSeq (·.setIfInBounds j u)) }:=
  I.lstUpd hp ho (Dg its n j u) (r.set rv j) (by rw[length_set];exact hz) s.toks
 by_cases h0:0<=k
 ·have hk:k.toNat=j:=by
   rw[seqIndex_of h0 h4] at h1;exact Option.some.inj h1
  exact W.ki_setAt ho h0 (by lia) (by rw[size_toArray,<- hl];exact h4) (by rw[hk];exact⟨_,I',q⟩)
 ·have hk:(k+(its.toArray.size:Int)).toNat=j:=by
   rw[seqIndex_neg (by lia) h3] at h1;rw[size_toArray,<- hl];exact Option.some.inj h1
  exact W.ki_setBack ho (by lia) (by rw[size_toArray,<- hl];exact h3) (by lia) (by rw[hk];exact⟨_,I',q⟩)
theorem sbA (lo hi:Option Int)(n:Nat):(sliceBounds lo hi none n).1=((HT.sIx n 0 lo:Nat):Int):=by
 cases lo with
 |none=>simp[sliceBounds,HT.sIx]
 |some i=>
  simp only[sliceBounds,HT.sIx,Option.getD_none,show (1:Int) > 0 by decide,if_true]
  by_cases h:i < 0
  ·simp only[h,if_true]<;>lia
  ·simp only[h,if_false]<;>lia
theorem xG (lo hi:Option Int)(n:Nat):(sliceBounds lo hi none n).1=((HT.sIx n 0 lo:Nat):Int)/\(sliceBounds lo hi none n).2.1=((HT.sIx n n hi:Nat):Int)/\(sliceBounds lo hi none n).2.2=1:=by
 refine⟨sbA lo hi n,?_,rfl⟩
 cases hi with
 |none=>simp[sliceBounds,HT.sIx]
 |some i=>exact sbA (some i) lo n
theorem uW (its:List Value)(lo hi:Option Int):slicePick its.toArray lo hi none=((its.drop (HT.sIx its.length 0 lo)).take (HT.sIx its.length its.length hi - HT.sIx its.length 0 lo)).toArray:=by
 obtain⟨h1,h2,h3⟩:=xG lo hi its.toArray.size;unfold slicePick;rw[h1,h2,h3];simp only[sliceRange_one,pick_run,size_toArray]<;>rfl
def qa3 (K:Frag):V->Option Int->Option Int->Hp->VK->Prop:=fun x lo hi H Q=>∃a xs,x=.ref a/\SqL K H a xs/\∀p,H p=none->Q (.ref p) (upd H p (.lst (kZ xs lo hi)))
theorem kO:SlR X (qa3 X.K):=by
 intro pins s σ H x v vl vu lo hi sl Q I rx hs pl pu h;obtain⟨a,xs,rfl,hx,q⟩:=h
 cases rx
 obtain⟨its,r,ht,hz⟩:=I.list hx;have hlen:=r.length;refine⟨"list",_,slot_list_getitem.lookup,ht.isList.typeIs,?_⟩;refine wpAny_getItem_list_slice ht.isList hs pl pu .none (by simp) ?_ (by rw[size_toArray]<;>lia);rw[uW,<- hlen];refine⟨.ref s.heap.objs.size,_,I.laid (t':=s.toks) (o:=.lst (kZ xs lo hi)) (fun b ob q=>Heap.get?_push_of_some _ q) (Nat.le_refl _) ?_,rfl,q _ (I.hok.fresh (Nat.le_refl _))⟩;exact⟨Nat.le_trans (Bo xs lo hi) hz,_,0,(r.drop (HT.sIx xs.length 0 lo)).take (HT.sIx xs.length xs.length hi - HT.sIx xs.length 0 lo),Heap.get?_push_size _ rfl⟩
def nQ:V->Bool
 | .non=>true
 | .bl _=>true
 | .int _=>true
 | .str _=>true
 |_=>false
def eqV:V->V->Bool
 | .non,.non=>true
 | .bl a,.bl b=>a == b
 | .bl a,.int b=>(if a then 1 else 0) == b
 | .int a,.bl b=>a == (if b then 1 else 0)
 | .int a,.int b=>a == b
 | .str a,.str b=>a == b
 |_,_=>false
theorem Ww {A:Around}{s:Shared}{y x:V}{u v:Value}(ry:cE y u)(rx:cE x v)(fy:nQ y=true)(fx:nQ x=true):SeqAt.EqAt A s u v (eqV y x):=by
 cases y with
 |non=>
  cases ry
  cases x with
  |non=>cases rx;exact SeqAt.EqAt.same _
  |bl b=>cases rx;exact SeqAt.EqAt.none_bool b
  |int b=>obtain⟨t,rfl⟩:=rx;exact SeqAt.EqAt.none_int b t
  |str b=>obtain⟨t,rfl⟩:=rx;exact SeqAt.EqAt.none_str b t
  |_=>exact absurd (show false=true from fx) Bool.false_ne_true
 |bl a=>
  cases ry
  cases x with
  |non=>cases rx;exact SeqAt.EqAt.bool_none a
  |bl b=>cases rx;exact SeqAt.EqAt.bool_bool a b
  |int b=>obtain⟨t,rfl⟩:=rx;exact SeqAt.EqAt.bool_int a b t
  |str b=>obtain⟨t,rfl⟩:=rx;exact SeqAt.EqAt.bool_str a b t
  |_=>exact absurd (show false=true from fx) Bool.false_ne_true
 |int a=>
  obtain⟨t',rfl⟩:=ry
  cases x with
  |non=>cases rx;exact SeqAt.EqAt.int_none a t'
  |bl b=>cases rx;exact SeqAt.EqAt.int_bool a t' b
  |int b=>obtain⟨t,rfl⟩:=rx;exact SeqAt.EqAt.int_int a t' b t
  |str b=>obtain⟨t,rfl⟩:=rx;exact SeqAt.EqAt.int_str a t' b t
  |_=>exact absurd (show false=true from fx) Bool.false_ne_true
 |str a=>
  obtain⟨t',rfl⟩:=ry
  cases x with
  |non=>cases rx;exact SeqAt.EqAt.str_none a t'
  |bl b=>cases rx;exact SeqAt.EqAt.str_bool a t' b
  |int b=>obtain⟨t,rfl⟩:=rx;exact SeqAt.EqAt.str_int a t' b t
  |str b=>obtain⟨t,rfl⟩:=rx;exact SeqAt.EqAt.str_str a t' b t
  |_=>exact absurd (show false=true from fx) Bool.false_ne_true
 |_=>exact absurd (show false=true from fy) Bool.false_ne_true
def eqU (x:V)(u:Value):Bool:=match u with
 | .none=>eqV .non x
 | .bool b=>eqV (.bl b) x
 | .int i _=>eqV (.int i) x
 | .str z _=>eqV (.str z) x
 |_=>false
theorem Ol {x y:V}{u:Value}(r:cE y u)(f:nQ y=true):eqU x u=eqV y x:=by
 cases y with
 |non=>cases r;rfl
 |bl b=>cases r;rfl
 |int i=>obtain⟨t,rfl⟩:=r;rfl
 |str z=>obtain⟨t,rfl⟩:=r;rfl
 |_=>exact absurd (show false=true from f) Bool.false_ne_true
theorem zR {x:V}:∀{xs:List V} {us:List Value},bZ xs us->xs.all nQ=true->us.any (eqU x)=xs.any fun y=>eqV y x
 |_,_,.nil,_=>rfl
 |y :: xs,u :: us,.cons r t,f=>by
  rw[all_cons,Bool.and_eq_true] at f;rw[any_cons,any_cons,Ol r f.1,zR t f.2]
theorem tH {A:Around}{s:Shared}{x:V}{v:Value}(rx:cE x v)(fx:nQ x=true):∀{xs:List V} {us:List Value},bZ xs us->xs.all nQ=true->∀u∈us,SeqAt.EqAt A s u v (eqU x u)
 |_,_,.nil,_=>fun u hu=>by cases hu
 |y :: xs,u :: us,.cons r t,f=>fun u' hu=>by
  rw[all_cons,Bool.and_eq_true] at f;rcases mem_cons.mp hu with rfl | hu
  ·rw[Ol r f.1];exact Ww r rx f.1 fx
  ·exact tH rx fx t f.2 u' hu
def inV (x:V)(xs:List V):Bool:=xs.any fun y=>eqV y x
def rIn (K:Frag)(neg:Bool):R2:=fun x y H Q=>∃p xs,y=.ref p/\(SqL K H p xs\/SqT K H p xs)/\nQ x=true/\xs.all nQ=true/\Q (.bl (if neg then !inV x xs else inV x xs)) H
theorem Ii:OpR X (compareOp .In) (rIn X.K false):=by
 intro pins s σ H x y v u Q I rx ry h;obtain⟨p,xs,rfl,hq,fx,fs,q⟩:=h
 cases ry
 rcases hq with hq | hq
 ·obtain⟨its,r,pl,hz⟩:=I.list hq;refine SeqAt.in_listAt (eqU x) pl.isList (fun w hw=>tH rx fx r fs w (by simpa using hw)) ⟨.bl _,H,I,rfl,?_⟩;rw[show its.toArray.any (eqU x)=its.any (eqU x) by simp,zR r fs];exact q
 ·obtain⟨its,r,pl,hz⟩:=I.tuple hq;refine SeqAt.in_tupleAt (eqU x) pl (fun w hw=>tH rx fx r fs w (by simpa using hw)) ⟨.bl _,H,I,rfl,?_⟩;rw[show its.toArray.any (eqU x)=its.any (eqU x) by simp,zR r fs];exact q
theorem bX:tQ X (.builtin "len") (fun xs H Q=>∃p ys,xs=[.ref p]/\(SqL X.K H p ys\/SqT X.K H p ys)/\Q (.int ys.length) H):=by
 intro pins s σ H xs us Q I r h;obtain⟨p,ys,rfl,hq,q⟩:=h;obtain⟨u,rfl,rx⟩:=An r
 cases rx
 have hn:=yF;rcases hq with hq | hq
 ·obtain⟨its,r',pl,hz⟩:=I.list hq;have hlen:=r'.length;exact Calls.call_len_list pl.isList (by simp only[size_toArray]<;>lia) ⟨.int ys.length,H,I.tok _,⟨s.toks+1,by rw[size_toArray,hlen]⟩,q⟩
 ·obtain⟨its,r',pl,hz⟩:=I.tuple hq;have hlen:=r'.length;exact len_tuple pl (by simp only[size_toArray]<;>lia) ⟨.int ys.length,H,I.tok _,⟨s.toks+1,by rw[size_toArray,hlen]⟩,q⟩
theorem gU:tQ X (.type "list") (fun xs H Q=>∃p ys,xs=[.ref p]/\(SqL X.K H p ys\/SqT X.K H p ys)/\∀l,H l=none->Q (.ref l) (upd H l (.lst ys))):=by
 intro pins s σ H xs us Q I r h;obtain⟨p,ys,rfl,hq,q⟩:=h;obtain⟨u,rfl,rx⟩:=An r
 cases rx
 have fin:∀(its:List Value),bZ ys its->ys.length<=sizeLine->∀(h':Heap) (c':Nat),(∀b o',s.heap.get? b=some o'->h'.get? b=some o')->
   h'.get? s.heap.objs.size=some { cls:=.type "list",dict:=none,data:=.seq its.toArray c',slots:=#[] }->EP X pins σ Q (.ref s.heap.objs.size) { s with heap:=h' }:=fun its r' hz h' c' kp e=>
  ⟨.ref s.heap.objs.size,_,I.laid (t':=s.toks) kp (Nat.le_refl _) (show dX X.prog X.w _ h' _ (.lst ys) from ⟨hz,its,c',r',e⟩),rfl,q _ (I.hok.fresh (Nat.le_refl _))⟩
 rcases hq with hq | hq
 ·obtain⟨its,r',pl,hz⟩:=I.list hq;have hlen:=r'.length;obtain⟨o,ho,hc,n,hd⟩:=pl.isList;exact call_list_seq p (.inl rfl) ho hc hd (fun h' c' kp e=>fin its r' hz h' c' kp e) (by simp only[size_toArray]<;>lia)
 ·obtain⟨its,r',pl,hz⟩:=I.tuple hq;have hlen:=r'.length;obtain⟨o,ho,hc,n,hd⟩:=pl;exact call_list_seq p (.inr rfl) ho hc hd (fun h' c' kp e=>fin its r' hz h' c' kp e) (by simp only[size_toArray]<;>lia)
def tyV (K:Frag)(T:String)(x:V)(H:Hp):Prop:=match x with
 | .str _=>T = "str"
 | .int _=>T = "int"
 | .ref p=>(T = "list"/\∃xs,SqL K H p xs)\/(T = "tuple"/\∃o,K.lookup p=some o/\o.cls=.type "tuple"/\o.dict=none)\/
   (T = "dict"/\((∃kvs,H p=some (.dK kvs))\/∃kvs,H p=some (.dT kvs)))\/(T = "set"/\∃S n,H p=some (.set S n))
 |_=>False
theorem Ot {pins:List (Addr × Obj)}{σ:St}{H:Hp}{s:Shared}{T:String}{x:V}{v:Value}(I:Inv X pins σ H s)(r:cE x v)(ty:tyV X.K T x H) :
  s.TypeIs v T/\∀a,v=.ref a->∃ob,s.heap.get? a=some ob/\ob.dict=none:=by
 cases x with
 |str z=>
  obtain⟨t,rfl⟩:=r
  cases (show T = "str" from ty)
  exact⟨typeIs_str s z t,fun _ e=>nomatch e⟩
 |int i=>
  obtain⟨t,rfl⟩:=r
  cases (show T = "int" from ty)
  exact⟨typeIs_int s i t,fun _ e=>nomatch e⟩
 |ref p=>
  cases r
  rcases ty with ⟨rfl,xs,hq⟩ | ⟨rfl,o,hk,hc,hd⟩ | ⟨rfl,hk⟩ | ⟨rfl,S,n,hk⟩
  ·obtain⟨its,_,pl,_⟩:=I.list hq;refine⟨pl.isList.typeIs,fun a e=>?_⟩
   cases e
   obtain⟨o,n,e,c,hd,_⟩:=pl;exact⟨o,e,hd⟩
  ·refine⟨⟨o,I.kIn p o hk,hc⟩,fun a e=>?_⟩
   cases e
   exact⟨o,I.kIn _ o hk,hd⟩
  ·have z:∃o,s.heap.get? p=some o/\o.ExactDict:=by
    rcases hk with ⟨kvs,hk⟩ | ⟨kvs,hk⟩
    ·obtain⟨_,_,_,_,o,_,_,e,ex,_⟩:=I.hok p _ hk;exact⟨o,e,ex⟩
    ·obtain⟨_,_,_,_,o,_,_,e,ex,_⟩:=I.hok p _ hk;exact⟨o,e,ex⟩
   obtain⟨o,e,ex⟩:=z;refine⟨⟨o,e,ex.1⟩,fun a e2=>?_⟩
   cases e2
   exact⟨o,e,ex.2.1⟩
  ·obtain⟨o,_,_,_,e,ex,_⟩:=I.hok p _ hk;refine⟨⟨o,e,ex.1⟩,fun a e2=>?_⟩
   cases e2
   exact⟨o,e,ex.2.1⟩
 |_=>exact False.elim ty
def qj6 (K:Frag)(T:String)(r:V->List V->Hp->VK->Prop)(to:TE):TE:=fun σ H Q=>to σ H fun x H1=>tyV K T x H1/\r x [] H1 Q
def tBM (K:Frag)(T:String)(r:V->List V->Hp->VK->Prop)(to:TE)(t:TA):TE:=fun σ H Q=>to σ H fun x H1=>tyV K T x H1/\t σ H1 fun xs H2=>r x xs H2 Q
variable {o e:Expr} {es:List Expr} {to:TE} {t:TA} {name:Str} {apos cpos:Pos} {T id:String} {r:V->List V->Hp->VK->Prop}
theorem Wg (pa:PlainAttrs T)(slot:Slot T name id)(hty:typeOf (.builtin id)=pure (.type "method_descriptor"))(hm:MtR X id r)(ho:PE X o to)(hbase:attributeBase o name X.env (eval o X.env)=eval o X.env:=by rfl)(hline:(apos.endLine == cpos.line)=true:=by rfl):PE X (.Call (.Attribute o name apos) [] [] cpos) (qj6 X.K T r to):=by
 intro pins s σ H Q I h;refine wpAny_Call_method0_late hbase hline (thn (ho pins s σ H _ I h) fun v s1 ⟨x,H1,I1,r1,ty,q1⟩=>?_);obtain⟨h1,h2⟩:=Ot I1 r1 ty;exact⟨T,id,pa,slot,hty,h1,h2,Calls.callWith_builtin rfl (PySem.evalArgs_none (hm pins s1 σ H1 x [] v [] Q I1 r1 .nil q1))⟩
theorem kY (pa:PlainAttrs T)(slot:Slot T name id)(hty:typeOf (.builtin id)=pure (.type "method_descriptor"))(hm:MtR X id r)(ho:PE X o to)(ha:PA X (e :: es) t)(hbase:attributeBase o name X.env (eval o X.env)=eval o X.env:=by rfl)(hfew:((backTo cpos (starEach (e :: es) X.env)).all (fun x=>!x.1) && (backToKw cpos (keywordEach [] X.env)).all (fun x=>x.1.isSome)
   && decide ((e :: es).length+([]:List Keyword).length+(if ([]:List Keyword).isEmpty then 0 else 1) < 30))=true:=by rfl)(hline:(apos.endLine == cpos.line)=true:=by rfl)(hs:starEach (e :: es) X.env=(false,eval e X.env) :: starEach es X.env:=by rfl)(hplain:(backTo cpos (starEach es X.env)).any (·.1)=false:=by rfl) :
  PE X (.Call (.Attribute o name apos) (e :: es) [] cpos) (tBM X.K T r to t):=by
 intro pins s σ H Q I h;refine wpAny_Call_method_late hbase hfew hline rfl (thn (ho pins s σ H _ I h) fun v s1 ⟨x,H1,I1,r1,ty,q1⟩=>?_);obtain⟨h1,h2⟩:=Ot I1 r1 ty;refine⟨T,id,pa,slot,hty,h1,h2,?_⟩;have hA:=ha cpos pins s1 σ H1 _ I1 q1;rw[hs] at hA ⊢;refine Calls.callWith_builtin (by show (false || (backTo cpos (starEach es X.env)).any (·.1))=false;rw[hplain]<;>rfl) (Calls.evalArgs_plain ?_);exact thn hA fun us s2 ⟨vs,H2,I2,r2,q2⟩=>hm pins s2 σ H2 x vs v us Q I2 r1 r2 q2
end
def MtM (X:Cx)(id:String)(r:V->List V->Hp->VK->Prop):Prop:=
 ∀(pins:List (Addr × Obj)) (s:Shared) (σ:St) (H:Hp) (x:V) (xs:List V) (v:Value) (us:List Value) (Q:VK),Inv X pins σ H s->cE x v->bZ xs us->r x xs H Q->
  wpAny (model X.prog X.w) X.A (call (.builtin id) (v :: us)) (EP X pins σ Q) X.xe s
theorem bZ.one:∀{x:V} {us:List Value},bZ [x] us->∃u,us=[u]/\cE x u
 |_,_,.cons r .nil=>⟨_,rfl,r⟩
theorem bZ.zero:∀{us:List Value},bZ [] us->us=[]
 |_,.nil=>rfl
theorem bZ.dropLast {xs:List V}{us:List Value}(h:bZ xs us):bZ xs.dropLast us.dropLast:=by
 induction h with
 |nil=>exact .nil
 |cons r t ih=>
  cases t with
  |nil=>exact .nil
  |cons q t'=>exact .cons r ih
theorem bZ.rep {xs:List V}{us:List Value}(h:bZ xs us):∀k:Nat,bZ (replicate k xs).flatten (replicate k us).flatten
 |0=>.nil
 |k+1=>by
  rw[replicate_succ,replicate_succ,flatten_cons,flatten_cons];exact bZ.append h (bZ.rep h k)
theorem Dw {α:Type}(l:List α):l.eraseIdx (l.length - 1)=l.dropLast:=by
 induction l with
 |nil=>rfl
 |cons a r ih=>
  cases r with
  |nil=>rfl
  |cons b r=>
   have e:(a :: b :: r).length - 1=((b :: r).length - 1)+1:=by
    have h1:(a :: b :: r).length=r.length+2:=rfl;have h2:(b :: r).length=r.length+1:=rfl;lia
   rw[e,eraseIdx_cons_succ,ih]
   all_goals rfl
theorem wY (its:List Value):∀(k:Nat) (acc:List Value),
  foldl (fun x1 x2=>x1++x2) acc.toArray (replicate k its.toArray)=(acc++(replicate k its).flatten).toArray
 |0,acc=>by simp
 |k+1,acc=>by
  have e:acc.toArray++its.toArray=(acc++its).toArray:=by simp
  have e2:(acc++its)++(replicate k its).flatten=acc++(replicate (k+1) its).flatten:=by
   rw[replicate_succ,flatten_cons,List.append_assoc]
  rw[<- e2,<- wY its k (acc++its),<- e,replicate_succ,foldl_cons]
section
variable {X:Cx} {pins:List (Addr × Obj)} {σ:St} {H:Hp} {s:Shared} {l b:Addr} {xs ys zs:List V}
theorem Inv.lset {its its':List Value}{n:Nat}{f:Array Value->Array Value}{t':Nat}(I:Inv X pins σ H s)(hH:H l=some (.lst xs))(e:s.heap.get? l=some { cls:=.type "list",data:=.seq its.toArray n })(hf:f its.toArray=its'.toArray)(hv:bZ ys its')(hz:ys.length<=sizeLine) :
  Inv X pins σ (upd H l (.lst ys)) { s with heap:=s.heap.update l (Obj.mapSeq f),toks:=t' }:=by
 have q:=PySem.IsL.update e f;rw[hf] at q;refine I.write (x:=l) (e:=l) (by rw[hH];exact trivial) (.inl rfl) (fun b' u hb hu=>(Heap.get?_update_other s.heap (Obj.mapSeq f) (Ne.symm hb)).trans hu) ⟨_,q⟩ ?_;exact⟨hz,its',_,hv,q⟩
theorem Inv.lnew {its:List Value}{t':Nat}(I:Inv X pins σ H s)(hv:bZ ys its)(hz:ys.length<=sizeLine) :
  Inv X pins σ (upd H s.heap.objs.size (.lst ys)) { s with heap:=s.heap.push { cls:=.type "list",data:=.seq its.toArray },toks:=t' }:=
 I.laid (fun _ _ q=>Heap.get?_push_of_some _ q) (Nat.le_refl _) ⟨hz,its,0,hv,Heap.get?_push_size _ rfl⟩
theorem Inv.fresh (I:Inv X pins σ H s):H s.heap.objs.size=none:=I.hok.fresh (Nat.le_refl _)
theorem Inv.lstM (I:Inv X pins σ H s)(hH:H l=some (.lst xs)):xs.length<=sizeLine/\∃(its:List Value) (n:Nat),bZ xs its/\xs.length=its.length/\s.heap.get? l=some { cls:=.type "list",data:=.seq its.toArray n }:=by
 obtain⟨z,its,n,r,e⟩:=I.hok l _ hH;exact⟨z,its,n,r,r.length,e⟩
theorem Kx {n:Nat}(h:n<=sizeLine):Builtin.List.listTooLong n=false:=by
 unfold Builtin.List.listTooLong;exact decide_eq_false (by lia)
end
section
variable {X:Cx}
def Tr:V->List V->Hp->VK->Prop:=fun x vs H Q=>∃l xs y,x=.ref l/\vs=[y]/\H l=some (.lst xs)/\xs.length < sizeLine/\Q .non (upd H l (.lst (xs++[y])))
theorem gC:MtM X "list.append" Tr:=by
 intro pins s σ H x vs v us Q I rx rv h;obtain⟨l,xs,y,rfl,rfl,hH,hz,q⟩:=h
 cases rx
 obtain⟨u,rfl,ru⟩:=rv.one;obtain⟨z,its,n,r,hl,e⟩:=I.lstM hH;refine call_meets F.slot_list_append ⟨_,e,rfl⟩ F.entry_list_append (F.args_list_append_2 _ _) (PySem.list_append l its.toArray n u (by rw[size_toArray];lia)) ⟨e,?_⟩;refine⟨.non,_,I.lset (its':=its++[u]) hH e (by simp) (r.append (.cons ru .nil)) ?_,rfl,q⟩;rw[List.length_append,length_singleton];lia
def qj2:V->List V->Hp->VK->Prop:=fun x vs H Q=>∃l xs y,x=.ref l/\vs=[]/\H l=some (.lst xs)/\xs[xs.length - 1]?=some y/\Q y (upd H l (.lst xs.dropLast))
theorem Ym:MtM X "list.pop" qj2:=by
 intro pins s σ H x vs v us Q I rx rv h;obtain⟨l,xs,y,rfl,rfl,hH,hy,q⟩:=h
 cases rx
 have hus:=rv.zero;subst hus;obtain⟨z,its,n,r,hl,e⟩:=I.lstM hH;obtain⟨u,hu,ru⟩:=r.get hy;have hy':its.toArray[its.toArray.size - 1]?=some u:=by
  show its.toArray[its.length - 1]?=some u;rw[<- Array.getElem?_toList,<- hl];exact hu
 refine call_meets F.slot_list_pop ⟨_,e,rfl⟩ F.entry_list_pop (F.args_list_pop_1 _) (MeetsSeq.list_pop_last l its.toArray n u hy' (by rw[size_toArray];lia)) ⟨e,?_⟩;refine⟨y,_,I.lset (its':=its.dropLast) hH e ?_ r.dropLast ?_,ru,q⟩
 ·show its.toArray.eraseIdxIfInBounds (its.toArray.size - 1)=its.dropLast.toArray;rw[size_toArray,eraseIdxIfInBounds_toArray,Dw]
 ·rw[length_dropLast];lia
def qi4:R2:=fun x y H Q=>∃l b xs zs,x=.ref l/\y=.ref b/\H l=some (.lst xs)/\H b=some (.lst zs)/\xs.length+zs.length<=sizeLine/\∀p,H p=none->Q (.ref p) (upd H p (.lst (xs++zs)))
theorem yG:OpR X (binaryOp .Add) qi4:=by
 intro pins s σ H x y v u Q I rx ry h;obtain⟨l,b,xs,zs,rfl,rfl,hH,hB,hz,q⟩:=h
 cases rx
 cases ry
 obtain⟨z,its,n,r,hl,e⟩:=I.lstM hH;obtain⟨z2,its2,n2,r2,hl2,e2⟩:=I.lstM hB;refine PySem.P.add_list e e2 ?_ (by rw[size_toArray,size_toArray];lia);have ea:its.toArray++its2.toArray=(its++its2).toArray:=by simp
 rw[ea];exact⟨.ref _,_,I.lnew (t':=s.toks) (r.append r2) (by rw[List.length_append];lia),rfl,q _ I.fresh⟩
def qg2:R2:=fun x y H Q=>∃l k xs,x=.ref l/\y=.int k/\H l=some (.lst xs)/\-(2 ^ 63)<=k/\k < 2 ^ 63/\xs.length*k.toNat<=sizeLine/\
 ∀p,H p=none->Q (.ref p) (upd H p (.lst (replicate k.toNat xs).flatten))
theorem Sd {α:Type}(xs:List α)(k:Nat):(replicate k xs).flatten.length=k*xs.length:=by
 induction k with
 |zero=>simp
 |succ k ih=>rw[replicate_succ,flatten_cons,List.length_append,ih,Nat.succ_mul,Nat.add_comm]
theorem Ck:OpR X (binaryOp .Mult) qg2:=by
 intro pins s σ H x y v u Q I rx ry h;obtain⟨l,k,xs,rfl,rfl,hH,h1,h2,hz,q⟩:=h
 cases rx
 obtain⟨t,rfl⟩:=ry;obtain⟨z,its,n,r,hl,e⟩:=I.lstM hH;have hlen:its.toArray.size*k.toNat<=sizeLine:=by rw[size_toArray,<- hl];exact hz
 have hcap:¬its.toArray.size*k.toNat > (2 ^ 63 - 1) / 8:=by
  have:(sizeLine:Nat)<=(2 ^ 63 - 1) / 8:=by decide
  lia
 have hfit:¬(!Builtin.List.listFitsIndex k)=true:=by
  rw[fitsIndex_both h1 h2];exact Bool.false_ne_true
 have hlong:¬Builtin.List.listTooLong (its.toArray.size*k.toNat)=true:=by
  rw[Kx hlen];exact Bool.false_ne_true
 have hnew:foldl (fun x1 x2=>x1++x2) #[] (replicate (if its.toArray.isEmpty=true then 0 else k.toNat) its.toArray)=(replicate k.toNat its).flatten.toArray:=by
  have f0:∀m:Nat,foldl (fun x1 x2=>x1++x2) #[] (replicate m its.toArray)=(replicate m its).flatten.toArray:=fun m=>by
   have:=wY its m [];rw[nil_append] at this;exact this
  rw[f0]
  cases its with
  |nil=>simp
  |cons a r'=>rw[if_neg (by simp)]
 refine wpAny_binaryOp_repeat_ref (T:="list") (U:="int") (by decide) ⟨_,e,rfl⟩ (fun s'=>typeIs_int s' k t) noFill_list_mul F.fills_int_mul F.slot_int_rmul repeat_list F.slot_int_index.lookup
  (call_meets F.slot_int_rmul (typeIs_int s k t) F.entry_int_rmul (F.args_int_rmul_2 _ _) (int___rmul___int_list k t l its.toArray n)
   ⟨e,rfl,⟨_,e,rfl⟩,call_meets F.slot_list_mul ⟨_,e,rfl⟩ F.entry_list_mul (F.args_list_mul_2 _ _) (AutoListH.list___mul___list_int_3 l its.toArray n k t hfit hcap hlong) ⟨e,?_⟩⟩)
 rw[hnew];exact⟨.ref _,_,I.lnew (t':=s.toks) (r.rep k.toNat) (by rw[Sd,Nat.mul_comm];exact hz),rfl,q _ I.fresh⟩
end
end L2
namespace Att
open PySem PySem.W PySem.Calls PyProof.Rows
theorem qQ {P:Params}{h:Heap}:∀(ns:List Int) (vs:List Value),WellAll P h vs (ns.map WData.int)->IntsAre vs ns:=by
 intro ns
 induction ns with
 |nil=>
  intro vs w;rw[map_nil] at w
  cases w
  exact .nil
 |cons n ns ih=>
  intro vs w;rw[map_cons] at w
  cases w with
  |cons a b=>
   cases a
   exact .cons _ _ (ih _ b)
theorem Kb {l:OpenLaw}{n:Nat}(hn:l.most=some n){P:Params}{h:Heap}{args:List WData}{vals:List Value}(hpre:l.row.toRowW.claim.pre args=true)(hwl:WellAll P h vals args) :
  ∃a vs ns,vals=[Value.ref a]/\args=[WData.list (ns.map WData.int)]/\h.get? a=some { cls:=.type "list",data:=.seq vs.toArray }/\IntsAre vs ns/\ns.length<=n:=by
 have hsh:WShape.hasAll [] args [.list .int]=true:=(pre_splitW hpre).1;have hc:l.pre.holds [] { args:=args }=true:=(pre_splitW hpre).2;obtain⟨d,r,rfl,h1,h2⟩:=hasAllW_cons hsh;obtain rfl:=hasAllW_nil h2;obtain⟨xs,rfl,h3⟩:=hasW_list h1;obtain⟨ns,rfl⟩:=items_int h3;have hlen:ns.length<=n:=by
  unfold OpenLaw.pre at hc;have h4:(WTm.not (.lt (.lit (.int (n:Int))) (.len (.arg 0)))).holds [] { args:=[.list (ns.map .int)] }=true:=by
   have h4:=(holds_andW hc).1;rw[hn] at h4;exact h4
  have h5:=condW_of h4 (w_not (w_lt w_lit (w_len_list (w_arg rfl))));rw[length_map] at h5;refine Nat.le_of_not_lt fun q=>?_;have q':(n:Int) < ((ns.length:Nat):Int):=by lia
  first
   | (rw[decide_eq_true q'] at h5;exact absurd h5 (by decide))
   | (simp at h5;lia)
 cases hwl with
 |cons w1 w2=>
  cases w2
  cases w1 with
  |list ho hall=>exact⟨_,_,ns,rfl,rfl,ho,qQ ns _ hall,hlen⟩
theorem Ji (l:OpenLaw)(args:List WData):l.row.toRowW.claim.post args (.bool true) args=true:=
 postW_of (r:=l.row.toRowW) (X:=(true == true))
  (show WShape.has [] (.bool true) .bool=true by first | rfl | decide | simp[WShape.has,WShape.arms,WShape.armsAll])
  (show (WTm.eq .res (.lit (.bool true))).value [] { args:=args,res:=some (.bool true),after:=args }=some (.bool (true == true)) from w_eq_bool (w_res rfl) w_lit) rfl
theorem attach_call {l:OpenLaw}{n:Nat}{q:Program}{loose:List Str}{XP:(Str->Option Value)->Heap->Prop}{YP:World->Heap->Prop}{d:DefRec}(hn:l.most=some n)(hdf:d.params.defaults=[])(call:∀(w:World) (s₀ s₁:Shared) (mg mb:Str->Option Value) (fa:Addr) (o:Obj) (pm cd doc:Value) (a:Addr) (vs:List Value) (ns:List Int),
   Ground q loose [] XP w s₀ mg mb s₁.heap->YP w s₁.heap->
   s₁.heap.get? fa=some o->o.data=.func (docDef d.name d.params d.body d.scope pm cd doc)->s₁.heap.CodeRec cd d.name->mg d.name=some (.ref fa)->
   s₁.heap.get? a=some { cls:=.type "list",data:=.seq vs.toArray }->IntsAre vs ns->ns.length<=n->s₁.gens=#[]->
   codeAny (model l.prog w) callerA (.call (.ref fa) ⟨[.ref a],[]⟩) (fun r s'=>r=.ok (.ret (.bool true))/\OldK s₁.heap s'.heap/\s'.os=s₁.os/\AllBare s'.gens) s₁) :
  WalkO q loose XP YP l.row.toRowW d [] (fun f vs=>PySem.call f vs):=by
 intro w s₀ s₁ mg mb G Y fa o pm cd doc dV kV ho hd hcd hD hmg hg args vals as hpre hlay hrd hwl hlo;obtain rfl:dV=.none:=Dflts.none hD hdf;obtain rfl:kV=.none:=Dflts.noKw hD;obtain⟨a,vs,ns,rfl,rfl,hobj,hints,hlen⟩:=Kb hn hpre hwl;refine enter_call (codeAny_mono (call w s₀ s₁ mg mb fa o pm cd doc a vs ns G Y ho (fd_plain hd) hcd hmg hobj hints hlen hg) fun r s' hq=>?_);obtain⟨rfl,h2,h3,h4⟩:=hq;exact⟨.inl ⟨.bool true,.bool true,[],rfl,fun _=>rfl,.bool true,Ji l _,fun _=>⟨Pairwise.nil,fun _ hm=>(nomatch hm)⟩⟩,h2,h3,h4⟩
end Att
namespace L2
open PySem PySem.Spec PyProof.Rows
theorem vA:∀{vs:List Value} {ns:List Int},IntsAre vs ns->bZ (ns.map V.int) vs
 |_,_,.nil=>.nil
 |_,_,.cons n t h=>.cons ⟨t,rfl⟩ (vA h)
def Xp (H:Hp):Prop:=∀b,H b=none\/∃o xs,H b=some (.frz o (.lst xs))
theorem Pb {P:Program}{w:World}{K:Frag}{mg mb:Str->Option Value}{CX:CXT}{k:Nat}{fa a:Addr}{fd:FuncData}{x:Str}{sp:Sp}{s₁:Shared}{vs:List Value}{ns:List Int}(KX:K.In s₁.heap)(hns:s₁.heap.Ns mainGlobals mg)(hb:s₁.heap.Ns builtinsNs mb)(hbb:∀x:Str,x≠"__name__"->mb x=bootBuiltins x)(hlim:s₁.heap.NoLimit)(hg:s₁.gens=#[])(ha:s₁.heap.get? a=some { cls:=.type "list",data:=.seq vs.toArray })(hi:IntsAre vs ns)(hl:ns.length<=sizeLine)(hr:gX k callerA)(F:∀base:Heap,K.In base->base.Ns mainGlobals mg->aL P w K mg base CX k fa fd [x] sp)(hbind:∀(s:Shared) (u:Value),BindsTo s fd ⟨[u],[]⟩ [(x,u)])(hsp:∀H:Hp,Xp H->SqL K H a (ns.map V.int)->sp [.ref a] H (fun v _=>v=.bl true) fun _ _ _=>False)(hCX:∀H e s',CX [] H s₁ (fun _ _ _=>False) e s'->False) :
  codeAny (model P w) callerA (.call (.ref fa) ⟨[.ref a],[]⟩) (fun r s'=>r=.ok (.ret (.bool true))/\OldK s₁.heap s'.heap/\s'.os=s₁.os/\AllBare s'.gens) s₁:=by
 have rv:=vA hi;have lenV:=hi.length;have core:∀H:Hp,Xp H->SqL K H a (ns.map V.int)->HOk P w H s₁.heap->(∀b,H b≠none->b=a)->(H a≠none->K.lookup a=none)->
   codeAny (model P w) callerA (.call (.ref fa) ⟨[.ref a],[]⟩) (fun r s'=>r=.ok (.ret (.bool true))/\OldK s₁.heap s'.heap/\s'.os=s₁.os/\AllBare s'.gens) s₁:=by
  intro H hO hS hok hA hK;have base_of:∀{b:Addr} {o:Obj},s₁.heap.get? b=some o->H b=none->(zH s₁.heap H).get? b=some o:=fun e n=>Nb e n;have noA:∀{b:Addr} {o:Obj} {es:Array DictEntry} {ep:Nat},s₁.heap.get? b=some o->o.data=.dict es ep->H b=none:=fun {b o es ep} e d=>by
   cases q:H b with
   |none=>rfl
   |some u=>
    have e':b=a:=hA b (by rw[q];simp);subst e';rw[ha] at e;cases e;have d':Data.seq vs.toArray _=Data.dict es ep:=d
    cases d'
  have nsK:∀{b:Addr} {m:Str->Option Value},s₁.heap.Ns b m->(zH s₁.heap H).Ns b m:=fun {b m} ⟨o,es,ep,e,d,r⟩=>⟨o,es,ep,base_of e (noA e d),d,r⟩
  have hKb:K.In (zH s₁.heap H):=fun b o e=>base_of (KX b o e) (by
   cases q:H b with
   |none=>rfl
   |some u=>
    have e':b=a:=hA b (by rw[q];simp);subst e';rw[hK (by rw[q];simp)] at e;cases e)
  have hM:Mod K mg (zH s₁.heap H):=⟨hKb,nsK hns,⟨mb,nsK hb,hbb⟩,let ⟨mc,h1,h2⟩:=hlim;⟨mc,nsK h1,h2⟩⟩
  have e0:Dc P w K mg (zH s₁.heap H) callerA [] s₁ H:=⟨rfl,hM,fun b o e=>Ty e,Nat.le_of_eq (Kj _ _),trivial,fun b hb=>absurd (show b∈([]:List Addr) from hb) (by simp),hok,.of_eq hg⟩
  refine codeAny_mono ((F _ hKb (nsK hns)).run callerA [] s₁ H ⟨[.ref a],[]⟩ [.ref a] [.ref a] _ _ hr e0 (hbind s₁ (.ref a)) (.cons rfl .nil) (hsp H hO hS)) fun r s' h=>?_
  cases r with
  |error e=>exact(hCX H e s' h).elim
  |ok fl=>
   cases fl with
   |next=>exact False.elim h
   |brk=>exact False.elim h
   |cont=>exact False.elim h
   |ret u=>
    obtain⟨v,H',os,bare,un,hok',r',q⟩:=h;have q':v=.bl true:=q;subst q';obtain rfl:u=Value.bool true:=r';refine⟨rfl,OldK.of_keep fun b o e=>?_,os,bare⟩
    cases q:H b with
    |none=>exact un.keep b o e q (by intro z;exact absurd (show b∈([]:List Addr) from z) (by simp)) (by simp)
    |some u=>
     rcases hO b with z | ⟨ob,xs,z⟩
     ·rw[q] at z;cases z
     ·have z2:=un.frzs b ob _ z;obtain⟨e1,_⟩:=hok b _ z;obtain⟨e2,_⟩:=hok' b _ z2;rw[e] at e1;cases e1;exact e2
 cases hk:K.lookup a with
 |some o=>
  have e:=KX a o hk;rw[ha] at e
  cases e
  refine core (fun _=>none) (fun _=>.inl rfl) (.inr ⟨_,vs.toArray,_,hk,rfl,rfl,rfl,by rw[size_toArray,lenV];exact hl,by simpa using rv⟩) (fun b u z=>by have z':(none:Option HO)=some u:=z;cases z') (fun b z=>absurd rfl z) fun z=>absurd rfl z
 |none=>
  refine core (fun b=>if b=a then some (.frz { cls:=.type "list",data:=.seq vs.toArray } (.lst (ns.map V.int))) else none) (fun b=>?_) (.inl (.inr ⟨{ cls:=.type "list",data:=.seq vs.toArray },if_pos rfl⟩)) (fun b u z=>?_) (fun b z=>?_) fun _=>hk
  ·by_cases hb:b=a
   ·exact .inr ⟨_,_,if_pos hb⟩
   ·exact .inl (if_neg hb)
  ·by_cases hb:b=a
   ·have z':=(if_pos hb).symm.trans z
    cases z'
    subst hb;exact⟨ha,by rw[length_map];exact hl,vs,_,rv,ha⟩
   ·have z':=(if_neg hb).symm.trans z
    cases z'
  ·by_cases hb:b=a
   ·exact hb
   ·exact absurd (if_neg hb) z
abbrev KOf {K:Frag}{h:Heap}(_:K.In h):Frag:=K
theorem Te {l:W.OpenLaw}{n k:Nat}{q:Program}{loose:List Str}{XP:(Str->Option Value)->Heap->Prop}{YP:World->Heap->Prop}{d:DefRec}{K:Params->Frag}{CX:World->CXT}{sp:World->Sp}{x:Str}(hn:l.most=some n)(hn2:n<=sizeLine)(hdf:d.params.defaults=[])(hr:gX k callerA)(hY:∀(w:World) (h:Heap),YP w h->(K w.params).In h)(F:∀(w:World) (mg:Str->Option Value) (fa:Addr) (h:Heap),(K w.params).In h->h.Ns mainGlobals mg->mg d.name=some (.ref fa)->
   ∃fd:FuncData,(∀(s:Shared) (u:Value),BindsTo s fd ⟨[u],[]⟩ [(x,u)])/\
    ∀base:Heap,(K w.params).In base->base.Ns mainGlobals mg->aL l.prog w (K w.params) mg base (CX w) k fa fd [x] (sp w))(hsp:∀(w:World) (H:Hp) (a:Addr) (ns:List Int),ns.length<=n->Xp H->SqL (K w.params) H a (ns.map V.int)->sp w [.ref a] H (fun v _=>v=.bl true) fun _ _ _=>False)(hCX:∀(w:World) (H:Hp) (s:Shared) (e:Value) (s':Shared),CX w [] H s (fun _ _ _=>False) e s'->False) :
  W.WalkO q loose XP YP l.row.toRowW d [] (fun f vs=>PySem.call f vs):=by
 refine Att.attach_call hn hdf fun w s₀ s₁ mg mb fa o pm cd doc a vs ns G Y ho hd hcd hmg hobj hints hlen hg=>?_;have KX:=hY w _ Y;obtain⟨fd,hb,hF⟩:=F w mg fa _ KX G.T.g hmg;exact Pb KX G.T.g G.T.b G.T.builtins G.T.nolimit hg hobj hints (Nat.le_trans hlen hn2) hr hF hb (fun H hO hS=>hsp w H a ns hlen hO hS) fun H e s'=>hCX w H s₁ e s'
def cU (s:Stmt)(j:Nat):Stmt:=match s with
 | .ClassDef _ _ _ body _ _ _ _ _ _ _=>body.getD j (.Pass ⟨0,0,0,0⟩)
 |_=>.Pass ⟨0,0,0,0⟩
def eU (s:Stmt):Arguments:=match s with
 | .FunctionDef _ a _ _ _ _ _ _ _ _=>a
 |_=>{ posonlyargs:=[],args:=[],vararg:=none,kwonlyargs:=[],kw_defaults:=[],kwarg:=none,defaults:=[] }
def cQ (s:Stmt):List Stmt:=match s with
 | .FunctionDef _ _ b _ _ _ _ _ _ _=>b
 |_=>[]
def aH (s:Stmt):Scope:=match s with
 | .FunctionDef _ _ _ _ _ _ sc _ _ _=>sc
 |_=>{ kind:=.function,names:=[],isGenerator:=false,isCoroutine:=false }
abbrev CX0:CXT:=fun _ _ _ _ _ _=>False
abbrev E0:XK:=fun _ _ _=>False
theorem aK {X:Cx}:kI CX0 X E0:=fun _ _ _ _ _ _ _ h=>h.elim
theorem zS {A:Around}{k:Nat}(hr:gX k A):A.units+1 < cLine:=Nat.lt_of_le_of_lt (Nat.add_le_add_left (by decide:1<=64) _) hr.units
theorem bC {n:Nat}(h:n<=1000):n < sizeLine:=Nat.lt_of_le_of_lt h (by decide)
section
variable {X:Cx}
theorem pv (i:Nat){x:Str}{pos:Pos}(hN:X.N[i]?=some x:=by rfl)(hv:Vis X.env.scope x:=by first | exact Or.inl rfl | exact Or.inr (Or.inl rfl) | exact Or.inr (Or.inr rfl))(hd:(x == ("__debug__":Str))=false:=by decide)(hcd:(x == ("__classdict__":Str))=false:=by decide):PE X (.Name x pos) (Ry i):=Mr hN hv hd hcd
end
theorem fU {A B:Prop}(h:B):if false=true then A else B:=by
 rw[if_neg Bool.false_ne_true];exact h
theorem gL {A B:Prop}(h:A):if true=true then A else B:=by
 rw[if_pos rfl];exact h
theorem oP {c A B:Prop}[Decidable c](h1:c->A)(h2:¬c->B):if c then A else B:=by
 by_cases h:c
 ·rw[if_pos h];exact h1 h
 ·rw[if_neg h];exact h2 h
def aY (H H':Hp):Prop:=∀b o,H b=some o->H' b=some o
theorem aY.refl (H:Hp):aY H H:=fun _ _ h=>h
theorem aY.trans {H H1 H2:Hp}(a:aY H H1)(b:aY H1 H2):aY H H2:=fun c o h=>b c o (a c o h)
theorem aY.free {H H':Hp}(e:aY H H'){l:Addr}(h:H' l=Option.none):H l=Option.none:=by
 cases q:H l with
 |none=>rfl
 |some o=>
  rw[e l o q] at h
  cases h
theorem aY.seq {K:Frag}{H H':Hp}{a:Addr}{xs:List V}(e:aY H H')(h:SqL K H a xs):SqL K H' a xs:=by
 rcases h with (h | ⟨o,h⟩) | h
 ·exact .inl (.inl (e _ _ h))
 ·exact .inl (.inr ⟨o,e _ _ h⟩)
 ·exact .inr h
section
variable {X:Cx}
def Bt (n:Nat)(i:Int):Prop:=i.natAbs < 2 ^ n
theorem sV {n:Nat}{i:Int}(h:Bt n i):Builtin.Int.intBits i<=n:=by
 unfold Builtin.Int.intBits;split
 ·exact Nat.zero_le _
 ·rename_i h0
  have hp:i.natAbs≠0:=by
   intro z;apply h0;simp at z ⊢;exact z
  have:i.natAbs.log2 < n:=(Nat.log2_lt hp).mpr h;lia
def Ua (i j:Int):Prop:=∃n m,Bt n i/\Bt m j/\n<=1048576/\m<=1048576
theorem Ua.ok {i j:Int}(h:Ua i j):IntMulOk i j:=by
 obtain⟨n,m,h1,h2,h3,h4⟩:=h;have e:(2:Nat) ^ 20=1048576:=by decide
 exact IntMulOk.of_bits (by have:=sV h1;lia) (by have:=sV h2;lia)
theorem cB:OpR X (binaryOp .Mult) (rI Ua fun i j=>.int (i*j)):=opI fun _ _ _ _ _ _ _ hc q=>mul_int q hc.ok
def Ho (i j:Int):Prop:=j≠0/\∃n,Bt n j/\n<=9000
theorem Ho.ok {i j:Int}(h:Ho i j):Builtin.divisionGoesByPylong i j=false:=by
 obtain⟨h0,n,h1,h2⟩:=h;refine PyProof.noPylong_of_log2 ?_;have hp:j.natAbs≠0:=by lia
 have:j.natAbs.log2 < n:=(Nat.log2_lt hp).mpr h1;lia
theorem iQ:OpR X (binaryOp .FloorDiv) (rI Ho fun i j=>.int (i.fdiv j)):=opI fun _ _ _ _ _ _ _ hc q=>floordiv_int hc.1 q (.inl hc.ok)
mutual
inductive qJ (K:Frag) (H:Hp):V->PyData->Prop where
 |non:qJ K H .non .none
 |bl (b:Bool):qJ K H (.bl b) (.bool b)
 |int (i:Int):qJ K H (.int i) (.int i)
 |str (x:Str):qJ K H (.str x) (.str x)
 |lst {a:Addr} {xs:List V} {ds:List PyData} (h:SqL K H a xs) (q:vI K H xs ds):qJ K H (.ref a) (.list ds)
 |tup {a:Addr} {xs:List V} {ds:List PyData} (h:SqT K H a xs) (q:vI K H xs ds):qJ K H (.ref a) (.tuple ds)
inductive vI (K:Frag) (H:Hp):List V->List PyData->Prop where
 |nil:vI K H [] []
 |cons {x:V} {d:PyData} {xs:List V} {ds:List PyData} (p:qJ K H x d) (q:vI K H xs ds):vI K H (x :: xs) (d :: ds)
end
theorem kF {pins:List (Addr × Obj)}{s:Shared}{σ:St}{H:Hp}(I:Inv X pins σ H s):∀{x:V} {d:PyData},qJ X.K H x d->∀{u:Value},cE x u->∃as,Reads s.heap u d as:=by
 intro x d h
 induction h using qJ.rec (motive_2:=fun xs ds _=>∀{us:List Value},bZ xs us->∃as,ReadsAll s.heap us ds as) with
 |non=>intro u r;cases (show u=Value.none from r);exact⟨_,.none⟩
 |bl b=>intro u r;cases (show u=Value.bool b from r);exact⟨_,.bool b⟩
 |int i=>intro u r;obtain⟨t,rfl⟩:=(show ∃t,u=Value.int i t from r);exact⟨_,.int i t⟩
 |str y=>intro u r;obtain⟨t,rfl⟩:=(show ∃t,u=Value.str y t from r);exact⟨_,.str y t⟩
 |lst h q ih=>
  intro u r
  cases (show u=Value.ref _ from r)
  obtain⟨its,rv,pl,_⟩:=I.list h;obtain⟨as,ra⟩:=ih rv;obtain⟨o,h1,h2,n,h3⟩:=pl.isList;exact⟨_,.list h1 h2 h3 (by simpa using ra)⟩
 |tup h q ih=>
  intro u r
  cases (show u=Value.ref _ from r)
  obtain⟨its,rv,pl,_⟩:=I.tuple h;obtain⟨as,ra⟩:=ih rv;obtain⟨o,h1,h2,n,h3⟩:=pl;exact⟨_,.tuple h1 h2 h3 (by simpa using ra)⟩
 |nil=>rename_i us r;cases r;exact⟨_,.nil⟩
 |cons p q ih1 ih2=>
  rename_i us r
  cases r with
  |cons r1 r2=>
   obtain⟨as,h1⟩:=ih1 r1;obtain⟨bs,h2⟩:=ih2 r2;exact⟨_,.cons h1 h2⟩
def Ky (K:Frag)(neg:Bool):R2:=fun x y H Q=>∃d e,qJ K H x d/\qJ K H y e/\d.canLay0=true/\e.canLay0=true/\min d.depth e.depth<=16/\Q (.bl (if neg then !PyData.eqv d e else PyData.eqv d e)) H
theorem Pw (hu:X.A.units+64 < cLine):OpR X (compareOp .Eq) (Ky X.K false):=by
 intro pins s σ H x y v u Q I rx ry h;obtain⟨d,e,h1,h2,c1,c2,hm,q⟩:=h;obtain⟨as,r1⟩:=kF I h1 rx;obtain⟨bs,r2⟩:=kF I h2 ry;exact PySem.SeqAt.compareEq_reads r1 r2 c1 c2 (by lia) ⟨.bl (PyData.eqv d e),H,I,rfl,q⟩
theorem My (hu:X.A.units+64 < cLine):OpR X (compareOp .NotEq) (Ky X.K true):=by
 intro pins s σ H x y v u Q I rx ry h;obtain⟨d,e,h1,h2,c1,c2,hm,q⟩:=h;obtain⟨as,r1⟩:=kF I h1 rx;obtain⟨bs,r2⟩:=kF I h2 ry;exact PySem.SeqAt.compareNe_reads r1 r2 c1 c2 (by lia) ⟨.bl (!PyData.eqv d e),H,I,rfl,q⟩
end
section
variable {prog:Program} {w:World} {A:Around} {R:Result->Shared->Prop} {s:Shared}
abbrev Vi (ifs:List Expr)(env:Env):Sem Bool:=forIn ifs true fun c r=>if r=true then do let ok <- isTrue c env (eval c env);pure (ForInStep.yield ok) else pure (ForInStep.yield r)
theorem Jx {elt target iter:Expr}{ifs:List Expr}{scope:Scope}{pos:Pos}{it acc:Value}{env:Env}(I:Nat->Shared->Prop)(turn:∀n s,I n s->wpAny (model prog w) A (pyNext it) (fun r s₁=>match r with
   |none=>R (.ok .next) s₁
   |some v=>wpAny (model prog w) A (letOwnedTupleGo target it v) (fun _ s₀=>wpAny (model prog w) A (assign target env v) (fun _ s₂=>
     wpAny (model prog w) A (Vi ifs env) (fun ok s₃=>
      if ok=true then wpAny (model prog w) A (eval elt env) (fun x s₄=>
       wpAny (model prog w) A (call (.builtin "list.append") [acc,x]) (fun _ s₅=>∃m,m < n/\I m s₅) (fun _ _=>False) s₄) (fun _ _=>False) s₃
      else ∃m,m < n/\I m s₃) (fun _ _=>False) s₂) (fun _ _=>False) s₀) (fun _ _=>False) s₁) (fun _ _=>False) s)(n:Nat)(h:I n s) :
  codeAny (model prog w) A (.compLoop (.ListComp elt [⟨target,iter,ifs,0⟩] scope pos) 0 it acc env) R s:=by
 refine codeAny_loop rfl I (fun n s hI=>?_) n h;show wpAny _ A ((compTurn (.ListComp elt [⟨target,iter,ifs,0⟩] scope pos) 0 it acc env).onRaise (fun x=>do noteFrame x env;theTreesLotGoes x)) _ _ s;refine wpAny_noted ?_;rw[compTurn_list];refine wpAny_bind (wpAny_standAt (wpAny_bind (wpAny_mono (turn n s hI) (fun r s₁ h₁=>?_) fun _ _ z=>z.elim)))
 cases r with
 |none=>exact wpAny_pure h₁
 |some v=>
  refine wpAny_bind (wpAny_mono h₁ (fun _ s₀ h₀=>?_) fun _ _ z=>z.elim);refine wpAny_bind (wpAny_mono h₀ (fun _ s₂ h₂=>wpAny_bind (wpAny_mono h₂ (fun ok s₃ h₃=>?_) fun _ _ z=>z.elim)) fun _ _ z=>z.elim)
  cases ok with
  |false=>exact wpAny_pure ⟨rfl,h₃⟩
  |true=>
   rw[if_pos rfl] at h₃;show wpAny _ _ ((do let _ <- call (.builtin "list.append") [acc,<- eval elt env]) >>= fun _=>again (.compLoop (.ListComp elt [⟨target,iter,ifs,0⟩] scope pos) 0 it acc env)) _ _ _;exact wpAny_bind (wpAny_bind (wpAny_mono h₃ (fun x s₄ h₄=>wpAny_bind (wpAny_mono h₄ (fun _ s₅ h₅=>wpAny_pure (wpAny_pure ⟨rfl,h₅⟩)) fun _ _ z=>z.elim)) fun _ _ z=>z.elim))
end
structure yS (X:Cx) (scope:Scope) (cl:List (Str × Addr)) (Nc:List Str) (nl:Nat) (fr:List Nat):Prop where
 clos:closureFor scope X.env=pure cl
 kind:scope.kind=.function
 names:∀y∈scope.names,y.2=.local->scope.names.lookup y.1=some .local
 cell:∀y∈scope.names,y.2≠.cell
 sub:∀x c,cl.lookup x=some c->X.env.cells.lookup x=some c
 has:∀x,(relabel scope X.env).names.lookup x=some .cell\/(relabel scope X.env).names.lookup x=some .free->∃c,cl.lookup x=some c
 len:Nc.length=nl+fr.length
 tail:∀i n,Nc[nl+i]?=some n->∃j,fr[i]?=some j/\X.N[j]?=some n/\X.env.kindOf n=some .cell/\cl.lookup n=X.env.cells.lookup n/\((relabel scope X.env).names.lookup n=some .cell\/(relabel scope X.env).names.lookup n=some .free)
abbrev fM (X:Cx)(scope:Scope)(cl:List (Str × Addr))(Nc:List Str)(C:Addr)(s3:Shared)(H3:Hp)(fp:List Addr)(pins:List (Addr × Obj)):Cx:=
 { X with N:=Nc,s₀:=s3,H₀:=H3,env:=compEnvC scope cl C X.env,outer:=X.stack,ex:=fp,fn:=fun _=>false,pn:=X.pn++pins,xe:=fun _ _=>False }
def σC (nl:Nat)(fr:List Nat)(σ:St):St:=replicate nl none++fr.map fun j=>(σ[j]?).join
abbrev PIf (X:Cx)(ifs:List Expr)(t:TT):Prop:=
 ∀(pins:List (Addr × Obj)) (s:Shared) (σ:St) (H:Hp) (Q:Bool->Hp->Prop),Inv X pins σ H s->t σ H Q->wpAny (model X.prog X.w) X.A (Vi ifs X.env) (TP X pins σ Q) X.xe s
theorem fC {X:Cx}:PIf X [] (fun _ H Q=>Q true H):=fun _ _ _ H _ I h=>wpAny_pure ⟨H,I,h⟩
theorem qT {X:Cx}{c:Expr}{t:TT}(h:PT X c t):PIf X [c] t:=fun pins s σ H Q I q=>wpAny_tests_one (h pins s σ H Q I q)
section
variable {X:Cx} {scope:Scope} {cl:List (Str × Addr)} {Nc:List Str} {nl:Nat} {fr:List Nat} {pins:List (Addr × Obj)} {σ:St} {H3:Hp} {s3:Shared} {fp:List Addr} {h4:Heap} {tk:Nat}
theorem Ep (ck:yS X scope cl Nc nl fr)(I:Inv X pins σ H3 s3)(hf:∀b∈fp,mX X pins H3 b)(hfs:∀b∈fp,b < s3.heap.objs.size)(hns:h4.Ns s3.heap.objs.size fun _=>none)(hk:∀b o,s3.heap.get? b=some o->h4.get? b=some o) :
  Inv (fM X scope cl Nc s3.heap.objs.size s3 H3 fp pins) [] (σC nl fr σ) H3 { s3 with heap:=h4,toks:=tk }:=by
 have stk:∀b∈frs X.stack,b∈X.env.locals :: X.fs:=I.stkSub;have nfs:∀b,b≠X.env.locals->b∉X.fs->b∉frs X.stack:=fun b h1 h2 z=>(mem_cons.mp (stk b z)).elim h1 h2;have ltc:∀x c,cl.lookup x=some c->c < s3.heap.objs.size:=fun x c e=>by
  obtain⟨v,z⟩:=I.cell x c (ck.sub x c e);exact z.lt
 refine⟨⟨I.ok.mod,ck.kind,I.ok.glob,I.ok.blt,Nat.le_refl _,fun x y c h1 h2=>I.ok.inj x y c (ck.sub x c h1) (ck.sub y c h2),fun x hx=>ck.has x hx,fun x c hz=>Bool.noConfusion hz,I.ok.hd,I.ok.frames,.inl rfl,fun b hb=>?_,I.bs,Nat.le_trans I.ok.bsz I.sz,fun b o e hb=>?_,fun b hb=>?_,I.stack,I.stkFree⟩,
  rfl,I.bare,Un.kept hk,⟨_,hns,fun i x v h1 h2 h3=>?_⟩,fun x c e=>?_,I.hok.fresh (Nat.le_refl _),fun x c e=>I.freeC x c (ck.sub x c e),fun p hp=>?_,I.hok.kept hk,?_⟩
 ·obtain⟨f0,f1,f2,f3,f4,f5⟩:=hf b hb;exact⟨Nat.ne_of_lt (hfs b hb),fun x c e=>f4 x c (ck.sub x c e)⟩
 ·obtain⟨f0,f1,f2,f3,f4,f5⟩:=hf b hb;rcases f3 with z | z
  ·exact I.ok.noex b o e z
  ·exact absurd (Nat.lt_of_lt_of_le (Heap.lt_size e) (Nat.le_trans I.ok.bsz z)) (Nat.lt_irrefl _)
 ·obtain⟨f0,f1,f2,f3,f4,f5⟩:=hf b hb;exact nfs b f1 f2
 ·-- a name's value
  unfold σC at h2
  by_cases hi:i < nl
  ·rw[getElem?_append_left (by simpa using hi),getElem?_replicate] at h2;split at h2<;>cases h2
  ·have hi':nl<=i:=by lia
   rw[getElem?_append_right (by simpa using hi'),length_replicate,getElem?_map] at h2;obtain⟨k,rfl⟩:∃k,i=nl+k:=⟨i - nl,by lia⟩
   obtain⟨j,e1,e2,e3,e4,e5⟩:=ck.tail k x h1;rw[Nat.add_sub_cancel_left,e1] at h2;have h2':(σ[j]?).join=some v:=by simpa using h2
   have h2'':σ[j]?=some (some v):=by
    cases q:σ[j]? with
    |none=>rw[q] at h2';cases h2'
    |some z=>rw[q] at h2';exact congrArg some h2'
   obtain⟨m,hn,hl⟩:=I.loc;obtain⟨u,r,l⟩:=hl j x v e2 h2'' (.inr (.inl e3));refine⟨u,r,?_⟩;rcases l with ⟨k1,_⟩ | ⟨k1,c,ec,z⟩
   ·rw[e3] at k1;cases k1
   ·obtain⟨o,ho,hd⟩:=z;exact .inr ⟨e5,c,by show cl.lookup x=some c;rw[e4];exact ec,o,hk _ _ ho,hd⟩
 ·obtain⟨v,o,ho,hd⟩:=I.cell x c (ck.sub x c e);exact⟨v,o,hk _ _ ho,hd⟩
 ·have hp':p∈X.pn++pins:=by simpa using hp
  obtain⟨e,n,ne,nf,d⟩:=I.pin p hp';exact⟨hk _ _ e,n,Nat.ne_of_lt (Heap.lt_size e),nfs _ ne nf,d⟩
 ·unfold σC;show _=Nc.length;rw[List.length_append,length_replicate,length_map,ck.len]
theorem No {pins':List (Addr × Obj)}{σ':St}{H':Hp}{s':Shared}(I:Inv X pins σ H3 s3)(hf:∀b∈fp,mX X pins H3 b)(J:Inv (fM X scope cl Nc s3.heap.objs.size s3 H3 fp pins) pins' σ' H' s'):Inv X pins σ H' s'/\mX X pins H' s3.heap.objs.size:=by
 refine⟨I.call' (ch:=fp) J.os J.base J.hok J.bare fun b hb=>?_,I.fpOk (Nat.le_refl _) J.free⟩;obtain⟨f0,f1,f2,f3,f4,f5⟩:=hf b hb;exact⟨f3,f1,f4,f5⟩
theorem Inv.off {b:Addr}{H:Hp}{s:Shared}{h':Heap}(I:Inv X pins σ H s)(f:mX X pins H b)(hs:Heap.SameBut b s.heap h'):Inv X pins σ H { s with heap:=h' }:=by
 obtain⟨f0,f1,f2,f3,f4,f5⟩:=f;exact I.turned (t':=s.toks) (it:=b) (fun c o hb e=>(hs.2 c hb).trans e) f0 f1 f3 f4 f5
end
def Bi (J:It)(nl:Nat)(fr:List Nat)(g:TG)(tt:TT)(te:TE)(σ:St)(D:Addr)(H1:Hp)(Q:VK):Prop:=
 ∃W:Nat->Nat->List V->Hp->Prop,(∃m,W 0 m [] (upd H1 D (.lst [])))/\∀i m ys H2,W i m ys H2->H2 D=some (.lst ys)/\
  ((J.stop i H2/\Q (.ref D) H2)\/(J.go i H2/\∀x H3,J.yld i H2 x H3->g x (σC nl fr σ) H3 fun σ2 H4=>σ2.length=(σC nl fr σ).length/\(∀(i:Nat) v,(σC nl fr σ)[i]?=some (some v)->σ2[i]?=some (some v))/\
   tt σ2 H4 fun b H5=>if b=true then te σ2 H5 fun y H6=>H6 D=some (.lst ys)/\ys.length < sizeLine/\∃m',m' < m/\W (i+1) m' (ys++[y]) (upd H6 D (.lst (ys++[y])))
    else ∃m',m' < m/\W (i+1) m' ys H5))
def Qr (wi:TI)(nl:Nat)(fr:List Nat)(g:TG)(tt:TT)(te:TE):TE:=fun σ H Q=>wi σ H fun J H1=>∀D,H1 D=none->Bi J nl fr g tt te σ D H1 Q
section
variable {X:Cx} {scope:Scope} {cl:List (Str × Addr)} {Nc:List Str} {nl:Nat} {fr:List Nat} {elt tg iter:Expr} {ifs:List Expr} {pos:Pos} {wi:TI} {g:TG} {tt:TT} {te:TE}
theorem Ba (hc:X.calm=true)(ck:yS X scope cl Nc nl fr)(hi:PI X tg iter wi)(hg:∀C s3 H3 fp pins,PG (fM X scope cl Nc C s3 H3 fp pins) tg g)(ht:∀C s3 H3 fp pins,PIf (fM X scope cl Nc C s3 H3 fp pins) ifs tt)(he:∀C s3 H3 fp pins,PE (fM X scope cl Nc C s3 H3 fp pins) elt te){pins:List (Addr × Obj)}{s:Shared}{σ:St}{H:Hp}{Q:VK}(I:Inv X pins σ H s)(h:Qr wi nl fr g tt te σ H Q){RR:Value->Addr->Result->Shared->Prop}(fin:∀D C s',(∃H',(∃m,s'.heap.Ns C m)/\Inv X pins σ H' s'/\mX X pins H' C/\Q (.ref D) H')->RR (.ref D) C (.ok .next) s') :
  wpAny (model X.prog X.w) X.A (eval iter X.env) (fun x s₁=>wpAny (model X.prog X.w) X.A (pyIter x) (fun it s₂=>wpAny (model X.prog X.w) X.A (newList []) (fun acc s₃=>
   wpAny (model X.prog X.w) X.A (newFunctionEnv scope X.env.globals cl [] X.env.qual none .none (some X.env)) (fun cenv s₄=>
    codeAny (model X.prog X.w) X.A (.compStart (.ListComp elt [⟨tg,iter,ifs,0⟩] scope pos) 0 it acc { cenv with scope:=relabel scope X.env }) (RR acc cenv.locals) s₄) X.xe s₃) X.xe s₂) X.xe s₁) X.xe s:=by
 refine thn (hi pins s σ H _ I h) fun v s1 h1=>thn h1 fun itv s2 h2=>?_;obtain⟨it,fp,tn,J,H2,e,I2,T,st2,f2,hD⟩:=h2;subst e;have hn2:H2 s2.heap.objs.size=none:=I2.hok.fresh (Nat.le_refl _);obtain⟨W,⟨m0,w0⟩,turn⟩:=hD s2.heap.objs.size hn2;refine wpAny_newObj_type (wpAny_newFunctionEnv ck.cell (by intro y hy;simp at hy) (fun h4 hns hsb=>?_) ck.kind);dsimp only at hns hsb ⊢;have I3:Inv X pins σ (upd H2 s2.heap.objs.size (.lst [])) { s2 with heap:=s2.heap.push { cls:=.type "list",dict:=none,data:=.seq ([]:List Value).toArray } }:=
  I2.laid (t':=s2.toks) (fun b u e=>Heap.get?_push_of_some _ e) (Nat.le_refl _) ⟨Nat.zero_le _,[],0,.nil,Heap.get?_push_size _ rfl⟩
 have hfs:∀b∈fp,b < s2.heap.objs.size:=fun b hb=>by
  obtain⟨o,e,_⟩:=T.obj 0 _ st2 b hb;exact Heap.lt_size e
 have f3:∀b∈fp,mX X pins (upd H2 s2.heap.objs.size (.lst [])) b:=fun b hb=>⟨by rw[aW (Nat.ne_of_lt (hfs b hb))];exact(f2 b hb).1,(f2 b hb).2⟩
 generalize hH3:upd H2 s2.heap.objs.size (.lst [])=H3 at *
 generalize hs3:({ s2 with heap:=s2.heap.push { cls:=.type "list",dict:=none,data:=.seq ([]:List Value).toArray } }:Shared)=s3 at *
 have z3:s3.heap=s2.heap.push { cls:=.type "list",dict:=none,data:=.seq ([]:List Value).toArray }:=by rw[<- hs3]
 have hsz3:s3.heap.objs.size=s2.heap.objs.size+1:=by rw[z3,Heap.size_push]
 rw[<- z3] at hns hsb ⊢;have hk4:∀b o,s3.heap.get? b=some o->h4.get? b=some o:=fun b o e=>hsb.extBut b o (Nat.ne_of_lt (Heap.lt_size e)) (Heap.get?_push_of_some _ e);have hfs3:∀b∈fp,b < s3.heap.objs.size:=fun b hb=>Nat.lt_of_lt_of_le (hfs b hb) (by rw[hsz3];exact Nat.le_succ _);have hns':h4.Ns s3.heap.objs.size fun _=>none:=by simpa using hns
 have K0:=fun tk=>Ep (tk:=tk) ck I3 f3 hfs3 hns' hk4;have stat:∀{H':Hp},(∀b∈fp,H' b=none)->∀b∈fp,mX (fM X scope cl Nc s3.heap.objs.size s3 H3 fp pins) [] H' b:=fun {H'} hn b hb=>by
  obtain⟨f0,g1,g2,g3,g4,g5⟩:=f3 b hb;refine⟨hn b hb,Nat.ne_of_lt (hfs3 b hb),fun z=>?_,.inl hb,fun x c e=>g4 x c (ck.sub x c e),fun p hp=>g5 p (by simpa using hp)⟩;exact(mem_cons.mp (I3.stkSub b z)).elim g1 g2
 have st4:tn 0 h4:=T.keep 0 _ _ st2 fun b hb o e=>hk4 b o (by rw[z3];exact Heap.get?_push_of_some _ e);have loop:∀tk,codeAny (model X.prog X.w) X.A (.compLoop (.ListComp elt [⟨tg,iter,ifs,0⟩] scope pos) 0 (.ref it) (.ref s2.heap.objs.size) (compEnvC scope cl s3.heap.objs.size X.env)) (RR (.ref s2.heap.objs.size) s3.heap.objs.size) { s3 with heap:=h4,toks:=tk }:=by
  intro tk;refine Jx (fun n s'=>∃i ys H',Inv (fM X scope cl Nc s3.heap.objs.size s3 H3 fp pins) [] (σC nl fr σ) H' s'/\tn i s'.heap/\(∀b∈fp,H' b=none)/\W i n ys H') ?_ m0 ⟨0,[],H3,K0 tk,st4,fun b hb=>(f3 b hb).1,w0⟩;rintro n s5 ⟨i,ys,H5,I5,st5,fr5,w5⟩;obtain⟨hl5,q5⟩:=turn i n ys H5 w5;rcases q5 with ⟨stop,qn⟩ | ⟨go,step⟩
  ·refine wpAny_mono (T.done (fM X scope cl Nc s3.heap.objs.size s3 H3 fp pins) rfl rfl rfl hc i [] s5 (σC nl fr σ) H5 (fun _ _=>False) I5 (stat fr5) st5 stop) (fun r s6 h6=>?_) fun _ _ z=>z;obtain⟨hr,I6⟩:=h6;subst hr;obtain⟨z1,z2⟩:=No I3 f3 I6;refine fin _ _ _ ⟨H5,?_,z1,z2,qn⟩;obtain⟨m,hm,_⟩:=I6.loc;exact⟨m,hm⟩
  ·refine wpAny_mono (T.item (fM X scope cl Nc s3.heap.objs.size s3 H3 fp pins) rfl rfl rfl hc i [] s5 (σC nl fr σ) H5 (fun _ _=>False) I5 (stat fr5) st5 go) (fun r s6 h6=>?_) fun _ _ z=>z;obtain⟨u,hr,h6⟩:=h6;subst hr;refine wpAny_mono h6 (fun _ s7 h7=>?_) fun _ _ z=>z;obtain⟨x,H7,I7,r7,y7,st7,fr7⟩:=h7;have I7':=I7.pinned (stat fr7) (T.obj _ _ st7);refine wpAny_mono (hg s3.heap.objs.size s3 H3 fp pins _ s7 _ H7 x u _ I7' r7 (step x H7 y7)) (fun _ s8 h8=>?_) fun _ _ z=>z;obtain⟨σ8,H8,I8,l8,k8,q8⟩:=h8;refine wpAny_mono (ht s3.heap.objs.size s3 H3 fp pins _ s8 σ8 H8 _ I8 q8) (fun b s9 h9=>?_) fun _ _ z=>z;obtain⟨H9,I9,q9⟩:=h9;have again:∀{ys':List V} {H':Hp} {s':Shared} {m':Nat},Inv (fM X scope cl Nc s3.heap.objs.size s3 H3 fp pins) ([]++tT fp s7.heap) σ8 H' s'->m' < n->W (i+1) m' ys' H'->
     ∃m,m < n/\∃i ys H',Inv (fM X scope cl Nc s3.heap.objs.size s3 H3 fp pins) [] (σC nl fr σ) H' s'/\tn i s'.heap/\(∀b∈fp,H' b=none)/\W i m ys H':=fun {ys' H' s' m'} I' hm w'=>by
    refine⟨m',hm,i+1,ys',H',I'.unpinned.weak l8.symm k8,T.keep _ _ _ st7 fun b hb o e=>(I'.pin (b,o) (mem_append_right _ (mem_append_right _ (kE hb e)))).1,fun b hb=>?_,w'⟩;obtain⟨o,e,d⟩:=T.obj _ _ st7 b hb;exact(I'.pin (b,o) (mem_append_right _ (mem_append_right _ (kE hb e)))).2.1
   cases b with
   |false=>
    rw[if_neg Bool.false_ne_true] at q9 ⊢;obtain⟨m',hm,w9⟩:=q9;exact again I9 hm w9
   |true=>
    rw[if_pos rfl] at q9 ⊢;refine wpAny_mono (he s3.heap.objs.size s3 H3 fp pins _ s9 σ8 H9 _ I9 q9) (fun yv s10 h10=>?_) fun _ _ z=>z;obtain⟨y,H10,I10,r10,hl10,hz10,m',hm,w10⟩:=h10;refine wpAny_mono (gC (X:=fM X scope cl Nc s3.heap.objs.size s3 H3 fp pins) _ s10 σ8 H10 (.ref s2.heap.objs.size) [y] _ [yv] (fun v H'=>H'=upd H10 s2.heap.objs.size (.lst (ys++[y]))) I10 rfl (.cons r10 .nil) ⟨_,ys,y,rfl,rfl,hl10,hz10,rfl⟩) (fun _ s11 h11=>?_) fun _ _ z=>z;obtain⟨_,H11,I11,_,e11⟩:=h11;subst e11;exact again I11 hm w10
 have L:=loop (s2.toks+([]:List (Str × Value)).length);rw[show s3.gens=s2.gens by rw[<- hs3],show s3.drawn=s2.drawn by rw[<- hs3],show s3.os=s2.os by rw[<- hs3]] at L;exact codeAny_compStart_list L (T.self _ 0 _ _ _ st4 L)
theorem dW (hc:X.calm=true)(ck:yS X scope cl Nc nl fr)(hi:PI X tg iter wi)(hg:∀C s3 H3 fp pins,PG (fM X scope cl Nc C s3 H3 fp pins) tg g)(ht:∀C s3 H3 fp pins,PIf (fM X scope cl Nc C s3 H3 fp pins) ifs tt)(he:∀C s3 H3 fp pins,PE (fM X scope cl Nc C s3 H3 fp pins) elt te)(hs:∀x,foldedSetIterable iter X.env x=pure x:=by intro _;rfl):PE X (.ListComp elt [⟨tg,iter,ifs,0⟩] scope pos) (Qr wi nl fr g tt te):=by
 intro pins s σ H Q I h;rw[eval_ListComp];refine wpAny_comprehension_free (use:=none) rfl hs ck.clos ck.kind ck.names (Ba (RR:=fun acc C=>compPost (model X.prog X.w) X.A X.xe none (EP X pins σ Q) acc C) hc ck hi hg ht he I h fun D C s' hh=>?_);obtain⟨H',⟨m,hm⟩,hI,hF,q⟩:=hh;exact⟨m,hm,fun h' hs'=>⟨.ref D,H',hI.off hF hs',rfl,q⟩⟩
theorem Fe {i:Nat}{y:Str}{py spos:Pos}(hN:X.N.Nodup)(hiy:X.N[i]?=some y)(hy:X.env.scope.names.lookup y=some .local)(hc:X.calm=true)(ck:yS X scope cl Nc nl fr)(hi:PI X tg iter wi)(hg:∀C s3 H3 fp pins,PG (fM X scope cl Nc C s3 H3 fp pins) tg g)(ht:∀C s3 H3 fp pins,PIf (fM X scope cl Nc C s3 H3 fp pins) ifs tt)(he:∀C s3 H3 fp pins,PE (fM X scope cl Nc C s3 H3 fp pins) elt te)(hsw:swapsWith (.ListComp elt [⟨tg,iter,ifs,0⟩] scope pos) (some (.Name y py)) spos.line X.env=pure true)(hs:∀x,foldedSetIterable iter X.env x=pure x:=by intro _;rfl):PS X (.Assign [.Name y py] (.ListComp elt [⟨tg,iter,ifs,0⟩] scope pos) spos) (Xk (Qr wi nl fr g tt te) (iC i)):=by
 intro pins s σ H D I h;rw[exec_Assign_Name_used _ _ _ _ hsw];refine wpAny_bind (wpAny_standAt (wpAny_bind ?_));show wpAny _ X.A (do let _ <- comprehension (.ListComp elt [⟨tg,iter,ifs,0⟩] scope pos) scope X.env _ (newList []) false (eval iter X.env) (some (assign (.Name y py) X.env))) _ _ s;refine wpAny_bind (wpAny_mono (wpAny_comprehension_free (use:=some (assign (.Name y py) X.env)) (Q:=fun _ s'=>SP X pins D .next s') rfl hs ck.clos ck.kind ck.names
  (Ba (RR:=fun acc C=>compPost (model X.prog X.w) X.A X.xe (some (assign (.Name y py) X.env)) (fun _ s'=>SP X pins D .next s') acc C) hc ck hi hg ht he I h fun Dd C s' hh=>?_)) (fun _ s' hq=>wpAny_pure (wpAny_pure hq)) fun _ _ e=>e)
 obtain⟨H',⟨m,hm⟩,hI,hF,q⟩:=hh;show wpAny _ X.A (assign (.Name y py) X.env (.ref Dd)) _ _ _;refine wpAny_assign_Name (wS hI hN hiy (.inl hy) (v:=.ref Dd) rfl (fun s2 I2 hsb=>?_) (.inr hy));obtain⟨a,sb,ha⟩:=hsb;have hCa:C≠a:=by
  rcases ha with z | z
  ·rw[z];exact hF.2.1
  ·exact Ne.symm (hF.2.2.2.2.1 y a z)
 refine⟨m,hm.sameBut sb hCa,fun h' hs'=>⟨_,H',I2.off hF hs',q⟩⟩
end
end L2
namespace Mq
abbrev Q2:=Int × Int
def gc (a b:Int):Int:=(Int.gcd a b:Nat)
theorem Hm (a b:Int):gc b (Int.fmod a b)=gc a b:=by
 unfold gc;rw[Int.fmod_def,Int.gcd_comm a b,Int.sub_eq_add_neg,<- Int.mul_neg,Int.gcd_add_mul_left_right]
theorem vT {a b:Int}(h:b≠0):(Int.fmod a b).natAbs < b.natAbs:=by
 rcases (by lia:0 < b\/b < 0) with h1 | h1
 ·have:=Int.fmod_nonneg_of_pos a h1;have:=Int.fmod_lt_of_pos a h1;lia
 ·have h2:0 < -b:=by lia
  have e:Int.fmod a b=- Int.fmod (-a) (-b):=by
   rw[Int.neg_fmod_neg];lia
  have:=Int.fmod_nonneg_of_pos (-a) h2;have:=Int.fmod_lt_of_pos (-a) h2;lia
theorem Gc (a:Int):gc a 0=if a < 0 then -a else a:=by
 unfold gc;rw[Int.gcd_zero];split<;>lia
theorem Xj (a b:Int):gc (if a < 0 then -a else a) (if b < 0 then -b else b)=gc a b:=by
 unfold gc;split<;>split<;>simp
theorem uM {a b:Int}(h:b≠0):0 < gc a b:=by
 have:=Int.gcd_pos_of_ne_zero_right a h;unfold gc;lia
structure Low (p:Q2):Prop where
 pos:1<=p.2
 one:gc p.1 p.2=1
def dvr (t b:Int):Int:=if b < 0 then -gc t b else gc t b
def red (t b:Int):Q2:=(Int.fdiv t (dvr t b),Int.fdiv b (dvr t b))
theorem pZ {t b:Int}(h:b≠0):dvr t b≠0:=by
 have:=uM (a:=t) h;unfold dvr;split<;>lia
theorem fY {a g k:Int}(hg:g≠0)(h:a=g*k):Int.fdiv a g=k:=by
 rw[h,Int.mul_fdiv_cancel_left _ hg]
theorem Tt (t b:Int):dvr t b ∣ t/\dvr t b ∣ b:=by
 have h1:gc t b ∣ t:=Int.gcd_dvd_left t b;have h2:gc t b ∣ b:=Int.gcd_dvd_right t b;unfold dvr;split
 ·exact⟨Int.neg_dvd.mpr h1,Int.neg_dvd.mpr h2⟩
 ·exact⟨h1,h2⟩
theorem qE {t b:Int}(h:b≠0):t=dvr t b*(red t b).1/\b=dvr t b*(red t b).2:=by
 obtain⟨⟨x,hx⟩,⟨y,hy⟩⟩:=Tt t b;have hg:=pZ (t:=t) h;have e1:(red t b).1=x:=fY hg hx;have e2:(red t b).2=y:=fY hg hy;rw[e1,e2];exact⟨hx,hy⟩
theorem iA {t b:Int}(h:b≠0):Low (red t b):=by
 obtain⟨h1,h2⟩:=qE (t:=t) h;have hg:=pZ (t:=t) h;have hp:=uM (a:=t) h;have nd:(dvr t b).natAbs=(gc t b).natAbs:=by unfold dvr;split<;>simp
 have e:Int.gcd t b=(dvr t b).natAbs*Int.gcd (red t b).1 (red t b).2:=by
  rw[<- Int.gcd_mul_left,<- h1,<- h2]
 have e2:(gc t b).natAbs=Int.gcd t b:=by unfold gc;simp
 rw[nd,e2] at e;have hp':0 < Int.gcd t b:=by unfold gc at hp;lia
 have one:Int.gcd (red t b).1 (red t b).2=1:=by
  have:Int.gcd t b*Int.gcd (red t b).1 (red t b).2=Int.gcd t b*1:=by lia
  exact Nat.eq_of_mul_eq_mul_left hp' this
 refine⟨?_,by unfold gc;rw[one];rfl⟩;have sgn:0 < (red t b).2:=by
  by_cases hb:b < 0
  ·have hd:dvr t b < 0:=by unfold dvr;rw[if_pos hb];lia
   have hq:¬(red t b).2<=0:=fun q=>by
    have:=Int.mul_nonneg_of_nonpos_of_nonpos (Int.le_of_lt hd) q;lia
   lia
  ·have hd:0 < dvr t b:=by unfold dvr;rw[if_neg hb];lia
   have hq:¬(red t b).2<=0:=fun q=>by
    have:=Int.mul_nonpos_of_nonneg_of_nonpos (Int.le_of_lt hd) q;lia
   lia
 lia
theorem wX {t b:Int}(h:b≠0):(red t b).1*b=t*(red t b).2:=by
 obtain⟨h1,h2⟩:=qE (t:=t) h;generalize (red t b).1=x at *
 generalize (red t b).2=y at *
 generalize dvr t b=g at *
 subst h1 h2;grind
theorem iV {a g k:Int}(hg:g≠0)(h:a=g*k):k.natAbs<=a.natAbs:=by
 rw[h,Int.natAbs_mul];exact Nat.le_mul_of_pos_left _ (by lia)
theorem lT {t b:Int}(h:b≠0):(red t b).1.natAbs<=t.natAbs/\(red t b).2.natAbs<=b.natAbs:=by
 obtain⟨h1,h2⟩:=qE (t:=t) h;exact⟨iV (pZ h) h1,iV (pZ h) h2⟩
theorem Cg {t b:Int}(h:b≠0):(dvr t b).natAbs<=b.natAbs:=by
 have e:(dvr t b).natAbs=Int.gcd t b:=by unfold dvr gc;split<;>simp
 rw[e];exact Int.gcd_le_natAbs_right t h
theorem Ph {p q:Q2}(hp:Low p)(hq:Low q)(h:p.1*q.2=q.1*p.2):p=q:=by
 have gp:Int.gcd p.2 p.1=1:=by have:=hp.one;rw[Int.gcd_comm];unfold gc at this;lia
 have gq:Int.gcd q.2 q.1=1:=by have:=hq.one;rw[Int.gcd_comm];unfold gc at this;lia
 have d1:p.2 ∣ q.2:=by
  have:p.2 ∣ p.1*q.2:=⟨q.1,by rw[h,Int.mul_comm]⟩
  have:=Int.dvd_gcd_mul_iff_dvd_mul.mpr this;rw[gp] at this;simpa using this
 have d2:q.2 ∣ p.2:=by
  have:q.2 ∣ q.1*p.2:=⟨p.1,by rw[<- h,Int.mul_comm]⟩
  have:=Int.dvd_gcd_mul_iff_dvd_mul.mpr this;rw[gq] at this;simpa using this
 have l1:=Int.le_of_dvd (by have:=hq.pos;lia) d1;have l2:=Int.le_of_dvd (by have:=hp.pos;lia) d2;have e2:p.2=q.2:=by lia
 have e1:p.1=q.1:=by
  rw[e2] at h;exact Int.eq_of_mul_eq_mul_right (by have:=hq.pos;lia) h
 exact Prod.ext e1 e2
def gY (p q:Q2):Q2:=red (p.1*q.2+q.1*p.2) (p.2*q.2)
def minus (p q:Q2):Q2:=red (p.1*q.2 - q.1*p.2) (p.2*q.2)
def gB (p q:Q2):Q2:=red (p.1*q.1) (p.2*q.2)
def mU (p q:Q2):Q2:=red (p.1*q.2) (p.2*q.1)
def tot (l:List Q2):Q2:=l.foldl gY (0,1)
theorem gF {a b:Int}(ha:1<=a)(hb:1<=b):a*b≠0:=by
 have:=Int.mul_pos (show 0 < a by lia) (show 0 < b by lia);lia
theorem jW {p q:Q2}(hp:1<=p.2)(hq:1<=q.2):Low (gY p q):=iA (gF hp hq)
def B (n:Nat)(i:Int):Prop:=i.natAbs < 2 ^ n
structure Bd (n:Nat) (p:Q2):Prop where
 a:B n p.1
 b:B n p.2
theorem B.mono {n m:Nat}{i:Int}(h:B n i)(l:n<=m):B m i:=Nat.lt_of_lt_of_le h (Nat.pow_le_pow_right (by decide) l)
theorem B.mul {n m:Nat}{i j:Int}(h:B n i)(q:B m j):B (n+m) (i*j):=by
 unfold B at *
 rw[Int.natAbs_mul,Nat.pow_add];exact Nat.mul_lt_mul'' h q
theorem B.add {n:Nat}{i j:Int}(h:B n i)(q:B n j):B (n+1) (i+j):=by
 unfold B at *
 have:=Int.natAbs_add_le i j;rw[Nat.pow_succ];lia
theorem B.neg {n:Nat}{i:Int}(h:B n i):B n (-i):=by unfold B at *;lia
theorem B.sub {n:Nat}{i j:Int}(h:B n i)(q:B n j):B (n+1) (i - j):=by
 rw[Int.sub_eq_add_neg];exact h.add q.neg
theorem B.le {n:Nat}{i j:Int}(h:B n i)(l:j.natAbs<=i.natAbs):B n j:=Nat.lt_of_le_of_lt l h
theorem Bd.mono {n m:Nat}{p:Q2}(h:Bd n p)(l:n<=m):Bd m p:=⟨h.a.mono l,h.b.mono l⟩
theorem rK {n m:Nat}{p q:Q2}(h:Bd n p)(g:Bd m q)(hp:1<=p.2)(hq:1<=q.2):Bd (n+m+1) (gY p q):=by
 have k:=lT (t:=p.1*q.2+q.1*p.2) (gF hp hq);have a2:B (n+m) (q.1*p.2):=by rw[Nat.add_comm];exact g.a.mul h.b
 exact⟨((h.a.mul g.b).add a2).le k.1,((h.b.mul g.b).mono (Nat.le_succ _)).le k.2⟩
def Pos (l:List Q2):Prop:=∀f∈l,1<=f.2
theorem Jy {l:List Q2}:∀{p:Q2},Low p->Pos l->Low (l.foldl gY p):=by
 induction l with
 |nil=>intro p h _;exact h
 |cons x r ih=>intro p h k;exact ih (jW h.pos (k x (by simp))) fun f hf=>k f (by simp[hf])
theorem Zz:Low (0,1):=⟨Int.le_refl 1,rfl⟩
theorem jF {l:List Q2}(h:Pos l):Low (tot l):=Jy Zz h
end Mq
open Mq (Bd Cg Gc Hm Low Q2 dvr fY gB gF gY gc iA jF jW lT mU pZ rK red tot vT)
namespace L2
open PySem PySem.Spec PyProof.Rows
structure aV (K:Frag) (x qual:Str) (st:Stmt) (dV:Value) (f:Addr) (fd:FuncData):Prop where
 ex:∃(oc:Value) (od:Option Addr) (kV doc pm:Value) (an:Option Addr) (cdv ct:Value) (osl:Array (Option Value)),
  fd=W.fnOf x qual (eU st) (cQ st) (aH st) dV kV doc pm an cdv ct/\K.lookup f=some ⟨oc,od,.func fd,osl⟩/\W.codeIn K cdv qual=true
 kp:W.keepIn K (.ref f)=true
section
variable {P:Program} {w:World} {K:Frag} {mg:Str->Option Value} {base:Heap} {CX:CXT}
theorem aV.okX {x qual:Str}{st:Stmt}{dV:Value}{f:Addr}{fd:FuncData}{N ps:List Str}{k:Nat}{sp:Sp}(F:aV K x qual st dV f fd)(S:aP N ps (aH st))(len:∀vs H Q E,sp vs H Q E->vs.length=ps.length)(hbody:∀(cdv:Value) (A:Around) (outer:List Env) (s:Shared) (H:Hp) (vs:List V) (Q:VK) (E:XK),gX k (A.deeper (envOfC qual (aH st) s.heap.objs.size f cdv))->sp vs H Q E->
   ∃t,PSs (Ei CX P w K mg base N qual (aH st) f cdv A outer s H E) (cQ st) t/\t { nx:=fun _ H'=>Q .non H',rt:=Q } (start N vs) H):aL P w K mg base CX (k+1) f fd ps sp:=by
 obtain⟨oc,od,kV,doc,pm,an,cdv,ct,osl,rfl,lk,hcd⟩:=F.ex;exact Zw lk hcd S len fun A outer s H vs Q E hr hsp=>hbody cdv A outer s H vs Q E hr hsp
theorem aV.ok {x qual:Str}{st:Stmt}{dV:Value}{f:Addr}{fd:FuncData}{N ps:List Str}{k:Nat}{sp:Sp}(F:aV K x qual st dV f fd)(S:aP N ps (aH st))(len:∀vs H Q E,sp vs H Q E->vs.length=ps.length)(hbody:∀(cdv:Value) (A:Around) (outer:List Env) (s:Shared) (H:Hp) (vs:List V) (Q:VK) (E:XK),gX k (A.deeper (envOfC qual (aH st) s.heap.objs.size f cdv))->sp vs H Q E->
   ∃t,PSs (Ei CX P w K mg base N qual (aH st) f cdv A outer s H E).nox (cQ st) t/\t { nx:=fun _ H'=>Q .non H',rt:=Q } (start N vs) H):aL P w K mg base CX (k+1) f fd ps sp:=
 F.okX S len fun cdv A outer s H vs Q E hr hsp=>by
  obtain⟨t,h,q⟩:=hbody cdv A outer s H vs Q E hr hsp;exact⟨t,h.nox,q⟩
theorem aV.binds {x qual:Str}{st:Stmt}{dV:Value}{f:Addr}{fd:FuncData}{ps:List Str}(F:aV K x qual st dV f fd)(h:∀(kV doc pm:Value) (an:Option Addr) (cdv ct:Value) (us:List Value),us.length=ps.length->bindArgs (W.fnOf x qual (eU st) (cQ st) (aH st) dV kV doc pm an cdv ct) ⟨us,[]⟩=pure (ps.zip us)):aM K fd ps []:=by
 obtain⟨oc,od,kV,doc,pm,an,cdv,ct,osl,rfl,lk,hcd⟩:=F.ex;exact .all (h kV doc pm an cdv ct)
theorem rA {x qual:Str}{st:Stmt}{dV:Value}{f:Addr}{oc:Value}{od an:Option Addr}{osl:Array (Option Value)}{kV doc pm cdv ct:Value}(l:K.lookup f=some ⟨oc,od,.func (W.fnOf x qual (eU st) (cQ st) (aH st) dV kV doc pm an cdv ct),osl⟩)(c:W.codeIn K cdv qual=true)(k:kI9 K f):aV K x qual st dV f (W.fnOf x qual (eU st) (cQ st) (aH st) dV kV doc pm an cdv ct):=⟨⟨oc,od,kV,doc,pm,an,cdv,ct,osl,rfl,l,c⟩,k⟩
end
abbrev fT (p:Q2):HO:=.tup [.int p.1,.int p.2]
def Fq (K:Frag)(H:Hp)(a:Addr)(p:Q2):Prop:=SqT K H a [.int p.1,.int p.2]
theorem aY.seqT {K:Frag}{H H':Hp}{a:Addr}{xs:List V}(e:aY H H')(h:SqT K H a xs):SqT K H' a xs:=by
 rcases h with (h | ⟨o,h⟩) | h
 ·exact .inl (.inl (e _ _ h))
 ·exact .inl (.inr ⟨o,e _ _ h⟩)
 ·exact .inr h
theorem aI {H:Hp}{p:Addr}(h:H p=none)(o:HO):aY H (upd H p o):=fun b u q=>by rw[aW (bA q h)];exact q
theorem aY.fq {K:Frag}{H H':Hp}{a:Addr}{p:Q2}(e:aY H H')(h:Fq K H a p):Fq K H' a p:=e.seqT h
theorem Fq.of {K:Frag}{H:Hp}{a:Addr}{p:Q2}(h:H a=some (fT p)):Fq K H a p:=SqT.of h
theorem dA {K:Frag}{σ:St}{H:Hp}{i:Nat}{a:Addr}{p:Q2}{Q:VK}(hv:σ[i]?=some (some (.ref a)))(h:Fq K H a p)(q:Q (.int p.1) H):tOp (Sh K) (Ry i) (tC (.int 0)) σ H Q:=
 ⟨_,hv,a,_,_,_,rfl,rfl,h,rfl,q⟩
theorem cG {K:Frag}{σ:St}{H:Hp}{i:Nat}{a:Addr}{p:Q2}{Q:VK}(hv:σ[i]?=some (some (.ref a)))(h:Fq K H a p)(q:Q (.int p.2) H):tOp (Sh K) (Ry i) (tC (.int 1)) σ H Q:=
 ⟨_,hv,a,_,_,_,rfl,rfl,h,rfl,q⟩
theorem cA {H:Hp}{n m:Nat}{i j:Int}{Q:VK}(h1:Mq.B n i)(h2:Mq.B m j)(h3:n<=1048576)(h4:m<=1048576)(q:Q (.int (i*j)) H):rI Ua (fun i j=>.int (i*j)) (.int i) (.int j) H Q:=
 ⟨_,_,rfl,rfl,⟨n,m,h1,h2,h3,h4⟩,q⟩
theorem fZ {H:Hp}{n:Nat}{i j:Int}{Q:VK}(h1:j≠0)(h2:Mq.B n j)(h3:n<=9000)(q:Q (.int (i.fdiv j)) H):rI Ho (fun i j=>.int (i.fdiv j)) (.int i) (.int j) H Q:=
 ⟨_,_,rfl,rfl,⟨h1,n,h2,h3⟩,q⟩
structure Bl (mg:Str->Option Value):Prop where
 isi:mg "isinstance"=none
 int:mg "int"=none
 bool:mg "bool"=none
 abs:mg "abs"=none
def uI (t:Value):Prop:=t=.type "bool"\/t=.type "str"\/t=.type "NoneType"\/t=.type "tuple"\/t=.type "list"
def oJ (K:Frag):Sp:=fun vs H Q _=>∃x,vs=[x]/\((∃i,x=.int i/\Q (.bl true) H)\/(∃t,mY K H x t/\uI t/\Q (.bl false) H))
def Sq:Sp:=fun vs H Q _=>∃a b:Int,vs=[.int a,.int b]/\Q (.int (gc a b)) H
def jQ (H:Hp)(Q:VK)(p:Q2):Prop:=∀a H',aY H H'->H' a=some (fT p)->Q (.ref a) H'
def gD:Sp:=fun vs H Q _=>∃(t b:Int) (n:Nat),vs=[.int t,.int b]/\b≠0/\Mq.B n b/\n<=9000/\jQ H Q (red t b)
def eP (K:Frag)(f:Q2->Q2->Q2):Sp:=fun vs H Q _=>∃(a b:Addr) (p q:Q2) (n m:Nat),vs=[.ref a,.ref b]/\Fq K H a p/\Fq K H b q/\1<=p.2/\1<=q.2/\Bd n p/\Bd m q/\n+m+1<=9000/\jQ H Q (f p q)
inductive Fqs (K:Frag) (H:Hp):List V->List Q2->Prop where
 |nil:Fqs K H [] []
 |cons {a:Addr} {p:Q2} {xs:List V} {ps:List Q2} (h:Fq K H a p) (q:Fqs K H xs ps):Fqs K H (.ref a :: xs) (p :: ps)
theorem Fqs.same {K:Frag}{H H':Hp}(e:aY H H'):∀{xs:List V} {ps:List Q2},Fqs K H xs ps->Fqs K H' xs ps
 |_,_,.nil=>.nil
 |_,_,.cons h q=>.cons (e.fq h) (Fqs.same e q)
theorem Fqs.length {K:Frag}{H:Hp}:∀{xs:List V} {ps:List Q2},Fqs K H xs ps->xs.length=ps.length
 |_,_,.nil=>rfl
 |_,_,.cons _ q=>by simp[Fqs.length q]
theorem Fqs.get {K:Frag}{H:Hp}:∀{xs:List V} {ps:List Q2} {i:Nat} {x:V},Fqs K H xs ps->xs[i]?=some x->∃a p,x=.ref a/\ps[i]?=some p/\Fq K H a p
 |_,_,_,_,.nil,h=>by simp at h
 |_,_,0,_,.cons h _,e=>by simp at e;exact⟨_,_,e.symm,rfl,h⟩
 |_,_,i+1,_,.cons _ q,e=>by simpa using Fqs.get q (by simpa using e)
theorem Fqs.app {K:Frag}{H:Hp}:∀{xs ys:List V} {ps qs:List Q2},Fqs K H xs ps->Fqs K H ys qs->Fqs K H (xs++ys) (ps++qs)
 |_,_,_,_,.nil,r=>r
 |_,_,_,_,.cons h q,r=>.cons h (Fqs.app q r)
theorem Fq.upd {K:Frag}{H:Hp}{a l:Addr}{p:Q2}{xs:List V}{o:HO}(h:Fq K H a p)(hl:H l=some (.lst xs)):Fq K (L2.upd H l o) a p:=by
 rcases h with (h | ⟨u,h⟩) | h
 ·exact .inl (.inl (by rw[aW (eY h hl (fun z=>by cases z))];exact h))
 ·exact .inl (.inr ⟨u,by rw[aW (eY h hl (fun z=>by cases z))];exact h⟩)
 ·exact .inr h
theorem Fqs.upd {K:Frag}{H:Hp}{l:Addr}{ys:List V}{o:HO}(hl:H l=some (.lst ys)):∀{xs:List V} {ps:List Q2},Fqs K H xs ps->Fqs K (L2.upd H l o) xs ps
 |_,_,.nil=>.nil
 |_,_,.cons h q=>.cons (h.upd hl) (Fqs.upd hl q)
theorem aY.change {H H':Hp}{l:Addr}{o:HO}(s:aY H H')(h:H l=none):aY H (L2.upd H' l o):=fun b u q=>by
 rw[aW (bA q h)];exact s b u q
def qd (p:Q2):PyData:=.tuple [.int p.1,.int p.2]
theorem Fq.dat {K:Frag}{H:Hp}{a:Addr}{p:Q2}(h:Fq K H a p):qJ K H (.ref a) (qd p):=.tup h (.cons (.int _) (.cons (.int _) .nil))
theorem Nj (p:Q2):(qd p).canLay0=true:=rfl
theorem Po (p:Q2):(qd p).depth<=1:=by simp[qd,PyData.depth,PyData.depthAll]
theorem Za (p q:Q2):PyData.eqv (qd p) (qd q)=decide (p=q):=by
 unfold qd;simp only[PyData.eqv,PyData.eqvAll]
 by_cases h:p=q
 ·subst h;simp
 ·rw[decide_eq_false h]
  by_cases h1:p.1=q.1
  ·have h2:p.2≠q.2:=fun z=>h (Prod.ext h1 z);simp[h2]
  ·simp[h1]
theorem Cp {K:Frag}{H:Hp}{a b:Addr}{p q:Q2}{neg:Bool}{Q:VK}(h1:Fq K H a p)(h2:Fq K H b q)(z:Q (.bl (if neg then !decide (p=q) else decide (p=q))) H):Ky K neg (.ref a) (.ref b) H Q:=by
 refine⟨_,_,h1.dat,h2.dat,Nj p,Nj q,?_,?_⟩
 ·have:=Po p;lia
 ·rw[Za];exact z
abbrev Gi (nl:Nat)(fr:List Nat)(g:TG)(tt:TT)(te:TE)(σ:St)(D:Addr)(Pv:Nat->List V->Hp->Prop)(i:Nat)(ys:List V)(x:V)(H:Hp):Prop:=
 g x (σC nl fr σ) H fun σ2 H4=>σ2.length=(σC nl fr σ).length/\(∀(i:Nat) v,(σC nl fr σ)[i]?=some (some v)->σ2[i]?=some (some v))/\
  tt σ2 H4 fun b H5=>if b=true then te σ2 H5 fun y H6=>H6 D=some (.lst ys)/\ys.length < sizeLine/\Pv (i+1) (ys++[y]) (upd H6 D (.lst (ys++[y]))) else Pv (i+1) ys H5
section
variable {nl:Nat} {fr:List Nat} {g:TG} {tt:TT} {te:TE} {σ:St} {D:Addr} {H1:Hp} {Q:VK}
theorem uA {lo:Int}{n:Nat}(Pv:Nat->List V->Hp->Prop)(h0:Pv 0 [] (upd H1 D (.lst [])))(hl:∀i ys H,Pv i ys H->H D=some (.lst ys))(hs:∀i ys H,i < n->Pv i ys H->∀(C:Nat->List V->Hp->Prop),(∀ys H,Pv (i+1) ys H->C (i+1) ys H)->Gi nl fr g tt te σ D C i ys (.int (lo+i)) H)(hd:∀ys H,Pv n ys H->Q (.ref D) H) :
  Bi (Itr lo n) nl fr g tt te σ D H1 Q:=by
 refine⟨fun i m ys H=>m=n - i/\i<=n/\Pv i ys H,⟨n,by simp,Nat.zero_le _,h0⟩,?_⟩;rintro i m ys H ⟨rfl,hi,p⟩;refine⟨hl i ys H p,?_⟩
 by_cases hlt:i < n
 ·refine .inr ⟨hlt,fun x H' y=>?_⟩;obtain⟨e,y⟩:=y;subst e y;exact hs i ys _ hlt p (fun j zs Hz=>∃m',m' < n - i/\m'=n - j/\j<=n/\Pv j zs Hz) fun zs Hz z=>⟨n - (i+1),by lia,rfl,hlt,z⟩
 ·have e:i=n:=by lia
  subst e;exact .inl ⟨Nat.le_refl _,hd ys H p⟩
theorem dR {K:Frag}{a:Addr}{xs:List V}(Pv:Nat->List V->Hp->Prop)(h0:Pv 0 [] (upd H1 D (.lst [])))(hl:∀i ys H,Pv i ys H->H D=some (.lst ys))(hx:∀i ys H,i<=xs.length->Pv i ys H->SqL K H a xs)(hs:∀i ys x H,xs[i]?=some x->Pv i ys H->∀(C:Nat->List V->Hp->Prop),(∀ys H,Pv (i+1) ys H->C (i+1) ys H)->Gi nl fr g tt te σ D C i ys x H)(hd:∀ys H,Pv xs.length ys H->Q (.ref D) H) :
  Bi (Itl K a) nl fr g tt te σ D H1 Q:=by
 refine⟨fun i m ys H=>m=xs.length - i/\i<=xs.length/\Pv i ys H,⟨xs.length,by simp,Nat.zero_le _,h0⟩,?_⟩;rintro i m ys H ⟨rfl,hi,p⟩;refine⟨hl i ys H p,?_⟩;have q:=hx i ys H hi p
 by_cases hlt:i < xs.length
 ·refine .inr ⟨⟨xs,xs[i],q,by simp[hlt]⟩,fun x H' y=>?_⟩;obtain⟨e,y⟩:=y;subst e;exact hs i ys x _ (y xs q) p (fun j zs Hz=>∃m',m' < xs.length - i/\m'=xs.length - j/\j<=xs.length/\Pv j zs Hz) fun zs Hz z=>⟨xs.length - (i+1),by lia,rfl,hlt,z⟩
 ·have e:i=xs.length:=by lia
  subst e;exact .inl ⟨⟨xs,q,Nat.le_refl _⟩,hd ys H p⟩
end
theorem fQ {fr:List Nat}{σ:St}{x:V}:((σC 1 fr σ).set 0 (some x)).length=(σC 1 fr σ).length/\∀(i:Nat) v,(σC 1 fr σ)[i]?=some (some v)->((σC 1 fr σ).set 0 (some x))[i]?=some (some v):=by
 refine⟨by simp,fun i v h=>?_⟩
 match i with
 |0=>unfold σC at h;simp at h
 |k+1=>rw[getElem?_set_ne (by lia)];exact h
theorem fD {names:List (Str × NameKind)}{cl:List (Str × Addr)}(h:names.all (fun y=>!(y.2 == .cell || y.2 == .free) || (cl.lookup y.1).isSome)=true)(x:Str)(hx:names.lookup x=some .cell\/names.lookup x=some .free):∃c,cl.lookup x=some c:=by
 have key:∀k,(k=NameKind.cell\/k=NameKind.free)->names.lookup x=some k->∃c,cl.lookup x=some c:=fun k hk e=>by
  have m:=all_eq_true.mp h _ (PySem.mem_of_lookup e);have:(k == NameKind.cell || k == NameKind.free)=true:=by rcases hk with rfl | rfl<;>rfl
  simp only[this,Bool.not_true,Bool.false_or] at m;exact Option.isSome_iff_exists.mp m
 rcases hx with e | e
 ·exact key _ (.inl rfl) e
 ·exact key _ (.inr rfl) e
section
variable {X:Cx} {pins:List (Addr × Obj)} {σ:St} {H:Hp} {s:Shared} {h':Heap}
theorem Inv.turnedL {t':Nat}{fp:List Addr}(I:Inv X pins σ H s)(k:∀b o,b∉fp->s.heap.get? b=some o->h'.get? b=some o)(hf:∀b∈fp,mX X pins H b):Inv X pins σ H { s with heap:=h',toks:=t' }:=by
 have nit:∀b u,H b=some u->b∉fp:=fun b u e z=>by rw[(hf b z).1] at e;cases e
 have nL:X.env.locals∉fp:=fun z=>(hf _ z).2.1 rfl;refine I.step (g':=s.gens) (d':=s.drawn) (ch:=fp) (fun b hb=>?_) (fun b o _ _ hc e _=>k b o hc e) (fun b o _ _ hc e _=>⟨o.slots,k b o hc e⟩) (fun _ _ _ _ n=>n)
  (fun b o hc e=>⟨o,k b o hc e⟩) (fun _ _ e=>e) (fun _ _ _ e=>e) (fun b ps e=>⟨#[],by rw[e];simp⟩) (fun m hm=>?_) (fun b u e=>?_) I.bare
 ·obtain⟨f0,f1,f2,f3,f4,f5⟩:=hf b hb;exact⟨f3,f1,f4,f5⟩
 ·obtain⟨o,es,ep,ho,r⟩:=hm;exact⟨o,es,ep,k _ o nL ho,r⟩
 ·refine(I.hok b u e).stay (fun c v hc q=>k c v ?_ q) (fun _ q=>q) fun _ _ q=>q;rcases hc with z | z
  ·rw[z];exact nit b u e
  ·exact nit c _ z
end
def Itz (K : Frag)(a b : Addr) : It :=
  ⟨fun i H => ∃ xs ys x y, SqL K H a xs /\ SqL K H b ys /\ xs[i]? = some x /\ ys[i]? = some y,
   fun i H v H' => ∃ T x y, v = .ref T /\ H T = none /\ H' = upd H T (.tup [x, y]) /\ ∀ xs ys, SqL K H a xs -> SqL K H b ys -> xs[i]? = some x /\ ys[i]? = some y,
   fun i H => ∃ xs ys, SqL K H a xs /\ SqL K H b ys /\ (xs.length <= i \/ ys.length <= i)⟩
def qe2 (z TI TO i1 i2 l1 l2:Addr)(i:Nat)(h:Heap):Prop:=
 ZipApart z TI TO i1 i2 l1 l2/\IsZip h z TI TO .none/\IsPair h TI (.ref i1) (.ref i2)/\(∃a b,IsPair h TO a b)/\h.IsListIter i1 l1 i/\h.IsListIter i2 l2 i
theorem Qw {P:Program}{w:World}{K:Frag}{elts:List Expr}{kk:Nat}{tpos:Pos}(z TI TO i1 i2 l1 l2:Addr) :
  Jj P w K (.Tuple elts kk tpos) (Itz K l1 l2) [z,TI,TO,i1,i2] z (qe2 z TI TO i1 i2 l1 l2) where
 mem:=by simp
 obj:=fun i h st b hb=>by
  obtain⟨ap,hz,hi,⟨a,c,ho⟩,⟨o1,e1,c1,d1⟩,⟨o2,e2,c2,d2⟩⟩:=st;simp only[mem_cons,not_mem_nil,or_false] at hb;rcases hb with rfl | rfl | rfl | rfl | rfl
  ·exact⟨_,hz,fun v q=>by cases q⟩
  ·exact⟨_,hi,fun v q=>by cases q⟩
  ·exact⟨_,ho,fun v q=>by cases q⟩
  ·exact⟨o1,e1,fun v q=>by rw[d1] at q;cases q⟩
  ·exact⟨o2,e2,fun v q=>by rw[d2] at q;cases q⟩
 keep:=fun i h h' st k=>by
  obtain⟨ap,hz,hi,⟨a,c,ho⟩,⟨o1,e1,c1,d1⟩,⟨o2,e2,c2,d2⟩⟩:=st;exact⟨ap,k _ (by simp) _ hz,k _ (by simp) _ hi,⟨a,c,k _ (by simp) _ ho⟩,⟨o1,k _ (by simp) _ e1,c1,d1⟩,⟨o2,k _ (by simp) _ e2,c2,d2⟩⟩
 item:=by
  intro X hP hw hK hc i pins s σ H E I hf st hg;subst hP hw hK;obtain⟨ap,hz,hi,⟨a,c,ho⟩,t1,t2⟩:=st;obtain⟨xs,ys,x,y,hx,hy,ex,ey⟩:=hg;obtain⟨its1,rv1,p1,z1⟩:=I.list hx;obtain⟨its2,rv2,p2,z2⟩:=I.list hy;obtain⟨u1,hu1,ru1⟩:=rv1.get ex;obtain⟨u2,hu2,ru2⟩:=rv2.get ey;refine wpAny_pyNext_zip_item ap hz hi ho t1 t2 p1.isList p2.isList (x:=u1) (y:=u2) (by simpa using hu1) (by simpa using hu2) fun h' g1 g2 g3 g4 g5 g6 kk'=>?_;have hn:H s.heap.objs.size=none:=I.hok.fresh (Nat.le_refl _);have lt:∀b∈[z,TI,TO,i1,i2],b < s.heap.objs.size:=fun b hb=>by
   simp only[mem_cons,not_mem_nil,or_false] at hb;obtain⟨o1,e1,_⟩:=t1;obtain⟨o2,e2,_⟩:=t2;rcases hb with rfl | rfl | rfl | rfl | rfl
   ·exact Heap.lt_size hz
   ·exact Heap.lt_size hi
   ·exact Heap.lt_size ho
   ·exact Heap.lt_size e1
   ·exact Heap.lt_size e2
  have I1:Inv X pins σ (upd H s.heap.objs.size (.tup [x,y])) { s with heap:=s.heap.push { cls:=.type "tuple",data:=.seq #[u1,u2] } }:=
   I.laid (t':=s.toks) (fun b o e=>Heap.get?_push_of_some _ e) (Nat.le_refl _) (show dX X.prog X.w _ _ _ (.tup [x,y]) from ⟨zl9 2,[u1,u2],.cons ru1 (.cons ru2 .nil),IsTup.new _ _⟩)
  have hf1:∀b∈[z,TI,TO,i1,i2],mX X pins (upd H s.heap.objs.size (.tup [x,y])) b:=fun b hb=>⟨by rw[aW (Nat.ne_of_lt (lt b hb))];exact(hf b hb).1,(hf b hb).2⟩
  have k1:∀b o,b∉[z,TI,TO,i1,i2]->(s.heap.push { cls:=.type "tuple",data:=.seq #[u1,u2] }).get? b=some o->h'.get? b=some o:=fun b o nb e=>by
   simp only[mem_cons,not_mem_nil,or_false,not_or] at nb
   by_cases hb:b=s.heap.objs.size
   ·subst hb;rw[Heap.get?_push_size _ rfl] at e
    cases e
    exact g5
   ·have e0:s.heap.get? b=some o:=by rw[Heap.get?_push_ne _ _ _ hb] at e;exact e
    exact kk' b o nb.1 nb.2.2.1 nb.2.2.2.1 nb.2.2.2.2 e0
  have I2:Inv X pins σ (upd H s.heap.objs.size (.tup [x,y])) { s with heap:=h',toks:=s.toks }:=I1.turnedL (t':=s.toks) k1 hf1;refine⟨_,rfl,wpAny_letOwnedTupleGo_zip (s:={ s with heap:=h' }) g1 fun h2 q1 q2=>?_⟩;have kz:∀b o,b≠z->h'.get? b=some o->h2.get? b=some o:=fun b o nb e=>(q2.2 b nb).trans e;have I3:Inv X pins σ (upd H s.heap.objs.size (.tup [x,y])) { s with heap:=h2,toks:=s.toks }:=Inv.turnedL (s:={ s with heap:=h',toks:=s.toks }) (t':=s.toks) (fp:=[z]) I2 (fun b o nb e=>kz b o (by simpa using nb) e) fun b hb=>hf1 b (by simp at hb;simp[hb]);have hTI:h'.get? TI=some { cls:=.type "tuple",data:=.seq #[.ref i1,.ref i2] }:=kk' TI _ ap.TIz ap.TITO ap.TIi1 ap.TIi2 hi;obtain⟨o3,e3,c3,d3⟩:=g3;obtain⟨o4,e4,c4,d4⟩:=g4;refine⟨.ref s.heap.objs.size,_,I3,rfl,⟨_,x,y,rfl,hn,rfl,fun xs' ys' h1 h2=>?_⟩,⟨ap,q1,kz _ _ ap.TIz hTI,⟨_,_,kz _ _ ap.TOz g2⟩,⟨o3,kz _ _ ap.i1z e3,c3,d3⟩,⟨o4,kz _ _ ap.i2z e4,c4,d4⟩⟩,fun b hb=>(hf1 b hb).1⟩;rw[I.list_inj h1 hx,I.list_inj h2 hy];exact⟨ex,ey⟩
 done:=by
  intro X hP hw hK hc i pins s σ H E I hf st hg;subst hP hw hK;obtain⟨ap,hz,hi,⟨a,c,ho⟩,t1,t2⟩:=st;obtain⟨xs,ys,hx,hy,hor⟩:=hg;obtain⟨its1,rv1,p1,z1⟩:=I.list hx;obtain⟨its2,rv2,p2,z2⟩:=I.list hy;have l1':=rv1.length;have l2':=rv2.length;refine wpAny_pyNext_zip_end (I.ok.hd hc) ap hz hi ho t1 t2 p1.isList p2.isList (by rcases hor with h | h;left;simp;lia;right;simp;lia) fun h' kk'=>⟨rfl,?_⟩
  refine I.turnedL (t':=s.toks) (fun b o nb e=>?_) hf;simp only[mem_cons,not_mem_nil,or_false,not_or] at nb;exact kk' b o nb.1 nb.2.2.1 nb.2.2.2.1 nb.2.2.2.2 e
 self:=fun A i s Q E st h=>by
  obtain⟨ap,hz,hi,⟨a,c,ho⟩,t1,t2⟩:=st;exact wpAny_pyIter_zip hz h
section
variable {X:Cx}
def qk0 (K:Frag)(ta:TA):TI:=fun σ H R=>ta σ H fun vs H1=>∃a b,vs=[.ref a,.ref b]/\(∃xs,SqL K H1 a xs)/\(∃ys,SqL K H1 b ys)/\R (Itz K a b) H1
theorem pQ {e1 e2:Expr}{ta:TA}{p pos:Pos}{elts:List Expr}{kk:Nat}{tpos:Pos}(hg:Gl X "zip")(hm:X.mg "zip"=none)(hv:bootBuiltins "zip"=some (.type "zip"))(ha:PA X [e1,e2] ta)(hs:starEach [e1,e2] X.env=(false,eval e1 X.env) :: starEach [e2] X.env:=by rfl)(hpl:(backTo pos (starEach [e2] X.env)).any (·.1)=false:=by rfl):PI X (.Tuple elts kk tpos) (.Call (.Name "zip" p) [e1,e2] [] pos) (qk0 X.K ta):=by
 intro pins s σ H R I h;refine Call_ (kD I hg hm hv (PyProof.Rows.callWith_type1 (thn (ha pos pins s σ H _ I h) fun us s1 ⟨vs,H1,I1,r1,q1⟩=>?_) hs hpl));obtain⟨a,b,rfl,⟨xs,hx⟩,⟨ys,hy⟩,q⟩:=q1;obtain⟨u,w',rfl,ra,rb⟩:=Lx r1
 cases (show u=Value.ref a from ra)
 cases (show w'=Value.ref b from rb)
 obtain⟨its1,rv1,p1,z1⟩:=I1.list hx;obtain⟨its2,rv2,p2,z2⟩:=I1.list hy;have la:a < s1.heap.objs.size:=by obtain⟨o,e,_⟩:=p1.isList;exact Heap.lt_size e
 have lb:b < s1.heap.objs.size:=by obtain⟨o,e,_⟩:=p2.isList;exact Heap.lt_size e
 refine call_zip_2 p1.isList p2.isList fun h' g1 g2 g3 g4 g5 g6 kk'=>?_;refine wpAny_pyIter_zip g1 ?_;have ne:∀i j:Nat,i≠j->s1.heap.objs.size+i≠s1.heap.objs.size+j:=fun i j n e=>n (Nat.add_left_cancel e);have nl:∀(c:Addr) (i:Nat),c < s1.heap.objs.size->c≠s1.heap.objs.size+i:=fun c i l e=>absurd (Nat.lt_of_lt_of_le l (Nat.le_add_right _ i)) (by rw[<- e];exact Nat.lt_irrefl _);have n0:∀j:Nat,j≠0->s1.heap.objs.size+j≠s1.heap.objs.size:=fun j n e=>n (Nat.add_left_cancel (e.trans (Nat.add_zero _).symm));refine⟨s1.heap.objs.size+4,[s1.heap.objs.size+4,s1.heap.objs.size+2,s1.heap.objs.size+3,s1.heap.objs.size,s1.heap.objs.size+1],_,Itz X.K a b,H1,rfl,I1.kept (t':=s1.toks) kk',Qw _ _ _ _ _ a b,⟨?_,g1,g2,⟨_,_,g3⟩,g4,g5⟩,fun c hc=>?_,q⟩
 ·exact⟨ne 2 4 (by decide),ne 3 4 (by decide),(n0 4 (by decide)).symm,ne 1 4 (by decide),ne 2 3 (by decide),n0 2 (by decide),ne 2 1 (by decide),n0 3 (by decide),ne 3 1 (by decide),(n0 1 (by decide)).symm,
   nl a 4 la,nl a 3 la,Nat.ne_of_lt la,nl a 1 la,nl b 4 lb,nl b 3 lb,Nat.ne_of_lt lb,nl b 1 lb⟩
 ·have hle:s1.heap.objs.size<=c:=by
   simp only[mem_cons,not_mem_nil,or_false] at hc;rcases hc with rfl | rfl | rfl | rfl | rfl<;>first | exact Nat.le_add_right _ _ | exact Nat.le_refl _
  exact I1.fpOk hle (I1.hok.fresh hle)
theorem xS {K:Frag}{a b:Addr}{xs ys:List V}{g:TG}{tb:TS}{D:lF}{σ:St}{H:Hp}(Pv:Nat->St->Hp->Prop)(h0:Pv 0 σ H)(hl:∀i σ H,i<=min xs.length ys.length->Pv i σ H->SqL K H a xs/\SqL K H b ys)(hs:∀i x y σ H T,xs[i]?=some x->ys[i]?=some y->Pv i σ H->H T=none->g (.ref T) σ (upd H T (.tup [x,y])) fun σ2 H2=>tb { D with nx:=Pv (i+1),ct:=Pv (i+1),bk:=D.nx } σ2 H2)(hd:∀σ H,Pv (min xs.length ys.length) σ H->D.nx σ H) :
  ∃W:Nat->Nat->St->Hp->Prop,(∃m,W 0 m σ H)/\∀i m σ H,W i m σ H->
   ((Itz K a b).stop i H/\D.nx σ H)\/((Itz K a b).go i H/\∃N:St->Hp->Prop,(∀σ' H',N σ' H'->∃m',m' < m/\W (i+1) m' σ' H')/\∀x H',(Itz K a b).yld i H x H'->g x σ H' fun σ2 H2=>tb { D with nx:=N,ct:=N,bk:=D.nx } σ2 H2):=by
 refine⟨fun i m σ H=>m=min xs.length ys.length - i/\i<=min xs.length ys.length/\Pv i σ H,⟨_,rfl,Nat.zero_le _,h0⟩,?_⟩;rintro i m σ H ⟨rfl,hi,p⟩;obtain⟨qx,qy⟩:=hl i σ H hi p
 by_cases hlt:i < min xs.length ys.length
 ·have hx:i < xs.length:=by lia
  have hy:i < ys.length:=by lia
  refine .inr ⟨⟨xs,ys,xs[i],ys[i],qx,qy,by simp[hx],by simp[hy]⟩,Pv (i+1),fun σ' H' p'=>⟨min xs.length ys.length - (i+1),by lia,rfl,hlt,p'⟩,fun v H' z=>?_⟩;obtain⟨T,x,y,rfl,hT,rfl,hh⟩:=z;obtain⟨ex,ey⟩:=hh xs ys qx qy;exact hs i x y σ H T ex ey p hT
 ·have e:i=min xs.length ys.length:=by lia
  subst e;exact .inl ⟨⟨xs,ys,qx,qy,by lia⟩,hd σ H p⟩
theorem rS {K:Frag}{a b:Addr}{xs ys:List V}{nl:Nat}{fr:List Nat}{g:TG}{tt:TT}{te:TE}{σ:St}{D:Addr}{H1:Hp}{Q:VK}(Pv:Nat->List V->Hp->Prop)(h0:Pv 0 [] (upd H1 D (.lst [])))(hl:∀i zs H,Pv i zs H->H D=some (.lst zs))(hx:∀i zs H,i<=min xs.length ys.length->Pv i zs H->SqL K H a xs/\SqL K H b ys)(hs:∀i zs x y H T,xs[i]?=some x->ys[i]?=some y->Pv i zs H->H T=none->∀(C:Nat->List V->Hp->Prop),(∀zs H,Pv (i+1) zs H->C (i+1) zs H)->Gi nl fr g tt te σ D C i zs (.ref T) (upd H T (.tup [x,y])))(hd:∀zs H,Pv (min xs.length ys.length) zs H->Q (.ref D) H) :
  Bi (Itz K a b) nl fr g tt te σ D H1 Q:=by
 refine⟨fun i m zs H=>m=min xs.length ys.length - i/\i<=min xs.length ys.length/\Pv i zs H,⟨_,rfl,Nat.zero_le _,h0⟩,?_⟩;rintro i m zs H ⟨rfl,hi,p⟩;refine⟨hl i zs H p,?_⟩;obtain⟨qx,qy⟩:=hx i zs H hi p
 by_cases hlt:i < min xs.length ys.length
 ·have hx':i < xs.length:=by lia
  have hy':i < ys.length:=by lia
  refine .inr ⟨⟨xs,ys,xs[i],ys[i],qx,qy,by simp[hx'],by simp[hy']⟩,fun v H' z=>?_⟩;obtain⟨T,x,y,rfl,hT,rfl,hh⟩:=z;obtain⟨ex,ey⟩:=hh xs ys qx qy;exact hs i zs x y H T ex ey p hT (fun j zs Hz=>∃m',m' < min xs.length ys.length - i/\m'=min xs.length ys.length - j/\j<=min xs.length ys.length/\Pv j zs Hz) fun zs Hz z=>⟨min xs.length ys.length - (i+1),by lia,rfl,hlt,z⟩
 ·have e:i=min xs.length ys.length:=by lia
  subst e;exact .inl ⟨⟨xs,ys,qx,qy,by lia⟩,hd zs H p⟩
def Ti:V->List V->Hp->VK->Prop:=fun x vs H Q=>∃(l:Addr) (xs:List V) (k:Nat) (i:Int) (y:V),x=.ref l/\vs=[.int i,y]/\i=(k:Int)/\k<=xs.length/\H l=some (.lst xs)/\xs.length < sizeLine/\Q .non (upd H l (.lst (xs.take k++y :: xs.drop k)))
theorem mP:MtM X "list.insert" Ti:=by
 intro pins s σ H x vs v us Q I rx rv h;obtain⟨l,xs,k,i,y,rfl,rfl,hik,hk,hH,hz,q⟩:=h
 cases rx
 obtain⟨u1,u2,rfl,⟨t,rfl⟩,ru⟩:=Lx rv;obtain⟨z,its,n,r,hl,e⟩:=I.lstM hH;have hs:sizeLine=16777216:=sizeLine_eq;have hfit:¬(!Builtin.List.listFitsIndex i)=true:=by
  rw[fitsIndex_both (by lia) (by lia)];exact Bool.false_ne_true
 have hM:=AutoSeq1.list_insert_list_int_val_1 l its.toArray n i t u2 hfit (by rw[size_toArray];lia);refine call_meets F.slot_list_insert ⟨_,e,rfl⟩ F.entry_list_insert (F.args_list_insert_3 (Value.ref l) (Value.int i t) u2) hM ⟨e,?_⟩;refine⟨.non,_,I.lset (its':=its.take k++u2 :: its.drop k) hH e ?_ ((r.take k).append (.cons ru (r.drop k))) ?_,rfl,q⟩
 ·have ek:(if i < 0 then (i+(its.toArray.size:Int)).toNat else min i.toNat its.toArray.size)=k:=by
   rw[if_neg (by lia),size_toArray];lia
  show (its.toArray.extract 0 (if i < 0 then (i+(its.toArray.size:Int)).toNat else min i.toNat its.toArray.size)).push u2++its.toArray.extract (if i < 0 then (i+(its.toArray.size:Int)).toNat else min i.toNat its.toArray.size)=_;rw[ek];apply Array.ext';simp[take_of_length_le]
 ·rw[List.length_append,length_cons,length_take,length_drop];lia
end
abbrev qk6:List Value:=[.type "ValueError",.type "Exception",.type "BaseException",.type "object"]
abbrev TEX:=St->Hp->VK->XK->Prop
abbrev TSX:=lF->(St->XK)->St->Hp->Prop
abbrev Cx.sup (X:Cx)(a:Addr):Cx:={ X with A:=X.A.mark (some (.ref a)),calm:=false,xe:=fun _ _=>False }
abbrev TH:=Addr->Value->Option Addr->lF->St->Hp->Prop
end L2
namespace Mq
theorem cT {p q:Q2}(hp:1<=p.2)(hq:1<=q.2):Low (minus p q):=iA (gF hp hq)
theorem cP {p q:Q2}(hp:1<=p.2)(hq:1<=q.2):Low (gB p q):=iA (gF hp hq)
theorem pK {p q:Q2}(hp:1<=p.2)(hq:q.1≠0):p.2*q.1≠0:=Int.mul_ne_zero (by lia) hq
theorem pA {p q:Q2}(hp:1<=p.2)(hq:q.1≠0):Low (mU p q):=iA (pK hp hq)
theorem iN {n m:Nat}{p q:Q2}(h:Bd n p)(g:Bd m q)(hp:1<=p.2)(hq:1<=q.2):Bd (n+m+1) (minus p q):=by
 have k:=lT (t:=p.1*q.2 - q.1*p.2) (gF hp hq);have a2:B (n+m) (q.1*p.2):=by rw[Nat.add_comm];exact g.a.mul h.b
 exact⟨((h.a.mul g.b).sub a2).le k.1,((h.b.mul g.b).mono (Nat.le_succ _)).le k.2⟩
theorem eE {n m:Nat}{p q:Q2}(h:Bd n p)(g:Bd m q)(hp:1<=p.2)(hq:1<=q.2):Bd (n+m) (gB p q):=by
 have k:=lT (t:=p.1*q.1) (gF hp hq);exact⟨(h.a.mul g.a).le k.1,(h.b.mul g.b).le k.2⟩
theorem rL {n m:Nat}{p q:Q2}(h:Bd n p)(g:Bd m q)(hp:1<=p.2)(hq:q.1≠0):Bd (n+m) (mU p q):=by
 have k:=lT (t:=p.1*q.2) (pK hp hq);exact⟨(h.a.mul g.b).le k.1,(h.b.mul g.a).le k.2⟩
end Mq
open Mq (cP cT eE iN pA pK rL)
namespace L2
open PySem PySem.Spec PyProof.Rows
def Gr (K:Frag):Sp:=fun vs H Q _=>∃(a b:Addr) (p q:Q2) (n m:Nat),vs=[.ref a,.ref b]/\Fq K H a p/\Fq K H b q/\Bd n p/\Bd m q/\n+m+1<=9000/\Q (.bl (decide (p.1*q.2 < q.1*p.2))) H
inductive TyQ (K:Frag) (H:Hp):V->Value->Prop where
 |of {x:V} {t:Value} (h:mY K H x t):TyQ K H x t
 |tup {a:Addr} {xs:List V} (h:SqT K H a xs):TyQ K H (.ref a) (.type "tuple")
 |lst {a:Addr} {xs:List V} (h:SqL K H a xs):TyQ K H (.ref a) (.type "list")
section
variable {X:Cx} {pins:List (Addr × Obj)} {σ:St} {H:Hp} {s:Shared} {A:Around} {E:Value->Shared->Prop} {Q:Value->Shared->Prop} {c:Value} {b:Bool}
theorem Dl {x:V}{u t:Value}(I:Inv X pins σ H s)(rx:cE x u)(ty:TyQ X.K H x t)(e:W.kitOne X.K t c=some b)(h:∀tk,Q (.bool b) { s with toks:=tk }) :
  wpAny (model X.prog X.w) A (call (.builtin "isinstance") [u,c]) Q E s:=by
 cases ty with
 |of ty=>exact Ic I rx ty e h
 | @tup a xs ht=>
  cases (show u=Value.ref a from rx)
  obtain⟨its,_,p,_⟩:=I.tuple ht;obtain⟨o,h1,h2,_⟩:=p;exact W.kia_one W.kitx_tuple I.kIn ⟨o,h1,h2⟩ e (fun z=>nomatch z) h
 | @lst a xs ht=>
  cases (show u=Value.ref a from rx)
  obtain⟨its,_,p,_⟩:=I.list ht;obtain⟨o,h1,h2,_⟩:=p.isList;exact W.kia_one W.kitx_list I.kIn ⟨_,h1,h2⟩ e (fun z=>nomatch z) h
end
section
variable {X:Cx}
theorem Iy:tQ X (.builtin "isinstance") (fun xs H Q=>∃x n t b,xs=[x,.ty n]/\TyQ X.K H x t/\W.kitOne X.K t (.type n)=some b/\Q (.bl b) H):=by
 intro pins s σ H vs us Q I rv h;obtain⟨x,n,t,b,rfl,ty,e,q⟩:=h;obtain⟨u,u2,rfl,r1,r2⟩:=Lx rv
 cases (show u2=Value.type n from r2)
 exact Dl I r1 ty e fun tk=>⟨.bl b,H,I.tok tk,rfl,q⟩
theorem iM {i:Nat}{x T:Str}{T':String}{p1 p2 p3 pos:Pos}(hN:X.N[i]?=some x)(hv:Vis X.env.scope x)(b:X.mg "isinstance"=none)(b2:X.mg T=none)(g1:Gl X "isinstance")(g2:Gl X T)(hT:bootBuiltins T=some (.type T'))(hd:(x == ("__debug__":Str))=false:=by decide)(hcd:(x == ("__classdict__":Str))=false:=by decide)(hTn:T≠"__name__":=by decide)(hTd:(T == ("__debug__":Str))=false:=by decide)(he:starEach [.Name x p2,.Name T p3] X.env=(false,eval (.Name x p2) X.env) :: starEach [.Name T p3] X.env:=by rfl)(he2:starEach [.Name T p3] X.env=(false,eval (.Name T p3) X.env) :: starEach [] X.env:=by rfl)(hpl:(backTo pos (starEach [.Name T p3] X.env)).any (·.1)=false:=by rfl) :
  PE X (.Call (.Name "isinstance" p1) [.Name x p2,.Name T p3] [] pos) (fun σ H Q=>∃v t b,σ[i]?=some (some v)/\TyQ X.K H v t/\W.kitOne X.K t (.type T')=some b/\Q (.bl b) H):=by
 have h:=cN (X:=X) (pos:=pos) (p:=p1) Iy g1 b PyProof.Rows.boot_isinstance (aA (Mr (i:=i) (pos:=p2) hN hv hd hcd) (aA (Ut (v:=.ty T') (pos:=p3) g2 b2 hT rfl hTn hTd) aB he2) he) (by decide) (by decide) he hpl;intro pins s σ H Q I q;obtain⟨v,t,bb,h1,h2,h3,h4⟩:=q;exact h pins s σ H Q I ⟨v,h1,v,T',t,bb,rfl,h2,h3,h4⟩
end
theorem SqT.upd {K:Frag}{H:Hp}{a l:Addr}{xs ys:List V}{o:HO}(h:SqT K H a xs)(hl:H l=some (.lst ys)):SqT K (L2.upd H l o) a xs:=by
 rcases h with (h | ⟨u,h⟩) | h
 ·exact .inl (.inl (by rw[aW (eY h hl (fun z=>by cases z))];exact h))
 ·exact .inl (.inr ⟨u,by rw[aW (eY h hl (fun z=>by cases z))];exact h⟩)
 ·exact .inr h
theorem Au {K:Frag}{H:Hp}:∀ns:List Int,vI K H (ns.map V.int) (ns.map PyData.int)
 | []=>.nil
 |n :: r=>.cons (.int n) (Au r)
theorem Af:∀ns:List Int,PyData.canLayAll0 (ns.map PyData.int)=true
 | []=>rfl
 |n :: r=>by
  show ((PyData.int n).canLay0 && PyData.canLayAll0 (r.map PyData.int))=true;rw[Af r];rfl
theorem Pl (ns:List Int)(lo hi:Option Int):∃ms:List Int,kZ (ns.map V.int) lo hi=ms.map V.int/\ms.length<=ns.length:=by
 refine⟨(ns.drop (HT.sIx (ns.map V.int).length 0 lo)).take (HT.sIx (ns.map V.int).length (ns.map V.int).length hi - HT.sIx (ns.map V.int).length 0 lo),?_,?_⟩
 ·unfold kZ;rw[map_take,map_drop]
 ·rw[length_take,length_drop];lia
theorem Np {K:Frag}{H:Hp}{a b:Addr}{ns:List Int}{neg:Bool}{Q:VK}(h1:SqL K H a (ns.map V.int))(h2:SqL K H b [])(z:Q (.bl (if neg then !ns.isEmpty else ns.isEmpty)) H):Ky K neg (.ref a) (.ref b) H Q:=by
 refine⟨_,_,.lst h1 (Au ns),.lst h2 .nil,Af ns,rfl,?_,?_⟩
 ·have:(PyData.list []).depth<=1:=by decide
  lia
 ·cases ns<;>exact z
theorem jE {fr:List Nat}{σ:St}{x y:V}:(((σC 2 fr σ).set 0 (some x)).set 1 (some y)).length=(σC 2 fr σ).length/\∀(i:Nat) v,(σC 2 fr σ)[i]?=some (some v)->(((σC 2 fr σ).set 0 (some x)).set 1 (some y))[i]?=some (some v):=by
 refine⟨by simp,fun i v h=>?_⟩
 match i with
 |0=>unfold σC at h;simp at h
 |1=>unfold σC at h;simp at h
 |k+2=>rw[getElem?_set_ne (by lia),getElem?_set_ne (by lia)];exact h
theorem Fqs.set {K:Frag}{H:Hp}{a:Addr}{p:Q2}(h:Fq K H a p):∀{xs:List V} {ps:List Q2} (i:Nat),Fqs K H xs ps->Fqs K H (xs.set i (.ref a)) (ps.set i p)
 |_,_,_,.nil=>.nil
 |_,_,0,.cons _ q=>.cons h q
 |_,_,i+1,.cons g q=>.cons g (Fqs.set h i q)
theorem Fqs.at {K:Frag}{H:Hp}:∀{xs:List V} {ps:List Q2} {i:Nat} {p:Q2},Fqs K H xs ps->ps[i]?=some p->∃a,xs[i]?=some (.ref a)/\Fq K H a p
 |_,_,_,_,.nil,h=>by simp at h
 |_,_,0,_,.cons h _,e=>by simp at e;subst e;exact⟨_,rfl,h⟩
 |_,_,i+1,_,.cons _ q,e=>by simpa using Fqs.at q (by simpa using e)
theorem lZ {n:Nat}{i:Int}(lo:-(2 ^ n:Int) < i)(hi:i < 2 ^ n):Mq.B n i:=by
 unfold Mq.B;have e:((2 ^ n:Nat):Int)=2 ^ n:=by simp
 lia
theorem yU (X:Cx):∀l:List (Int × _ × Pos),PA X (l.map fun q=>Expr.Constant (.int q.1) q.2.1 q.2.2) (fun _ H Q=>Q (l.map fun q=>V.int q.1) H)
 | []=>aB
 |q :: l=>aA (te:=tC (.int q.1)) aD (yU X l) rfl
theorem kN {n k:Nat}(h:k < n):ixN n (k:Int)=some k:=by
 unfold ixN;rw[if_pos (by lia),if_pos (by lia)];simp
section
variable {X:Cx} {tg:Expr}
def qg4 (K:Frag):List V->Hp->VK->Prop:=fun xs H Q=>∃(p:Addr) (bs:List Bool),xs=[.ref p]/\SqL K H p (bs.map V.bl)/\Q (.bl (bs.all id)) H
theorem Ov (hc:X.calm=true):tQ X (.builtin "all") (qg4 X.K):=by
 intro pins s σ H xs us Q I r h;obtain⟨p,bs,rfl,hq,q⟩:=h;obtain⟨u,rfl,rx⟩:=An r
 cases rx
 obtain⟨its,rv,pl,hz⟩:=I.list hq;have hlen:its.toArray.size=bs.length:=by rw[size_toArray,<- rv.length,length_map]
 have hne:p≠s.heap.objs.size:=by
  obtain⟨o,e,_⟩:=pl.isList;exact Nat.ne_of_lt (Heap.lt_size e)
 refine call_all_walk (wpAny_pyIter_list pl.isList ?_);refine⟨s.heap.objs.size,_,_,_,_,_,fun i=>bs.getD i false,rfl,Walks.list (by exact I.ok.hd hc) s.heap.objs.size p hne its.toArray,⟨⟨_,Heap.get?_push_size _ rfl,rfl,rfl⟩,?_⟩,?_,?_⟩
 ·obtain⟨o,e,c⟩:=pl.isList;exact⟨o,Heap.get?_push_of_some _ e,c⟩
 ·intro i v s' Q' E' hv q';have hv':its[i]?=some v:=by simpa using hv
  have hi:i < its.length:=(List.getElem?_eq_some_iff.mp hv').1;have hb:(bs.map V.bl)[i]?=some (.bl (bs.getD i false)):=by
   rw[getElem?_map,getElem?_eq_getElem (by rw[<- hlen];simpa using hi)];simp[List.getD,getElem?_eq_getElem (show i < bs.length by rw[<- hlen];simpa using hi)]
  obtain⟨u,hu,ru⟩:=rv.get hb;have e:u=v:=by rw[hv'] at hu;cases hu;rfl
  subst e
  cases ru
  exact wpAny_truthy_bool q'
 ·intro h' tk kk;have e:(List.range its.toArray.size).all (fun i=>bs.getD i false)=bs.all id:=by
   rw[hlen,Bool.eq_iff_iff,all_eq_true,all_eq_true];constructor
   ·intro z b hb;obtain⟨i,hi,rfl⟩:=getElem_of_mem hb;have:=z i (mem_range.mpr hi);simpa[List.getD,getElem?_eq_getElem hi] using this
   ·intro z i hi;have hi':=mem_range.mp hi;have:=z bs[i] (getElem_mem hi');simpa[List.getD,getElem?_eq_getElem hi'] using this
  rw[e];refine⟨.bl _,H,I.kept (t':=tk) fun b o hb=>?_,rfl,q⟩;have hb2:b≠s.heap.objs.size:=Nat.ne_of_lt (Heap.lt_size hb);exact kk b o (by simpa using hb2) (Heap.get?_push_of_some _ hb)
end
def Nx {ι:Type}(C:ι->Addr)(m:Str)(sp:ι->Sp)(dvs:List V)(E:XK)(ta:TE)(t:TA):TE:=fun σ H Q=>ta σ H fun x H1=>∃i a dx fs,x=.ref a/\H1 a=some (.ins (C i) dx fs)/\fs.lookup m=none/\
 t σ H1 fun vs H2=>sp i (x :: (vs++dvs)) H2 Q E
section
variable {X:Cx} {ι:Type} {C f:ι->Addr} {fd:ι->FuncData} {sp:ι->Sp} {m:Str} {CX:CXT} {k:Nat} {ps:List Str} {ds:List Value} {dvs:List V} {E:XK} {o e:Expr} {es:List Expr} {ta:TE} {t:TA} {apos pos:Pos}
theorem Ai {pl:Sem Bool}(he:PE X o ta)(c:∀i,Cls X.K (C i))(hm:∀i,gE X.K (C i) m (f i))(F:∀i,aL X.prog X.w X.K X.mg X.base CX k (f i) (fd i) ps (sp i))(hr:gX k X.A)(hb:∀i,aM X.K (fd i) ps ds)(hd:bZ dvs ds)(hx:kI CX X E)(ha:PA X (e :: es) t)(hst:starEach (e :: es) X.env=(false,eval e X.env) :: starEach es X.env:=by rfl)(hpl:(backTo pos (starEach es X.env)).any (·.1)=false:=by rfl)(ht:eval (.Call (.Attribute o m apos) (e :: es) [] pos) X.env=(do
   let ov <- eval o X.env
   standAt apos.atName
   let (f,first) <- holding [ov] (getMethod ov m pl)
   callWith pos f first (backTo pos (starEach (e :: es) X.env)) (backToKw pos (keywordEach [] X.env))):=by rfl) :
  PE X (.Call (.Attribute o m apos) (e :: es) [] pos) (Nx C m sp dvs E ta t):=by
 intro pins s σ H Q I h;refine W.methodCall_KW (pl:=pl) (thn (he pins s σ H _ I h) fun u s1 ⟨x,H1,I1,rx,i,a,dx,fs,ex,ea,l,q⟩=>?_) ht;subst ex;obtain rfl:u=Value.ref a:=rx;refine kH I1 ea (c i) (hm i) l ?_;refine W.callWith_K (first:=[.ref a]) (h₀:=X.base) I.ok.mod.kin (hm i).kp (thn (ha pos pins s1 σ H1 _ I1 q) fun us s2 ⟨vs,H2,I2,r,q2⟩=>⟨I2.kIn,?_⟩) hst hpl;exact sY (us:=.ref a :: us) (vs:=.ref a :: vs) (F i) hr (hb i) hd hx I2 (.cons rfl r) q2
theorem fI {pl:Sem Bool}(he:PE X o ta)(c:∀i,Cls X.K (C i))(hm:∀i,gE X.K (C i) m (f i))(F:∀i,aL X.prog X.w X.K X.mg X.base CX k (f i) (fd i) ps (sp i))(hr:gX k X.A)(hb:∀i,aM X.K (fd i) ps ds)(hd:bZ dvs ds)(hx:kI CX X E)(ht:eval (.Call (.Attribute o m apos) [] [] pos) X.env=(do
   let ov <- eval o X.env
   standAt apos.atName
   let (f,first) <- holding [ov] (getMethod ov m pl)
   callWith pos f first (backTo pos (starEach [] X.env)) (backToKw pos (keywordEach [] X.env))):=by rfl) :
  PE X (.Call (.Attribute o m apos) [] [] pos) (Nx C m sp dvs E ta Yt):=by
 intro pins s σ H Q I h;refine W.methodCall_KW (pl:=pl) (thn (he pins s σ H _ I h) fun u s1 ⟨x,H1,I1,rx,i,a,dx,fs,ex,ea,l,q⟩=>?_) ht;subst ex;obtain rfl:u=Value.ref a:=rx;refine kH I1 ea (c i) (hm i) l ?_;exact W.callWith_K0 (first:=[.ref a]) I1.kIn (hm i).kp (sY (us:=[.ref a]) (vs:=[.ref a]) (F i) hr (hb i) hd hx I1 (.cons rfl .nil) q)
end
inductive Kd where
 |pc | pu | ho
 deriving DecidableEq
def Kd.wd:Kd->Str
 | .pc=>"piece"
 | .pu=>"push"
 | .ho=>"hold"
def Kd.cn:Kd->Str
 | .pc=>"Piece"
 | .pu=>"Push"
 | .ho=>"Hold"
theorem Kd.wd_inj {k j:Kd}(h:k.wd=j.wd):k=j:=by
 cases k<;>cases j<;>first | rfl | exact absurd h (by decide +kernel)
theorem fsg:¬(("start":Str) = "goal"):=by decide +kernel
theorem fsz:¬(("start":Str) = "size"):=by decide +kernel
theorem fgz:¬(("goal":Str) = "size"):=by decide +kernel
def nA (s g z:V):List (Str × V):=dE "size" z (dE "goal" g (dE "start" s []))
theorem dC (s g z:V):(nA s g z).lookup ("start":Str)=some s:=by
 unfold nA;rw[bK,if_neg fsz,bK,if_neg fsg,bK,if_pos rfl]
theorem eO (s g z:V):(nA s g z).lookup ("goal":Str)=some g:=by
 unfold nA;rw[bK,if_neg fgz,bK,if_pos rfl]
theorem eJ (s g z:V):(nA s g z).lookup ("size":Str)=some z:=by
 unfold nA;rw[bK,if_pos rfl]
theorem dG (s g z:V){m:Str}(h1:¬m = "start")(h2:¬m = "goal")(h3:¬m = "size"):(nA s g z).lookup m=none:=by
 unfold nA;rw[bK,if_neg h3,bK,if_neg h2,bK,if_neg h1];rfl
def Rw (CK:Kd->Addr)(H:Hp)(x:Addr)(k:Kd)(s g z:V):Prop:=∃dx,H x=some (.ins (CK k) dx (nA s g z))
theorem Rw.same {CK:Kd->Addr}{H H':Hp}{x:Addr}{k:Kd}{s g z:V}(e:aY H H')(h:Rw CK H x k s g z):Rw CK H' x k s g z:=let ⟨dx,q⟩:=h;⟨dx,e _ _ q⟩
theorem Rw.upd {CK:Kd->Addr}{H:Hp}{x l:Addr}{k:Kd}{s g z:V}{ys:List V}{o:HO}(h:Rw CK H x k s g z)(hl:H l=some (.lst ys)):Rw CK (L2.upd H l o) x k s g z:=let ⟨dx,q⟩:=h;⟨dx,by rw[aW (eY q hl (fun z=>by cases z))];exact q⟩
structure RT (K:Frag) (mg:Str->Option Value) (CR:Addr) (CK:Kd->Addr):Prop where
 cl:∀k,Cls K (CK k)
 nS:∀k,gV K (CK k) "start"
 nG:∀k,gV K (CK k) "goal"
 nZ:∀k,gV K (CK k) "size"
 t1:∀k,W.findIn K (.ref (CK k)) "__class__"=some (some (.builtin "object.__class__"))
 t2:W.specialIn K (.builtin "object.__class__") "__get__"=some (some (.builtin "getset_descriptor.__get__"))
 t3:W.takesIn K (.builtin "object.__class__")=some true
 t4:∀k,W.mroIn K (CK k) (.type "object")=some true
 isR:∀k,W.kitOne K (.ref (CK k)) (.ref CR)=some true
 isK:∀k j,W.kitOne K (.ref (CK k)) (.ref (CK j))=some (decide (k=j))
 mR:mg "Row"=some (.ref CR)
 mK:∀k,mg (Kd.cn k)=some (.ref (CK k))
section
variable {K:Frag} {mg:Str->Option Value} {CR:Addr} {CK:Kd->Addr} {H:Hp} {x:Addr} {k:Kd} {s g z:V}
theorem Rw.new {C x dx:Addr}{fs:List (Str × V)}(h1:H x=none)(h2:H dx=none)(ne:dx≠x):aY H (L2.upd (L2.upd H dx (.own x)) x (.ins C dx fs)):=fun b o e=>by
 rw[aW (bA e h1),aW (bA e h2)];exact e
end
def Hl (CK:Kd->Addr):Sp:=fun vs H Q _=>∃(x dx:Addr) (k:Kd) (s g z:V),vs=[.ref x,s,g,z]/\H x=some (.ins (CK k) dx [])/\Q .non (upd H x (.ins (CK k) dx (nA s g z)))
def jL (k:Kd):Sp:=fun vs H Q _=>∃x,vs=[x]/\Q (.str k.wd) H
def pD (k:Kd):Sp:=fun vs H Q _=>∃x,vs=[x]/\Q (.bl (decide (k≠.pu))) H
def yI (CK:Kd->Addr):Sp:=fun vs H Q _=>∃(x:Addr) (k:Kd) (s g z:V),vs=[.ref x]/\Rw CK H x k s g z/\∀t,H t=none->Q (.ref t) (upd H t (.tup [.str k.wd,s,g,z]))
def qg9 (CK:Kd->Addr)(H:Hp)(Q:VK)(k:Kd)(s g z:V):Prop:=∀x H',aY H H'->H x=none->Rw CK H' x k s g z->Q (.ref x) H'
theorem ifT {c:Bool}{A B:Prop}(h:c=true)(x:A):if c=true then A else B:=by rw[if_pos h];exact x
theorem ifF {c:Bool}{A B:Prop}(h:c=false)(x:B):if c=true then A else B:=by rw[if_neg (by rw[h];decide)];exact x
theorem bY (k j:Kd):decide (V.str k.wd=V.str j.wd)=decide (k=j):=by
 by_cases h:k=j
 ·subst h;simp
 ·rw[decide_eq_false h];exact decide_eq_false fun z=>h (Kd.wd_inj (V.str.inj z))
theorem jA {p:Kd->Prop}(a:p .pc)(b:p .pu)(c:p .ho):∀k,p k:=fun k=>by cases k<;>assumption
theorem rV (K:Frag)(t:PySem.Value):PySem.W.kitOne K t t=some true:=by unfold PySem.W.kitOne;rw[if_pos (beq_self_eq_true _)]
def kd3 {α:Type}(a b c:α):Kd->α
 | .pc=>a
 | .pu=>b
 | .ho=>c
end L2
namespace Mq
def iZ (ps:List Q2):Prop:=∀p∈ps,Low p
end Mq
open Mq (iZ)
namespace L2
open PySem PySem.Spec PyProof.Rows
section
variable {κ:Type} [DecidableEq κ]
def pJ (kvs:List (κ × V))(k:κ):Option V:=(kvs.find? fun kv=>decide (kv.1=k)).map (·.2)
def mE (kvs:List (κ × V))(k:κ)(v:V):List (κ × V):=
 if (kvs.any fun kv=>decide (kv.1=k))=true then kvs.map (fun kv=>if kv.1=k then (kv.1,v) else kv) else kvs++[(k,v)]
theorem oR {p:κ × V}{r:List (κ × V)}{k:κ}(e:p.1=k):pJ (p :: r) k=some p.2:=by simp[pJ,find?_cons,e]
theorem lV {p:κ × V}{r:List (κ × V)}{k:κ}(e:¬p.1=k):pJ (p :: r) k=pJ r k:=by simp[pJ,find?_cons,e]
theorem Bw (k:κ):∀kvs:List (κ × V),(kvs.any fun kv=>decide (kv.1=k))=(pJ kvs k).isSome
 | []=>rfl
 |p :: r=>by
  rw[any_cons]
  by_cases e:p.1=k
  ·simp only[oR e,decide_eq_true e,Bool.true_or,Option.isSome_some]
  ·rw[lV e,decide_eq_false e,Bool.false_or];exact Bw k r
theorem lP (kvs:List (κ × V))(k:κ)(v:V):(mE kvs k v).length<=kvs.length+1:=by
 unfold mE;split
 ·rw[length_map];lia
 ·rw[List.length_append,length_cons,length_nil];lia
theorem lB.isSome_eq {o:Option V}{u:Option Value}(r:lB o u):o.isSome=u.isSome:=by
 cases o with
 |none=>cases u with
  |none=>rfl
  |some _=>exact(show False from r).elim
 |some _=>cases u with
  |none=>exact(show False from r).elim
  |some _=>rfl
theorem lB.getD {o:Option V}{u:Option Value}{d:V}{d':Value}(r:lB o u)(rd:cE d d'):cE (o.getD d) (u.getD d'):=by
 cases o with
 |none=>cases u with
  |none=>exact rd
  |some _=>exact(show False from r).elim
 |some _=>cases u with
  |none=>exact(show False from r).elim
  |some _=>exact r
theorem KV.val {kvs:List (κ × V)}{vs:List (κ × Value)}(r:KV kvs vs)(k:κ):lB (pJ kvs k) (valueAt vs k):=by
 unfold KV at r
 induction r with
 |nil=>exact True.intro
 | @cons p q ps qs h t ih=>
  obtain⟨h1,h2⟩:=h
  by_cases e:p.1=k
  ·have e':q.1=k:=h1.symm.trans e;have b:valueAt (q :: qs) k=some q.2:=by simp[valueAt,find?_cons,e']
   rw[oR e,b];exact h2
  ·have e':¬q.1=k:=fun z=>e (h1.trans z);have b:valueAt (q :: qs) k=valueAt qs k:=by simp[valueAt,find?_cons,e']
   rw[lV e,b];exact ih
theorem KV.any {kvs:List (κ × V)}{vs:List (κ × Value)}(r:KV kvs vs)(k:κ):(kvs.any fun kv=>decide (kv.1=k))=vs.any fun kv=>decide (kv.1=k):=by
 unfold KV at r
 induction r with
 |nil=>rfl
 |cons h t ih=>rw[any_cons,any_cons,ih,h.1]
theorem KV.repl {kvs:List (κ × V)}{vs:List (κ × Value)}(r:KV kvs vs)(k:κ){y:V}{u:Value}(ry:cE y u) :
  KV (kvs.map fun kv=>if kv.1=k then (kv.1,y) else kv) (vs.map fun kv=>if kv.1=k then (kv.1,u) else kv):=by
 unfold KV at r ⊢
 induction r with
 |nil=>exact .nil
 | @cons p q ps qs h t ih=>
  rw[map_cons,map_cons];refine .cons ?_ ih;obtain⟨h1,h2⟩:=h
  by_cases e:p.1=k
  ·rw[if_pos e,if_pos (h1.symm.trans e)];exact⟨h1,ry⟩
  ·rw[if_neg e,if_neg (fun z=>e (h1.trans z))];exact⟨h1,h2⟩
theorem KV.put {kvs:List (κ × V)}{vs:List (κ × Value)}(r:KV kvs vs)(k:κ){y:V}{u:Value}(ry:cE y u):KV (mE kvs k y) (stored vs k u):=by
 unfold mE stored;rw[r.any k]
 by_cases e:(vs.any fun kv=>decide (kv.1=k))=true
 ·rw[if_pos e,if_pos e];exact r.repl k ry
 ·rw[if_neg e,if_neg e];exact Paired.snoc r ⟨rfl,ry⟩
theorem KV.length {kvs:List (κ × V)}{vs:List (κ × Value)}(r:KV kvs vs):kvs.length=vs.length:=Paired.length r
end
theorem wC {P:Program}{w:World}{k:Key}{u:Value}(r:cE (kV k) u):(dS P w).is k u=true:=by
 cases k with
 |inl i=>obtain⟨t,e⟩:=(show ∃t,u=Value.int i t from r);subst e;exact Am P w i t
 |inr x=>obtain⟨t,e⟩:=(show ∃t,u=Value.str x t from r);subst e;exact Ac P w x t
theorem vW {P:Program}{w:World}:∀{ks:List Key} {us:List Value},bZ (ks.map kV) us->ItemsAre (dS P w) ks us
 | [],_,r=>by rw[map_nil] at r;cases r;exact .nil
 |k :: ks,_,r=>by
  rw[map_cons] at r
  cases r with
  |cons h t=>exact .cons (wC h) (vW t)
abbrev KT (H:Hp):List (List Key × V)->List (List Key × Addr × Value)->Prop:=Paired fun p q=>p.1=q.1/\H q.2.1=some (.tup (p.1.map kV))/\cE p.2 q.2.2
theorem KT.val {H:Hp}{kvs:List (List Key × V)}{xs:List (List Key × Addr × Value)}(r:KT H kvs xs)(k:List Key):lB (pJ kvs k) ((atKey xs k).map (·.2)):=by
 induction r with
 |nil=>exact True.intro
 | @cons p q ps qs h t ih=>
  obtain⟨h1,_,h2⟩:=h
  by_cases e:p.1=k
  ·have e':q.1=k:=h1.symm.trans e;have b:atKey (q :: qs) k=some q.2:=by simp[atKey,find?_cons,e']
   rw[oR e,b];exact h2
  ·have e':¬q.1=k:=fun z=>e (h1.trans z);have b:atKey (q :: qs) k=atKey qs k:=by simp[atKey,find?_cons,e']
   rw[lV e,b];exact ih
theorem KT.repl {H:Hp}{kvs:List (List Key × V)}{xs:List (List Key × Addr × Value)}(r:KT H kvs xs)(k:List Key){y:V}{u:Value}(ry:cE y u) :
  KT H (kvs.map fun kv=>if kv.1=k then (kv.1,y) else kv) (xs.map (putAt k u)):=by
 induction r with
 |nil=>exact .nil
 | @cons p q ps qs h t ih=>
  rw[map_cons,map_cons];refine .cons ?_ ih;obtain⟨h1,h2,h3⟩:=h;unfold putAt
  by_cases e:p.1=k
  ·rw[if_pos e,if_pos (h1.symm.trans e)];exact⟨h1,h2,ry⟩
  ·rw[if_neg e,if_neg (fun z=>e (h1.trans z))];exact⟨h1,h2,h3⟩
theorem KT.put {H:Hp}{kvs:List (List Key × V)}{xs:List (List Key × Addr × Value)}(r:KT H kvs xs)(k:List Key){b:Addr}{y:V}{u:Value}(hb:H b=some (.tup (k.map kV)))(ry:cE y u) :
  KT H (mE kvs k y) (storedH xs k b u):=by
 have e:(kvs.any fun kv=>decide (kv.1=k))=(atKey xs k).isSome:=by
  rw[Bw,(r.val k).isSome_eq,Option.isSome_map]
 unfold mE storedH;rw[e]
 by_cases q:(atKey xs k).isSome=true
 ·rw[if_pos q,if_pos q];exact r.repl k ry
 ·rw[if_neg q,if_neg q];exact Paired.snoc r ⟨rfl,hb,ry⟩
theorem KT.keeps {H H':Hp}{kvs:List (List Key × V)}{xs:List (List Key × Addr × Value)}(r:KT H kvs xs)(ht:∀b ys,H b=some (.tup ys)->H' b=some (.tup ys)):KT H' kvs xs:=
 Paired.mapP r fun _ _ z=>⟨z.1,ht _ _ z.2.1,z.2.2⟩
section
variable {P:Program} {w:World} {H:Hp} {h:Heap} {a:Addr}
theorem Vv {u:HO}(ok:HOk P w H h)(e:Rd H a u):dX P w H h a u:=e.ok ok
theorem wU {kvs:List (Key × V)}(ok:HOk P w H h)(e:Rd H a (.dK kvs)):kvs.length<=sizeLine/\(a == sysModules)=false/\∃vs,KV kvs vs/\h.DictOf (dS P w) a vs:=
 show dX P w H h a (.dK kvs) from Vv ok e
theorem Vn {kvs:List (Key × V)}(ok:HOk P w H h)(e:H a=some (.dK kvs)):kvs.length<=sizeLine/\(a == sysModules)=false/\∃vs,KV kvs vs/\h.DictOf (dS P w) a vs:=wU ok (.inl e)
theorem tJ {ks:List Key}(ok:HOk P w H h)(e:H a=some (.tup (ks.map kV))):(tupleKind (dS P w)).is h ks a:=by
 obtain⟨_,its,r,o,h1,h2,n,h3⟩:=(show dX P w H h a (.tup (ks.map kV)) from ok a _ e)
 exact⟨o,its.toArray,n,h1,h2,h3,by simpa using vW r⟩
theorem wD {kvs:List (List Key × V)}(ok:HOk P w H h)(e:Rd H a (.dT kvs)):kvs.length<=sizeLine/\(a == sysModules)=false/\
  ∃xs,KT H kvs xs/\h.DictOfH (tupleKind (dS P w)) a xs:=by
 obtain⟨z,y,xs,r,o,es,ep,h1,h2,h3,h4,h5⟩:=(show dX P w H h a (.dT kvs) from Vv ok e)
 refine⟨z,y,xs,r,o,es,ep,h1,h2,h3,h4,fun x hx=>?_,h5⟩;have all:∀{l:List (List Key × V)} {m:List (List Key × Addr × Value)},KT H l m->∀x∈m,(tupleKind (dS P w)).is h x.1 x.2.1:=by
  intro l m q
  induction q with
  |nil=>intro x hx;exact nomatch hx
  | @cons p q ps qs hq t ih=>
   intro x hx;rcases mem_cons.mp hx with e | hx
   ·subst e;exact tJ ok (by rw[<- hq.1];exact hq.2.1)
   ·exact ih x hx
 exact all r x hx
theorem qc5 {kvs:List (List Key × V)}(ok:HOk P w H h)(e:H a=some (.dT kvs)):kvs.length<=sizeLine/\(a == sysModules)=false/\
  ∃xs,KT H kvs xs/\h.DictOfH (tupleKind (dS P w)) a xs:=wD ok (.inl e)
end
def jY (H:Hp)(a:Addr)(y:V)(r:Option V):Prop:=
 (∃kvs k,Rd H a (.dK kvs)/\y=kV k/\r=pJ kvs k)\/∃kvs k b,Rd H a (.dT kvs)/\y=.ref b/\H b=some (.tup (k.map kV))/\r=pJ kvs k
def Km (H:Hp)(a:Addr)(y v:V)(H':Hp):Prop:=
 (∃kvs k,H a=some (.dK kvs)/\y=kV k/\kvs.length < sizeLine/\H'=upd H a (.dK (mE kvs k v)))\/
 ∃kvs k b,H a=some (.dT kvs)/\y=.ref b/\H b=some (.tup (k.map kV))/\kvs.length < sizeLine/\H'=upd H a (.dT (mE kvs k v))
theorem jY.k {H:Hp}{a:Addr}{kvs:List (Key × V)}{k:Key}(e:H a=some (.dK kvs)):jY H a (kV k) (pJ kvs k):=.inl ⟨kvs,k,.inl e,rfl,rfl⟩
theorem Km.k {H:Hp}{a:Addr}{kvs:List (Key × V)}{k:Key}{v:V}(e:H a=some (.dK kvs))(hl:kvs.length < sizeLine):Km H a (kV k) v (upd H a (.dK (mE kvs k v))):=.inl ⟨kvs,k,e,rfl,hl,rfl⟩
section
variable {X:Cx} {pins:List (Addr × Obj)} {σ:St} {H:Hp} {s:Shared} {a:Addr} {y v:V} {u r:Value} {o:Option V} {A:Around} {E:Value->Shared->Prop}
theorem Inv.big (I:Inv X pins σ H s):sysModules < s.heap.objs.size:=by
 have h:mainGlobals < s.heap.objs.size:=(I.mod.glob.keeps I.bk).lt;exact Nat.lt_trans (by decide) h
theorem Ke {Q:Value->Shared->Prop}(hu:A.units+1 < cLine)(I:Inv X pins σ H s)(g:jY H a y (some v))(ry:cE y u)(h:∀w' s',Inv X pins σ H s'->cE v w'->Q w' s') :
  wpAny (model X.prog X.w) A (getItem (.ref a) u) Q E s:=by
 rcases g with ⟨kvs,k,e,ey,l⟩ | ⟨kvs,k,b,e,ey,eb,l⟩
 ·subst ey;obtain⟨z,hd,vs,rel,dd⟩:=wU I.hok e;obtain⟨w',hw,rw'⟩:=lB.some_of (v:=v) (o:=valueAt vs k) (by rw[l];exact rel.val k);exact wpAny_getItem_of (wC ry) dd.mapOf hw (h w' _ (I.tok _) rw')
 ·subst ey
  cases (show u=Value.ref b from ry)
  obtain⟨z,hd,xs,rel,dd⟩:=wD I.hok e;obtain⟨w',hw,rw'⟩:=lB.some_of (v:=v) (o:=(atKey xs k).map (·.2)) (by rw[l];exact rel.val k);obtain⟨p,hp,hp2⟩:=Option.map_eq_some_iff.mp hw;refine wpAny_getItem_heap (tupleKind_room_in1 hu) (tJ I.hok eb) dd hp ?_;rw[hp2];exact h w' _ (I.tok _) rw'
theorem Ue {Q:Value->Shared->Prop}(hu:A.units+1 < cLine)(I:Inv X pins σ H s)(g:jY H a y o)(ry:cE y u)(h:∀s',Inv X pins σ H s'->Q (.bool (!o.isSome)) s') :
  wpAny (model X.prog X.w) A (compareOp .NotIn u (.ref a)) Q E s:=by
 rcases g with ⟨kvs,k,e,ey,l⟩ | ⟨kvs,k,b,e,ey,eb,l⟩
 ·subst ey;obtain⟨z,hd,vs,rel,dd⟩:=wU I.hok e;refine wpAny_notIn_of (wC ry) hd dd.mapOf ?_;rw[<- (rel.val k).isSome_eq,<- l];exact h _ (I.tok _)
 ·subst ey
  cases (show u=Value.ref b from ry)
  obtain⟨z,hd,xs,rel,dd⟩:=wD I.hok e;refine wpAny_notIn_heap (tupleKind_room_in1 hu) (tJ I.hok eb) hd dd ?_;have q:=(rel.val k).isSome_eq;rw[Option.isSome_map] at q;rw[<- q,<- l];exact h _ (I.tok _)
theorem yZ {h':Heap}{t':Nat}{ob:HO}(I:Inv X pins σ H s)(mu:Mut (H a))(hs:Heap.SameBut a s.heap h')(he:∃q,h'.get? a=some q)(new:dX X.prog X.w (upd H a ob) h' a ob) :
  Inv X pins σ (upd H a ob) { s with heap:=h',toks:=t' }:=
 I.write (x:=a) (e:=a) mu (.inl rfl) (fun b q hb z=>(hs.2 b hb).trans z) he new
theorem Pi {P:Program}{w:World}{H':Hp}{h':Heap}{kvs:List (Key × V)}{vs:List (Key × Value)}(z:kvs.length<=sizeLine)(hd:(a == sysModules)=false)(rel:KV kvs vs)(dd:h'.DictOf (dS P w) a vs) :
  dX P w H' h' a (.dK kvs):=⟨z,hd,vs,rel,dd⟩
theorem Jb {H':Hp}{Q:Unit->Shared->Prop}(hu:A.units+1 < cLine)(I:Inv X pins σ H s)(g:Km H a y v H')(ry:cE y u)(rv:cE v r)(h:∀s',Inv X pins σ H' s'->Q () s') :
  wpAny (model X.prog X.w) A (setItem (.ref a) u r) Q E s:=by
 rcases g with ⟨kvs,k,e,ey,l,eH⟩ | ⟨kvs,k,b,e,ey,eb,l,eH⟩
 ·subst ey eH;obtain⟨z,hd,vs,rel,dd⟩:=Vn I.hok e;have hz:vs.length<=sizeLine:=by rw[<- rel.length];exact z
  have hl:(mE kvs k v).length<=sizeLine:=by have:=lP kvs k v;lia
  refine wpAny_setItem_pairs (hsz:=hz) (wC ry) dd fun h' dd' hs=>h _ ?_;have he:∃q,h'.get? a=some q:=let ⟨q,_,_,hq,_⟩:=dd';⟨q,hq⟩
  exact yZ I (by rw[e];exact True.intro) hs he (Pi hl hd (rel.put k rv) dd')
 ·subst ey eH
  cases (show u=Value.ref b from ry)
  obtain⟨z,hd,xs,rel,dd⟩:=qc5 I.hok e;have hz:xs.length<=sizeLine:=by rw[<- Paired.length rel];exact z
  have hl:(mE kvs k v).length<=sizeLine:=by have:=lP kvs k v;lia
  refine wpAny_setItem_heap (hsz:=hz) (tupleKind_room_in1 hu) (tJ I.hok eb) dd fun h' dd' hs=>h _ ?_;obtain⟨q,es,ep,hq,h2,h3,h4,_,h5⟩:=dd';refine yZ I (by rw[e];exact True.intro) hs ⟨q,hq⟩ ⟨hl,hd,_,(rel.put k eb rv).keeps fun c ys ec=>?_,q,es,ep,hq,h2,h3,h4,h5⟩;rw[aW (eY ec e (fun z=>nomatch z))];exact ec
end
def qa8 (i:Expr):Prop:=∀ov iv,subscripted i false ov iv=operate [ov,iv] (getItem ov iv)
theorem Tg {prog:Program}{w:World}{A:Around}{E:Value->Shared->Prop}{s:Shared}{env:Env}{value slice:Expr}{pos:Pos}{T id:String}{Q:Value->Shared->Prop}(hl:typeLookup (.type T) "__getitem__"=pure (some (.builtin id)))(hs:qa8 slice)(h:wpAny (model prog w) A (eval value env) (fun o s₁=>wpAny (model prog w) A (eval slice env) (fun i s₂=>s₂.TypeIs o T/\wpAny (model prog w) A (getItem o i) Q E s₂) E s₁) E s) :
  wpAny (model prog w) A (eval (.Subscript value slice pos) env) Q E s:=by
 refine Subscript_ (wpAny_mono h (fun o s₁ h₁=>wpAny_mono h₁ (fun i s₂ h₂=>?_) fun _ _ x=>x) fun _ _ x=>x);obtain⟨hT,h₂⟩:=h₂;unfold subscriptTail;refine wpAny_bind ?_;rw[getitemInPython_of_ne hT.not_modules];refine wpAny_bind (wpAny_specialOf hT hl ?_);have fin:wpAny (model prog w) A (subscripted slice false o i) (fun r s₃=>wpAny (model prog w) A (letTemporaryGo value o r >>= fun _=>pure r) Q E s₃) E s₂:=by
  rw[hs o i];exact wpAny_operating (wpAny_mono h₂ (fun r s₃ h₃=>wpAny_bind (wpAny_letTemporaryGo (wpAny_pure h₃))) fun _ _ x=>x)
 first
  |exact wpAny_pure (wpAny_bind fin)
  |exact wpAny_bind (wpAny_pure (wpAny_bind fin))
  |exact wpAny_bind fin
theorem Be {X:Cx}{pins:List (Addr × Obj)}{σ:St}{H:Hp}{s:Shared}{a:Addr}{y:V}{o:Option V}(I:Inv X pins σ H s)(g:jY H a y o):s.TypeIs (.ref a) "dict":=by
 rcases g with ⟨kvs,k,e,_,_⟩ | ⟨kvs,k,b,e,_,_,_⟩
 ·obtain⟨_,_,vs,_,dd⟩:=wU I.hok e;exact dd.typeIs
 ·obtain⟨_,_,xs,_,dd⟩:=wD I.hok e;exact dd.typeIs
def qa0 (td ty:TE):TE:=fun σ H Q=>td σ H fun x H1=>ty σ H1 fun y H2=>∃a v,x=.ref a/\jY H2 a y (some v)/\Q v H2
def Ro (ty td:TE):TE:=fun σ H Q=>ty σ H fun y H1=>td σ H1 fun x H2=>∃a o,x=.ref a/\jY H2 a y o/\Q (.bl (!o.isSome)) H2
def qe3 (td ty tv:TE):TS:=fun D σ H=>tv σ H fun v H1=>td σ H1 fun x H2=>ty σ H2 fun y H3=>∃a H4,x=.ref a/\Km H3 a y v H4/\D.nx σ H4
section
variable {X:Cx} {o i e value:Expr} {pos pos' tpos:Pos} {td ty tv:TE}
theorem qV (hu:X.A.units+1 < cLine)(ho:PE X o td)(hi:PE X i ty)(hs:qa8 i):PE X (.Subscript o i pos) (qa0 td ty):=by
 intro pins s σ H Q I h;refine Tg PySem.F.slot_dict_getitem.lookup hs (thn (ho pins s σ H _ I h) fun u s1 ⟨x,H1,I1,rx,q1⟩=>thn (hi pins s1 σ H1 _ I1 q1) fun iv s2 ⟨y,H2,I2,ry,a,v,ex,g,q2⟩=>?_);subst ex;obtain rfl:u=Value.ref a:=rx;exact⟨Be I2 g,Ke hu I2 g ry fun w' s3 I3 rw'=>⟨v,H2,I3,rw',q2⟩⟩
theorem Jq (hu:X.A.units+1 < cLine)(hi:PE X i ty)(ho:PE X o td):PC X .NotIn i o (Ro ty td):=by
 intro pins s σ H Q I h;refine thn (hi pins s σ H _ I h) fun iv s1 ⟨y,H1,I1,ry,q1⟩=>thn (ho pins s1 σ H1 _ I1 q1) fun u s2 ⟨x,H2,I2,rx,a,ov,ex,g,q2⟩=>?_;subst ex;obtain rfl:u=Value.ref a:=rx;exact Ue hu I2 g ry fun s3 I3=>⟨.bl (!ov.isSome),H2,I3,rfl,q2⟩
theorem Sa (hu:X.A.units+1 < cLine)(ho:PE X o td)(hi:PE X i ty)(hv:PE X value tv)(hs:swapsWith value (some (.Subscript o i pos')) pos.line X.env=pure false) :
  PS X (.Assign [.Subscript o i pos'] value pos) (qe3 td ty tv):=by
 intro pins s σ H D I h;refine wpAny_Assign_Subscript (thn (hv pins s σ H _ I h) fun r s1 ⟨v,H1,I1,rv,q1⟩=>thn (ho pins s1 σ H1 _ I1 q1) fun u s2 ⟨x,H2,I2,rx,q2⟩=>thn (hi pins s2 σ H2 _ I2 q2) fun iv s3 ⟨y,H3,I3,ry,a,H4,ex,g,q3⟩=>?_) hs;subst ex;obtain rfl:u=Value.ref a:=rx;exact Jb hu I3 g ry rv fun s4 I4=>⟨σ,H4,I4,q3⟩
end
theorem Nh {P:Program}{w:World}{H:Hp}(h:Heap)(hb:sysModules < h.objs.size):dX P w H (h.push { cls:=.type "dict",data:=.dict #[] }) h.objs.size (.dK []):=
 ⟨Nat.zero_le _,beq_eq_false_iff_ne.mpr (Ne.symm (Nat.ne_of_lt hb)),[],.nil,Heap.DictOf.new h⟩
def Dt:List (TE × TE)->St->Hp->(List (V × V)->Hp->Prop)->Prop
 | [],_,H,Q=>Q [] H
 | (tk,tv) :: r,σ,H,Q=>tk σ H fun x H1=>tv σ H1 fun y H2=>Dt r σ H2 fun ps H3=>Q ((x,y) :: ps) H3
abbrev VV:List (V × V)->List (Value × Value)->Prop:=Paired fun p q=>cE p.1 q.1/\cE p.2 q.2
def PPs (X:Cx)(pos:Pos)(keys:List (Option Expr))(values:List Expr)(trs:List (TE × TE)):Prop:=
 ∀(pins:List (Addr × Obj)) (s:Shared) (σ:St) (H:Hp) (Q:List (V × V)->Hp->Prop),Inv X pins σ H s->Dt trs σ H Q->
  wpAny (model X.prog X.w) X.A (evalPairs (pairTrees keys values X.env pos)) (fun vs s'=>∃ps H',Inv X pins σ H' s'/\VV ps vs/\Q ps H') X.xe s
theorem Gn {X:Cx}{pos:Pos}:PPs X pos [] [] []:=fun pins s σ H Q I h=>pairTrees_nil_walk ⟨[],H,I,.nil,h⟩
theorem mC {X:Cx}{pos:Pos}{k v:Expr}{ks:List (Option Expr)}{vs:List Expr}{tk tv:TE}{trs:List (TE × TE)}(hk:PE X k tk)(hv:PE X v tv)(hr:PPs X pos ks vs trs) :
  PPs X pos (some k :: ks) (v :: vs) ((tk,tv) :: trs):=fun pins s σ H Q I h=>
 pairTrees_cons_walk (thn (hk pins s σ H _ I h) fun u s1 ⟨x,H1,I1,rx,q1⟩=>thn (hv pins s1 σ H1 _ I1 q1) fun w2 s2 ⟨y,H2,I2,ry,q2⟩=>
  thn (hr pins s2 σ H2 _ I2 q2) fun ws s3 ⟨ps,H3,I3,rel,q3⟩=>⟨(x,y) :: ps,H3,I3,.cons ⟨rx,ry⟩ rel,q3⟩)
def jM (kvs more:List (Key × V)):List (Key × V):=more.foldl (fun acc kv=>mE acc kv.1 kv.2) kvs
theorem KV.merge:∀{more:List (Key × V)} {rs:List (Key × Value)} {kvs:List (Key × V)} {vs:List (Key × Value)},KV more rs->KV kvs vs->KV (jM kvs more) (merged vs rs):=by
 intro more rs kvs vs r;unfold KV at r
 induction r generalizing kvs vs with
 |nil=>intro q;exact q
 | @cons p q ps qs h t ih=>
  intro r0;have e:KV (mE kvs p.1 p.2) (stored vs q.1 q.2):=by
   have:=r0.put p.1 h.2;rw[<- h.1];exact this
  exact ih e
theorem nC:∀(more kvs:List (Key × V)),(jM kvs more).length<=kvs.length+more.length
 | [],kvs=>by show kvs.length<=kvs.length+0;lia
 |p :: r,kvs=>by
  have h1:=nC r (mE kvs p.1 p.2);have h2:=lP kvs p.1 p.2;show (jM (mE kvs p.1 p.2) r).length<=_;rw[length_cons];lia
theorem uO {P:Program}{w:World}:∀{kvs:List (Key × V)} {ws:List (Value × Value)},VV (kvs.map fun kv=>(kV kv.1,kv.2)) ws->∃rs,Carries (dS P w) ws rs/\KV kvs rs
 | [],_,r=>by rw[map_nil] at r;cases r;exact⟨[],True.intro,.nil⟩
 |p :: kvs,_,r=>by
  rw[map_cons] at r
  cases r with
  | @cons a b as bs h t=>
   obtain⟨rs,c,q⟩:=uO (P:=P) (w:=w) t;obtain⟨b1,b2⟩:=b;exact⟨(p.1,b2) :: rs,⟨wC h.1,rfl,c⟩,.cons ⟨rfl,h.2⟩ q⟩
def qc4 (trs:List (TE × TE)):TE:=fun σ H Q=>∀p,H p=none->Dt trs σ (upd H p (.dK [])) fun ps H2=>H2 p=some (.dK [])/\∃kvs:List (Key × V),ps=kvs.map (fun kv=>(kV kv.1,kv.2))/\kvs.length<=15/\Q (.ref p) (upd H2 p (.dK (jM [] kvs)))
theorem Gk {X:Cx}{pos:Pos}{keys:List (Option Expr)}{values:List Expr}{trs:List (TE × TE)}(h:PPs X pos keys values trs)(hall:keys.all (·.isSome)=true)(hl:keys.length=values.length)(h0:keys≠[])(h15:keys.length<=15):PE X (.Dict keys values pos) (qc4 trs):=by
 intro pins s σ H Q I q;have hn:=I.hok.fresh (Nat.le_refl s.heap.objs.size);have I1:=I.laid (a:=s.heap.objs.size) (o:=.dK []) (h':=s.heap.push { cls:=.type "dict",data:=.dict #[] }) (t':=s.toks) (fun _ _ q=>Heap.get?_push_of_some _ q) (Nat.le_refl _) (Nh s.heap I.big);refine wpAny_Dict_walk (knd:=dS X.prog X.w) hall hl h0 h15 (thn (h pins _ σ _ _ I1 (q _ hn)) fun ws s2 ⟨ps,H2,I2,rel,e,kvs,ep,lk,q2⟩=>?_);subst ep;obtain⟨rs,c,rk⟩:=uO (P:=X.prog) (w:=X.w) rel;obtain⟨z,hd,vs0,r0,dd⟩:=Vn I2.hok e
 cases r0
 refine⟨rs,c,dd,fun h' dd' hs=>⟨.ref s.heap.objs.size,_,?_,rfl,q2⟩⟩;have hz:(jM [] kvs).length<=sizeLine:=by
  have h1:=nC kvs [];rw[length_nil] at h1;rw[sizeLine_eq];lia
 have he:∃q,h'.get? s.heap.objs.size=some q:=let ⟨q,_,_,hq,_⟩:=dd';⟨q,hq⟩
 exact yZ I2 (by rw[e];exact True.intro) hs he (Pi hz hd (rk.merge .nil) dd')
structure M1 (X:Cx) (o:Expr) (m:Str) (apos:Pos) (e:Expr) (cpos:Pos):Prop where
 base:attributeBase o m X.env (eval o X.env)=eval o X.env
 few:((backTo cpos (starEach [e] X.env)).all (fun x=>!x.1) && (backToKw cpos (keywordEach [] X.env)).all (fun x=>x.1.isSome)
  && decide (([e]:List Expr).length+([]:List Keyword).length+(if ([]:List Keyword).isEmpty then 0 else 1) < 30))=true
 line:(apos.endLine == cpos.line)=true
 trees:backTo cpos (starEach [e] X.env)=[(false,eval e X.env)]
def IsD (H:Hp)(a:Addr):Prop:=(∃kvs,Rd H a (.dK kvs))\/∃kvs,Rd H a (.dT kvs)
theorem Wo {X:Cx}{pins:List (Addr × Obj)}{σ:St}{H:Hp}{s:Shared}{a:Addr}(I:Inv X pins σ H s)(d:IsD H a) :
  s.TypeIs (.ref a) "dict"/\(∀b,Value.ref a=.ref b->∃ob,s.heap.get? b=some ob/\ob.dict=none)/\(a == sysModules)=false:=by
 rcases d with ⟨kvs,e⟩ | ⟨kvs,e⟩
 ·obtain⟨_,hd,vs,_,dd⟩:=wU I.hok e;refine⟨dd.typeIs,fun b q=>?_,hd⟩
  cases q
  obtain⟨ob,_,_,h1,h2,_⟩:=dd;exact⟨ob,h1,h2.2.1⟩
 ·obtain⟨_,hd,xs,_,dd⟩:=wD I.hok e;refine⟨dd.typeIs,fun b q=>?_,hd⟩
  cases q
  obtain⟨ob,_,_,h1,h2,_⟩:=dd;exact⟨ob,h1,h2.2.1⟩
section
variable {X:Cx} {pins:List (Addr × Obj)} {σ:St} {H:Hp} {s:Shared} {a:Addr} {y d:V} {u r:Value} {o:Option V} {A:Around} {E:Value->Shared->Prop}
theorem Zm {Q:Value->Shared->Prop}(hu:A.units+1 < cLine)(I:Inv X pins σ H s)(g:jY H a y o)(ry:cE y u)(h:∀w' s',Inv X pins σ H s'->cE (o.getD .non) w'->Q w' s') :
  wpAny (model X.prog X.w) A (call (.builtin "dict.get") [.ref a,u]) Q E s:=by
 rcases g with ⟨kvs,k,e,ey,l⟩ | ⟨kvs,k,b,e,ey,eb,l⟩
 ·subst ey;obtain⟨z,hd,vs,rel,dd⟩:=wU I.hok e;refine call_meetsIn PySem.F.slot_dict_get dd.typeIs PySem.F.entry_dict_get (PySem.F.args_dict_get_2 _ _) (meets_dict_get (dS X.prog X.w) a (wC ry) hd) ⟨_,dd.mapOf,h _ _ (I.tok _) ?_⟩;rw[l];exact(rel.val k).getD rfl
 ·subst ey
  cases (show u=Value.ref b from ry)
  obtain⟨z,hd,xs,rel,dd⟩:=wD I.hok e;refine call_meetsIn PySem.F.slot_dict_get dd.typeIs PySem.F.entry_dict_get (PySem.F.args_dict_get_2 _ _) (meetsH_dict_get (tupleKind (dS X.prog X.w)) a b hd) ⟨tupleKind_room_in1 hu,k,xs,tJ I.hok eb,dd,h _ _ (I.tok _) ?_⟩;rw[l];exact(rel.val k).getD rfl
end
def Zn (td ty:TE):TE:=fun σ H Q=>td σ H fun x H1=>∃a,x=.ref a/\IsD H1 a/\ty σ H1 fun y H2=>∃o,jY H2 a y o/\Q (o.getD .non) H2
section
variable {X:Cx} {o e f:Expr} {apos cpos:Pos} {td ty tx:TE}
theorem Lq (hu:X.A.units+1 < cLine)(ho:PE X o td)(he:PE X e ty)(m:M1 X o "get" apos e cpos):PE X (.Call (.Attribute o "get" apos) [e] [] cpos) (Zn td ty):=by
 intro pins s σ H Q I h;refine wpAny_Call_method m.base m.few m.line PySem.F.plainAttrs_dict PySem.F.slot_dict_get PySem.F.type_dict_get (thn (ho pins s σ H _ I h) fun u s1 ⟨x,H1,I1,rx,a,ex,d,q1⟩=>?_);subst ex;obtain rfl:u=Value.ref a:=rx;obtain⟨t1,t2,_⟩:=Wo I1 d;refine⟨t1,t2,?_⟩;rw[m.trees];refine Calls.callWith_builtin rfl (Calls.evalArgs_plain (Calls.spliced_cons (thn (he pins s1 σ H1 _ I1 q1) fun iv s2 ⟨y,H2,I2,ry,ov,g,q2⟩=>Calls.spliced_nil ?_)));exact Zm hu I2 g ry fun w' s3 I3 rw'=>⟨_,H2,I3,rw',q2⟩
end
def Jd:Kd->Q2->Q2->Q2->Q2
 | .pc,u,_,p=>mU u p
 | .pu,_,_,p=>p
 | .ho,_,v,_=>v
theorem Fq.mod {K:Frag}{a:Addr}{d:Option Addr}{n:Nat}{sl:Array (Option Value)}{i j:Int}{t u:Tok}(l:K.lookup a=some ⟨.type "tuple",d,.seq #[.int i t,.int j u] n,sl⟩)(H:Hp):Fq K H a (i,j):=
 .inr ⟨_,_,_,l,rfl,rfl,(zl9 2),.cons ⟨_,rfl⟩ (.cons ⟨_,rfl⟩ .nil)⟩
abbrev RD:=Kd × Int × Int × Q2
inductive Rts (K:Frag) (H:Hp):List V->List RD->Prop where
 |nil:Rts K H [] []
 |cons {t z:Addr} {k:Kd} {i j:Int} {p:Q2} {xs:List V} {ds:List RD} (h:SqT K H t [.str k.wd,.int i,.int j,.ref z]) (f:Fq K H z p) (q:Rts K H xs ds):Rts K H (.ref t :: xs) ((k,i,j,p) :: ds)
section
variable {K:Frag} {H H':Hp}
theorem Rts.same (e:aY H H'):∀{xs:List V} {ds:List RD},Rts K H xs ds->Rts K H' xs ds
 |_,_,.nil=>.nil
 |_,_,.cons h f q=>.cons (e.seqT h) (e.fq f) (Rts.same e q)
theorem Rts.length:∀{xs:List V} {ds:List RD},Rts K H xs ds->xs.length=ds.length
 |_,_,.nil=>rfl
 |_,_,.cons _ _ q=>by simp[Rts.length q]
theorem Rts.app:∀{xs ys:List V} {ds es:List RD},Rts K H xs ds->Rts K H ys es->Rts K H (xs++ys) (ds++es)
 |_,_,_,_,.nil,r=>r
 |_,_,_,_,.cons h f q,r=>.cons h f (Rts.app q r)
theorem Rts.at:∀{xs:List V} {ds:List RD} {q:Nat} {d:RD},Rts K H xs ds->ds[q]?=some d->∃t z,xs[q]?=some (.ref t)/\SqT K H t [.str d.1.wd,.int d.2.1,.int d.2.2.1,.ref z]/\Fq K H z d.2.2.2
 |_,_,_,_,.nil,h=>by simp at h
 |_,_,0,_,.cons h f _,e=>by simp at e;subst e;exact⟨_,_,rfl,h,f⟩
 |_,_,i+1,_,.cons _ _ q,e=>by simpa using Rts.at q (by simpa using e)
theorem Rts.set {t z:Addr}{k:Kd}{i j:Int}{p:Q2}(h:SqT K H t [.str k.wd,.int i,.int j,.ref z])(f:Fq K H z p):∀{xs:List V} {ds:List RD} (q:Nat),Rts K H xs ds->Rts K H (xs.set q (.ref t)) (ds.set q (k,i,j,p))
 |_,_,_,.nil=>.nil
 |_,_,0,.cons _ _ q=>.cons h f q
 |_,_,n+1,.cons a b q=>.cons a b (Rts.set h f n q)
theorem Rts.upd {l:Addr}{ys:List V}{o:HO}(hl:H l=some (.lst ys)):∀{xs:List V} {ds:List RD},Rts K H xs ds->Rts K (L2.upd H l o) xs ds
 |_,_,.nil=>.nil
 |_,_,.cons h f q=>.cons (h.upd hl) (f.upd hl) (Rts.upd hl q)
end
def cK (l:Addr)(H H':Hp):Prop:=∀b o,H b=some o->b≠l->H' b=some o
theorem aY.x {l:Addr}{H H':Hp}(s:aY H H'):cK l H H':=fun b o h _=>s b o h
theorem cK.trans {l:Addr}{H H1 H2:Hp}(a:cK l H H1)(b:cK l H1 H2):cK l H H2:=fun c o h n=>b c o (a c o h n) n
theorem cK.write {l:Addr}{H H1:Hp}{o:HO}(a:cK l H H1):cK l H (upd H1 l o):=fun c u h n=>by rw[aW n];exact a c u h n
section
variable {K:Frag} {H H':Hp} {l:Addr}
theorem cK.seqT {a:Addr}{xs ys:List V}(hl:H l=some (.lst ys))(e:cK l H H')(h:SqT K H a xs):SqT K H' a xs:=by
 rcases h with (h | ⟨u,h⟩) | h
 ·exact .inl (.inl (e _ _ h (eY h hl (fun z=>by cases z))))
 ·exact .inl (.inr ⟨u,e _ _ h (eY h hl (fun z=>by cases z))⟩)
 ·exact .inr h
theorem cK.rts {ys:List V}(hl:H l=some (.lst ys))(e:cK l H H'):∀{xs:List V} {ds:List RD},Rts K H xs ds->Rts K H' xs ds
 |_,_,.nil=>.nil
 |_,_,.cons h f q=>.cons (e.seqT hl h) (e.seqT hl f) (cK.rts hl e q)
end
theorem fpk:¬(("point_count":Str) = "kept"):=by decide +kernel
def iJ (m:Int)(l:Addr):List (Str × V):=dE "kept" (.ref l) (dE "point_count" (.int m) [])
theorem tK (m:Int)(l:Addr):(iJ m l).lookup ("point_count":Str)=some (.int m):=by
 unfold iJ;rw[bK,if_neg fpk,bK,if_pos rfl]
theorem fX (m:Int)(l:Addr):(iJ m l).lookup ("kept":Str)=some (.ref l):=by
 unfold iJ;rw[bK,if_pos rfl]
theorem fF (m:Int)(l:Addr){x:Str}(h1:¬x = "point_count")(h2:¬x = "kept"):(iJ m l).lookup x=none:=by
 unfold iJ;rw[bK,if_neg h2,bK,if_neg h1];rfl
theorem Jn (m:Int)(l l':Addr):dE "kept" (.ref l') (iJ m l)=iJ m l':=by
 unfold iJ;show dE "kept" (.ref l') (dE "kept" (.ref l) [(("point_count":Str),V.int m)])=dE "kept" (.ref l') [(("point_count":Str),V.int m)];show dE "kept" (.ref l') (if (("point_count":Str)) = "kept" then _ else _)=(if (("point_count":Str)) = "kept" then _ else _)
 rw[if_neg fpk,if_neg fpk];show (if (("point_count":Str)) = "kept" then _ else (("point_count":Str),V.int m) :: (if ("kept":Str) = "kept" then _ else _))=_;rw[if_neg fpk,if_pos rfl];rfl
theorem Jf (m:Int)(l:Addr):(iJ m l).length<=2:=by
 unfold iJ;have a:=dD ("kept":Str) (.ref l) (dE "point_count" (.int m) []);have b:=dD ("point_count":Str) (.int m) [];simp only[length_nil] at b;lia
def qM (m:Int)(d:RD):Prop:=0<=d.2.1/\d.2.1 < m/\0<=d.2.2.1/\d.2.2.1 < m/\Low d.2.2.2/\(d.1=.pc->0 < d.2.2.2.1)/\Bd 1000 d.2.2.2
structure cV (CN:Addr) (K:Frag) (H:Hp) (n l:Addr) (m:Int) (ds:List RD):Prop where
 ob:∃dx,H n=some (.ins CN dx (iJ m l))
 ls:∃ts,H l=some (.lst ts)/\Rts K H ts ds
theorem cV.same {CN:Addr}{K:Frag}{H H':Hp}{n l:Addr}{m:Int}{ds:List RD}(e:aY H H')(h:cV CN K H n l m ds):cV CN K H' n l m ds:=
 let ⟨⟨dx,a⟩,ts,b,c⟩:=h;⟨⟨dx,e _ _ a⟩,ts,e _ _ b,c.same e⟩
theorem cV.x {CN:Addr}{K:Frag}{H H':Hp}{n l q:Addr}{m:Int}{ds:List RD}{ys:List V}(hq:H q=some (.lst ys))(e:cK q H H')(ne:l≠q)(h:cV CN K H n l m ds):cV CN K H' n l m ds:=
 let ⟨⟨dx,a⟩,ts,b,c⟩:=h;⟨⟨dx,e _ _ a (eY a hq (fun z=>by cases z))⟩,ts,e _ _ b ne,e.rts hq c⟩
structure NT (K:Frag) (mg:Str->Option Value) (CN:Addr):Prop where
 cl:Cls K CN
 nP:gV K CN "point_count"
 nK:gV K CN "kept"
 t1:W.findIn K (.ref CN) "__class__"=some (some (.builtin "object.__class__"))
 t2:W.specialIn K (.builtin "object.__class__") "__get__"=some (some (.builtin "getset_descriptor.__get__"))
 t3:W.takesIn K (.builtin "object.__class__")=some true
 t4:W.mroIn K CN (.type "object")=some true
 mN:mg "Net"=some (.ref CN)
def tE (K:Frag)(CK:Kd->Addr):Sp:=fun vs H Q _=>∃(t:Addr) (v s g z:V),vs=[.ref t]/\SqT K H t [v,s,g,z]/\∃k:Kd,v=.str k.wd/\qg9 CK H Q k s g z
def Lg (K:Frag):Sp:=fun vs H Q _=>∃(a:Addr) (p:Q2),vs=[.ref a]/\Fq K H a p/\Low p/\Q (.bl true) H
def qd0 (K:Frag):Sp:=fun vs H Q _=>∃(a:Addr) (p:Q2) (n:Nat),vs=[.ref a]/\Fq K H a p/\Low p/\0 < p.1/\Bd n p/\n<=8000/\Q (.bl true) H
def Wm:Sp:=fun vs H Q _=>∃i b:Int,vs=[.int i,.int b]/\0<=i/\i < b/\Q (.bl true) H
def Xo (K:Frag):Sp:=fun vs H Q _=>∃(k:Kd) (z:Addr) (p:Q2),vs=[.str k.wd,.ref z]/\Fq K H z p/\Low p/\(k=.pc->0 < p.1)/\Bd 1000 p/\Q .non H
def zJ (CN:Addr):Sp:=fun vs H Q _=>∃(n dx:Addr) (m:Int),vs=[.ref n,.int m]/\H n=some (.ins CN dx [])/\1<=m/\m<=20/\∀l H',H l=none->(∀b o,H b=some o->b≠n->H' b=some o)->H' n=some (.ins CN dx (iJ m l))->H' l=some (.lst [])->Q .non H'
def zK (CN:Addr)(K:Frag):Sp:=fun vs H Q _=>∃(n l:Addr) (m:Int) (ds:List RD),vs=[.ref n]/\cV CN K H n l m ds/\Q (.int m) H
def Vt (CN:Addr)(K:Frag)(CK:Kd->Addr):Sp:=fun vs H Q _=>∃(n l x z:Addr) (m:Int) (ds:List RD) (k:Kd) (i j:Int) (p:Q2),vs=[.ref n,.ref x]/\cV CN K H n l m ds/\Rw CK H x k (.int i) (.int j) (.ref z)/\Fq K H z p/\qM m (k,i,j,p)/\ds.length < 40/\
 ∀H',cK l H H'->cV CN K H' n l m (ds++[(k,i,j,p)])->Q (.int ds.length) H'
def Av (CN:Addr)(K:Frag):Sp:=fun vs H Q _=>∃(n l z:Addr) (m q:Int) (ds:List RD) (k:Kd) (i j:Int) (p0 p:Q2),vs=[.ref n,.int q,.ref z]/\cV CN K H n l m ds/\0<=q/\ds[q.toNat]?=some (k,i,j,p0)/\Fq K H z p/\Low p/\(k=.pc->0 < p.1)/\Bd 1000 p/\
 ∀H',cK l H H'->cV CN K H' n l m (ds.set q.toNat (k,i,j,p))->Q .non H'
def Om (CN:Addr)(K:Frag):Sp:=fun vs H Q _=>∃(n l:Addr) (m:Int) (ds:List RD),vs=[.ref n]/\cV CN K H n l m ds/\1<=m/\m<=20/\∀n' l' H',aY H H'->H n'=none->H l'=none->cV CN K H' n' l' m ds->Q (.ref n') H'
def hV (l r:Addr)(H H':Hp):Prop:=∀b o,H b=some o->b≠l->b≠r->H' b=some o
section
variable {K:Frag} {H H':Hp} {l r:Addr} {as bs:List V}
theorem hV.seqT {a:Addr}{xs:List V}(hl:H l=some (.lst as))(hr:H r=some (.lst bs))(e:hV l r H H')(h:SqT K H a xs):SqT K H' a xs:=by
 rcases h with (h | ⟨u,h⟩) | h
 ·exact .inl (.inl (e _ _ h (eY h hl (fun z=>by cases z)) (eY h hr (fun z=>by cases z))))
 ·exact .inl (.inr ⟨u,e _ _ h (eY h hl (fun z=>by cases z)) (eY h hr (fun z=>by cases z))⟩)
 ·exact .inr h
end
theorem kA {a1 u:TS}{D:lF}{σ:St}{H:Hp}(P:St->Hp->Prop)(h1:∀X:St->Hp->Prop,(∀σ' H',P σ' H'->X σ' H')->(a1) { D with nx:=X } σ H)(h2:∀σ' H',P σ' H'->u D σ' H'):(gO a1 (u)) D σ H:=h1 _ h2
theorem qh3 {a1 a2 u:TS}{D:lF}{σ:St}{H:Hp}(P:St->Hp->Prop)(h1:∀X:St->Hp->Prop,(∀σ' H',P σ' H'->X σ' H')->(gO a1 (a2)) { D with nx:=X } σ H)(h2:∀σ' H',P σ' H'->u D σ' H'):(gO a1 (gO a2 (u))) D σ H:=h1 _ h2
theorem qd8 {a1 a2 a3 u:TS}{D:lF}{σ:St}{H:Hp}(P:St->Hp->Prop)(h1:∀X:St->Hp->Prop,(∀σ' H',P σ' H'->X σ' H')->(gO a1 (gO a2 (a3))) { D with nx:=X } σ H)(h2:∀σ' H',P σ' H'->u D σ' H'):(gO a1 (gO a2 (gO a3 (u)))) D σ H:=h1 _ h2
theorem qi0 {a1 a2 a3 a4 u:TS}{D:lF}{σ:St}{H:Hp}(P:St->Hp->Prop)(h1:∀X:St->Hp->Prop,(∀σ' H',P σ' H'->X σ' H')->(gO a1 (gO a2 (gO a3 (a4)))) { D with nx:=X } σ H)(h2:∀σ' H',P σ' H'->u D σ' H'):(gO a1 (gO a2 (gO a3 (gO a4 (u))))) D σ H:=h1 _ h2
theorem qk3 {a1 a2 a3 a4 a5 u:TS}{D:lF}{σ:St}{H:Hp}(P:St->Hp->Prop)(h1:∀X:St->Hp->Prop,(∀σ' H',P σ' H'->X σ' H')->(gO a1 (gO a2 (gO a3 (gO a4 (a5))))) { D with nx:=X } σ H)(h2:∀σ' H',P σ' H'->u D σ' H'):(gO a1 (gO a2 (gO a3 (gO a4 (gO a5 (u)))))) D σ H:=h1 _ h2
theorem Ih (ns:List Int)(lo hi:Option Int):∃ms:List Int,kZ (ns.map V.int) lo hi=ms.map V.int:=
 ⟨(ns.drop (HT.sIx (ns.map V.int).length 0 lo)).take (HT.sIx (ns.map V.int).length (ns.map V.int).length hi - HT.sIx (ns.map V.int).length 0 lo),by unfold kZ;rw[map_take,map_drop]⟩
end L2
namespace Mq
def val (p:Q2):Rat:=(p.1:Rat) / (p.2:Rat)
theorem dL {b:Int}(h:b≠0):(b:Rat)≠0:=fun e=>h (Rat.intCast_inj.mp (by simpa using e))
theorem Cy {p:Q2}{t b:Int}(hp:p.2≠0)(hb:b≠0)(h:p.1*b=t*p.2):val p=(t:Rat) / (b:Rat):=by
 unfold val;have h1:=dL hp;have h2:=dL hb;have h3:(p.1:Rat)*(b:Rat)=(t:Rat)*(p.2:Rat):=by rw[<- Rat.intCast_mul,<- Rat.intCast_mul,h]
 grind
theorem jH {t b:Int}(hb:b≠0):val (red t b)=(t:Rat) / (b:Rat):=by
 have:=(iA (t:=t) hb).pos;exact Cy (by lia) hb (wX hb)
theorem rB {p q:Q2}(hp:Low p)(hq:Low q)(h:val p=val q):p=q:=by
 refine Ph hp hq ?_;have p1:=dL (show p.2≠0 by have:=hp.pos;lia);have q1:=dL (show q.2≠0 by have:=hq.pos;lia);unfold val at h;have:(p.1:Rat)*(q.2:Rat)=(q.1:Rat)*(p.2:Rat):=by grind
 rw[<- Rat.intCast_mul,<- Rat.intCast_mul] at this;exact Rat.intCast_inj.mp this
theorem oN {p q:Q2}(hp:1<=p.2)(hq:1<=q.2):val (gY p q)=val p+val q:=by
 have p1:=dL (show p.2≠0 by lia);have q1:=dL (show q.2≠0 by lia);unfold gY;rw[jH (gF hp hq),Rat.intCast_add,Rat.intCast_mul,Rat.intCast_mul,Rat.intCast_mul];unfold val;grind
theorem eX {p q:Q2}(hp:1<=p.2)(hq:1<=q.2):val (minus p q)=val p - val q:=by
 have p1:=dL (show p.2≠0 by lia);have q1:=dL (show q.2≠0 by lia);unfold minus;rw[jH (gF hp hq),Rat.intCast_sub,Rat.intCast_mul,Rat.intCast_mul,Rat.intCast_mul];unfold val;grind
theorem fH {p q:Q2}(hp:1<=p.2)(hq:1<=q.2):val (gB p q)=val p*val q:=by
 have p1:=dL (show p.2≠0 by lia);have q1:=dL (show q.2≠0 by lia);unfold gB;rw[jH (gF hp hq),Rat.intCast_mul,Rat.intCast_mul];unfold val;grind
theorem sM {p q:Q2}(hp:1<=p.2)(hq:1<=q.2)(h0:q.1≠0):val (mU p q)=val p / val q:=by
 have p1:=dL (show p.2≠0 by lia);have q1:=dL (show q.2≠0 by lia);have q2:=dL h0;unfold mU;rw[jH (pK hp h0),Rat.intCast_mul,Rat.intCast_mul];unfold val;grind
theorem kU:val (0,1)=0:=by unfold val;simp;grind
theorem Vk:val (1,1)=1:=by unfold val;simp;grind
theorem Ud {t b:Int}(ht:0 < t)(hb:0 < b):0 < (red t b).1:=by
 have h1:=wX (t:=t) (b:=b) (by lia);have h2:=(iA (t:=t) (b:=b) (by lia)).pos;have h3:0 < t*(red t b).2:=Int.mul_pos ht (by lia);rw[<- h1] at h3;exact Int.pos_of_mul_pos_left h3 (by lia)
def lH:List Rat->Rat
 | []=>0
 |x :: l=>x+lH l
theorem vJ:∀{l:List Q2} {p:Q2},1<=p.2->Pos l->val (l.foldl gY p)=val p+lH (l.map val)
 | [],p,_,_=>by simp[lH];grind
 |q :: l,p,hp,h=>by
  have hq:=h q (by simp);rw[foldl_cons,vJ (jW hp hq).pos (fun f hf=>h f (mem_cons_of_mem _ hf)),oN hp hq];simp only[map_cons,lH];grind
theorem xQ {l:List Q2}(h:Pos l):val (tot l)=lH (l.map val):=by
 unfold tot;rw[vJ (by decide) h,kU];grind
def rs (n:Nat)(F:Nat->Rat):Rat:=match n with
 |0=>0
 |n+1=>rs n F+F n
theorem aS {n:Nat}{F G:Nat->Rat}(h:∀i,i < n->F i=G i):rs n F=rs n G:=by
 induction n with
 |zero=>rfl
 |succ n ih=>simp only[rs];rw[ih (fun i hi=>h i (by lia)),h n (by lia)]
theorem eK (n:Nat)(F G:Nat->Rat):rs n (fun i=>F i+G i)=rs n F+rs n G:=by
 induction n with
 |zero=>simp[rs];grind
 |succ n ih=>simp only[rs];rw[ih];grind
theorem dM (n:Nat)(c:Rat)(F:Nat->Rat):rs n (fun i=>c*F i)=c*rs n F:=by
 induction n with
 |zero=>simp[rs]
 |succ n ih=>simp only[rs];rw[ih];grind
theorem oB (n:Nat)(F:Nat->Rat):rs n (fun i=>- F i)=- rs n F:=by
 induction n with
 |zero=>simp[rs]
 |succ n ih=>simp only[rs];rw[ih];grind
theorem dB (n:Nat):rs n (fun _=>0)=0:=by
 induction n with
 |zero=>rfl
 |succ n ih=>simp only[rs];rw[ih];grind
theorem Dn (n k:Nat)(F:Nat->Rat):rs n (fun i=>if k=i then F i else 0)=if k < n then F k else 0:=by
 induction n with
 |zero=>simp[rs]
 |succ n ih=>
  simp only[rs];rw[ih]
  by_cases h1:k < n
  ·rw[if_pos h1,if_neg (by lia),if_pos (by lia)];grind
  ·by_cases h2:k=n
   ·subst h2;rw[if_neg h1,if_pos rfl,if_pos (by lia)];grind
   ·rw[if_neg h1,if_neg h2,if_neg (by lia)];grind
abbrev z0:Q2:=(0,1)
abbrev Row:=Nat × Nat × Q2
theorem iZ.pos {ls:List Q2}(h:iZ ls):Pos ls:=fun p hp=>(h p hp).pos
def oF (L b:Int):Int:=Int.fdiv L (gc L b)*b
theorem nY {L b:Int}(hL:1<=L)(hb:1<=b):1<=oF L b/\(∃j,oF L b=L*j)/\(∃k,oF L b=k*b/\1<=k)/\oF L b<=L*b:=by
 have gp:0 < gc L b:=uM (by lia);have d1:gc L b ∣ L:=by unfold gc;exact Int.gcd_dvd_left ..
 have d2:gc L b ∣ b:=by unfold gc;exact Int.gcd_dvd_right ..
 obtain⟨k,hk⟩:=d1;obtain⟨j,hj⟩:=d2;have ek:Int.fdiv L (gc L b)=k:=fY (by lia) hk;have k1:1<=k:=by
  have:0 < gc L b*k:=by lia
  have:=Int.pos_of_mul_pos_right this (by lia);lia
 unfold oF;rw[ek];refine⟨?_,⟨j,?_⟩,⟨k,rfl,k1⟩,?_⟩
 ·have:0 < k*b:=Int.mul_pos (by lia) (by lia);lia
 ·generalize gc L b=g at *
  rw[hk,hj];grind
 ·have:k<=L:=by
   rw[hk];have:=Int.mul_le_mul_of_nonneg_right (show 1<=gc L b by lia) (show 0<=k by lia);lia
  exact Int.mul_le_mul_of_nonneg_right this (by lia)
def dY (ps:List Q2):Int:=ps.foldl (fun L p=>oF L p.2) 1
theorem Kf (ps:List Q2)(p:Q2):dY (ps++[p])=oF (dY ps) p.2:=by unfold dY;rw[foldl_append];rfl
theorem mM {ps:List Q2}{i:Nat}{p:Q2}(h:ps[i]?=some p):dY (ps.take (i+1))=oF (dY (ps.take i)) p.2:=by
 rw[take_add_one,h];exact Kf _ _
theorem oG {ps:List Q2}(hp:Pos ps){n:Nat}(hb:∀p∈ps,Bd n p):∀i,i<=ps.length->1<=dY (ps.take i)/\B (1+n*i) (dY (ps.take i))/\∀p∈ps.take i,∃k,dY (ps.take i)=k*p.2
 |0,_=>⟨by show (1:Int)<=1;lia,show (1:Nat) < 2 ^ (1+n*0) by simp,fun p h=>by simp at h⟩
 |i+1,hi=>by
  obtain⟨h1,h2,h3⟩:=oG hp hb i (by lia);have e:ps[i]?=some ps[i]:=getElem?_eq_getElem (by lia);have mem:ps[i]∈ps:=getElem_mem _;rw[mM e];obtain⟨l1,⟨j,l2⟩,⟨k,l3,l4⟩,l5⟩:=nY h1 (hp _ mem);refine⟨l1,?_,fun p hpp=>?_⟩
  ·have:=h2.mul (hb _ mem).b;refine B.mono (n:=1+n*i+n) (this.le ?_) (by rw[Nat.mul_succ];lia);have h0:1<=ps[i].2:=hp _ mem;have:0<=dY (ps.take i)*ps[i].2:=Int.mul_nonneg (by lia) (by lia);lia
  ·rw[take_add_one,e] at hpp;rcases mem_append.mp hpp with z | z
   ·obtain⟨q,hq⟩:=h3 p z;exact⟨q*j,by rw[l2,hq];grind⟩
   ·have:p=ps[i]:=by simpa using z
    rw[this];exact⟨k,l3⟩
theorem rE {ps:List Q2}(hp:Pos ps):1<=dY ps:=by
 have:∀(l:List Q2) (L:Int),1<=L->Pos l->1<=l.foldl (fun L p=>oF L p.2) L:=fun l=>by
  induction l with
  |nil=>intro L h _;exact h
  |cons p l ih=>intro L h q;exact ih _ (nY h (q p (by simp))).1 fun x hx=>q x (mem_cons_of_mem _ hx)
 exact this ps 1 (by lia) hp
def zU (L:Int)(p:Q2):Int:=p.1*Int.fdiv L p.2
def iw (ps:List Q2):List Int:=ps.map (zU (dY ps))
theorem Lh {L k:Int}{p:Q2}(h:1<=p.2)(e:L=k*p.2):((zU L p:Int):Rat)=val p*(L:Rat):=by
 have e1:Int.fdiv L p.2=k:=fY (by lia) (by rw[e,Int.mul_comm]);have n:=dL (show p.2≠0 by lia);unfold zU val;rw[e1,e,Rat.intCast_mul,Rat.intCast_mul];grind
theorem Ar {ps:List Q2}(hp:Pos ps):∀p∈ps,∃k,dY ps=k*p.2:=fun p hpp=>by
 have:∀(l:List Q2) (L:Int),1<=L->Pos l->(∃j,l.foldl (fun L p=>oF L p.2) L=L*j)/\∀p∈l,∃k,l.foldl (fun L p=>oF L p.2) L=k*p.2:=fun l=>by
  induction l with
  |nil=>intro L h _;exact⟨⟨1,by simp⟩,fun p h=>by simp at h⟩
  |cons q l ih=>
   intro L h hq;obtain⟨l1,⟨j,l2⟩,⟨k,l3,l4⟩,l5⟩:=nY h (hq q (by simp));obtain⟨⟨j2,i1⟩,i2⟩:=ih (oF L q.2) l1 fun x hx=>hq x (mem_cons_of_mem _ hx);refine⟨⟨j*j2,by rw[foldl_cons,i1,l2];grind⟩,fun p hp=>?_⟩;rcases mem_cons.mp hp with rfl | hp
   ·exact⟨k*j2,by rw[foldl_cons,i1,l3];grind⟩
   ·exact i2 p hp
 exact(this ps 1 (by lia) hp).2 p hpp
def fK (X:List (List Q2)):Prop:=∀row∈X,Pos row
theorem Ng {row:List Q2}(h:Pos row)(j:Nat):1<=(row.getD j z0).2:=by
 rw[getD_eq_getElem?_getD]
 cases e:row[j]? with
 |none=>exact Int.le_refl 1
 |some v=>exact h v (mem_of_getElem? e)
end Mq
open Mq (Ar Dn Vk aS dL dM dY eK eX fH fK iw jH kU lH oB oG oN rB rE sM xQ zU)
namespace L2
open PySem PySem.Spec PyProof.Rows
abbrev Ou (scope:Scope)(cl:List (Str × Addr))(x0:Str)(C:Addr)(env:Env):Env:={ compEnvC scope cl C env with cells:=(x0,C+1) :: cl }
abbrev qf8 (X:Cx)(scope:Scope)(cl:List (Str × Addr))(x0:Str)(Nc:List Str)(C:Addr)(s3:Shared)(H3:Hp)(fp:List Addr)(pins:List (Addr × Obj)):Cx:=
 { X with N:=Nc,s₀:=s3,H₀:=H3,env:=Ou scope cl x0 C X.env,outer:=X.stack,ex:=fp,fn:=fun x=>x == x0,pn:=X.pn++pins,xe:=fun _ _=>False }
def Ite (K : Frag)(a : Addr) : It :=
  ⟨fun i H => ∃ xs x, SqL K H a xs /\ xs[i]? = some x,
   fun i H v H' => ∃ T x, v = .ref T /\ H T = none /\ H' = upd H T (.tup [.int (i : Int), x]) /\ ∀ xs, SqL K H a xs -> xs[i]? = some x,
   fun i H => ∃ xs, SqL K H a xs /\ xs.length <= i⟩
def Yc (e it l:Addr)(i:Nat)(h:Heap):Prop:=e≠it/\(∃old,IsEnum h e it (i:Int) old)/\h.IsListIter it l i
theorem Jp {P:Program}{w:World}{K:Frag}{elts:List Expr}{kk:Nat}{tpos:Pos}(e it l:Addr) :
  Jj P w K (.Tuple elts kk tpos) (Ite K l) [e,it] e (Yc e it l) where
 mem:=by simp
 obj:=fun i h st b hb=>by
  obtain⟨ne,⟨old,he⟩,⟨o1,e1,c1,d1⟩⟩:=st;simp only[mem_cons,not_mem_nil,or_false] at hb;rcases hb with rfl | rfl
  ·exact⟨_,he,fun v q=>by cases q⟩
  ·exact⟨o1,e1,fun v q=>by rw[d1] at q;cases q⟩
 keep:=fun i h h' st k=>by
  obtain⟨ne,⟨old,he⟩,⟨o1,e1,c1,d1⟩⟩:=st;exact⟨ne,⟨old,k _ (by simp) _ he⟩,⟨o1,k _ (by simp) _ e1,c1,d1⟩⟩
 item:=by
  intro X hP hw hK hc i pins s σ H E I hf st hg;subst hP hw hK;obtain⟨ne,⟨old,he⟩,t1⟩:=st;obtain⟨xs,x,hx,ex⟩:=hg;obtain⟨its1,rv1,p1,z1⟩:=I.list hx;obtain⟨u1,hu1,ru1⟩:=rv1.get ex;refine wpAny_pyNext_enum_item he t1 p1.isList (x:=u1) (by simpa using hu1) ne fun h' g1 g2 g3 g4 kk'=>?_;have hn:H s.heap.objs.size=none:=I.hok.fresh (Nat.le_refl _);have lt:∀b∈[e,it],b < s.heap.objs.size:=fun b hb=>by
   simp only[mem_cons,not_mem_nil,or_false] at hb;obtain⟨o1,e1,_⟩:=t1;rcases hb with rfl | rfl
   ·exact Heap.lt_size he
   ·exact Heap.lt_size e1
  have I1:Inv X pins σ (upd H s.heap.objs.size (.tup [.int (i:Int),x])) { s with heap:=s.heap.push { cls:=.type "tuple",data:=.seq #[.int i s.toks,u1] },toks:=s.toks+1 }:=
   I.laid (t':=s.toks+1) (fun b o e=>Heap.get?_push_of_some _ e) (Nat.le_refl _) (show dX X.prog X.w _ _ _ (.tup [.int (i:Int),x]) from ⟨zl9 2,[.int i s.toks,u1],.cons ⟨_,rfl⟩ (.cons ru1 .nil),IsTup.new _ _⟩)
  have hf1:∀b∈[e,it],mX X pins (upd H s.heap.objs.size (.tup [.int (i:Int),x])) b:=fun b hb=>⟨by rw[aW (Nat.ne_of_lt (lt b hb))];exact(hf b hb).1,(hf b hb).2⟩
  have k1:∀b o,b∉[e,it]->(s.heap.push { cls:=.type "tuple",data:=.seq #[.int i s.toks,u1] }).get? b=some o->h'.get? b=some o:=fun b o nb e=>by
   simp only[mem_cons,not_mem_nil,or_false,not_or] at nb
   by_cases hb:b=s.heap.objs.size
   ·subst hb;rw[Heap.get?_push_size _ rfl] at e
    cases e
    exact g3
   ·have e0:s.heap.get? b=some o:=by rw[Heap.get?_push_ne _ _ _ hb] at e;exact e
    exact kk' b o nb.1 nb.2 e0
  have I2:Inv X pins σ (upd H s.heap.objs.size (.tup [.int (i:Int),x])) { s with heap:=h',toks:=s.toks+1 }:=Inv.turnedL (s:={ s with heap:=s.heap.push { cls:=.type "tuple",data:=.seq #[.int i s.toks,u1] },toks:=s.toks+1 }) (t':=s.toks+1) I1 k1 hf1;refine⟨_,rfl,wpAny_letOwnedTupleGo_enum (s:={ s with heap:=h',toks:=s.toks+1 }) g1 fun h2 q1 q2=>?_⟩;have kz:∀b o,b≠e->h'.get? b=some o->h2.get? b=some o:=fun b o nb e=>(q2.2 b nb).trans e;have I3:Inv X pins σ (upd H s.heap.objs.size (.tup [.int (i:Int),x])) { s with heap:=h2,toks:=s.toks+1 }:=Inv.turnedL (s:={ s with heap:=h',toks:=s.toks+1 }) (t':=s.toks+1) (fp:=[e]) I2 (fun b o nb e=>kz b o (by simpa using nb) e) fun b hb=>hf1 b (by simp at hb;simp[hb]);obtain⟨o3,e3,c3,d3⟩:=g2;refine⟨.ref s.heap.objs.size,_,I3,rfl,⟨_,x,rfl,hn,rfl,fun xs' h1=>?_⟩,⟨ne,⟨_,q1⟩,⟨o3,kz _ _ ne.symm e3,c3,d3⟩⟩,fun b hb=>(hf1 b hb).1⟩;rw[I.list_inj h1 hx];exact ex
 done:=by
  intro X hP hw hK hc i pins s σ H E I hf st hg;subst hP hw hK;obtain⟨ne,⟨old,he⟩,t1⟩:=st;obtain⟨xs,hx,hor⟩:=hg;obtain⟨its1,rv1,p1,z1⟩:=I.list hx;have l1':=rv1.length;refine wpAny_pyNext_enum_end (I.ok.hd hc) he t1 p1.isList (by simp;lia) fun h' kk'=>⟨rfl,?_⟩
  refine I.turnedL (t':=s.toks) (fun b o nb e=>?_) hf;simp only[mem_cons,not_mem_nil,or_false,not_or] at nb;exact kk' b o nb.2 e
 self:=fun A i s Q E st h=>by
  obtain⟨ne,⟨old,he⟩,t1⟩:=st;exact wpAny_pyIter_enum he h
section
variable {X:Cx}
def qf4 (K:Frag)(ta:TA):TI:=fun σ H R=>ta σ H fun vs H1=>∃a,vs=[.ref a]/\(∃xs,SqL K H1 a xs)/\R (Ite K a) H1
theorem yL {e1:Expr}{ta:TA}{p pos:Pos}{elts:List Expr}{kk:Nat}{tpos:Pos}(hg:Gl X "enumerate")(hm:X.mg "enumerate"=none)(hv:bootBuiltins "enumerate"=some (.type "enumerate"))(ha:PA X [e1] ta)(hs:starEach [e1] X.env=(false,eval e1 X.env) :: starEach [] X.env:=by rfl)(hpl:(backTo pos (starEach [] X.env)).any (·.1)=false:=by rfl):PI X (.Tuple elts kk tpos) (.Call (.Name "enumerate" p) [e1] [] pos) (qf4 X.K ta):=by
 intro pins s σ H R I h;refine Call_ (kD I hg hm hv (PyProof.Rows.callWith_type1 (thn (ha pos pins s σ H _ I h) fun us s1 ⟨vs,H1,I1,r1,q1⟩=>?_) hs hpl));obtain⟨a,rfl,⟨xs,hx⟩,q⟩:=q1;obtain⟨u,rfl,ra⟩:=An r1
 cases (show u=Value.ref a from ra)
 obtain⟨its1,rv1,p1,z1⟩:=I1.list hx;have la:a < s1.heap.objs.size:=by obtain⟨o,e,_⟩:=p1.isList;exact Heap.lt_size e
 refine call_enumerate_list p1.isList fun h' g1 g2 g3 kk'=>?_;refine wpAny_pyIter_enum g1 ?_;refine⟨s1.heap.objs.size+1,[s1.heap.objs.size+1,s1.heap.objs.size],_,Ite X.K a,H1,rfl,I1.kept (t':=s1.toks) kk',Jp _ _ a,⟨?_,⟨_,g1⟩,g2⟩,fun c hc=>?_,q⟩
 ·exact Nat.succ_ne_self _
 ·have hle:s1.heap.objs.size<=c:=by
   simp only[mem_cons,not_mem_nil,or_false] at hc;rcases hc with rfl | rfl<;>first | exact Nat.le_add_right _ _ | exact Nat.le_refl _
  exact I1.fpOk hle (I1.hok.fresh hle)
theorem Px {K:Frag}{a:Addr}{xs:List V}{g:TG}{tb:TS}{D:lF}{σ:St}{H:Hp}(Pv:Nat->St->Hp->Prop)(h0:Pv 0 σ H)(hl:∀i σ H,i<=xs.length->Pv i σ H->SqL K H a xs)(hs:∀i x σ H T,xs[i]?=some x->Pv i σ H->H T=none->g (.ref T) σ (upd H T (.tup [.int (i:Int),x])) fun σ2 H2=>tb { D with nx:=Pv (i+1),ct:=Pv (i+1),bk:=D.nx } σ2 H2)(hd:∀σ H,Pv xs.length σ H->D.nx σ H) :
  ∃W:Nat->Nat->St->Hp->Prop,(∃m,W 0 m σ H)/\∀i m σ H,W i m σ H->
   ((Ite K a).stop i H/\D.nx σ H)\/((Ite K a).go i H/\∃N:St->Hp->Prop,(∀σ' H',N σ' H'->∃m',m' < m/\W (i+1) m' σ' H')/\∀x H',(Ite K a).yld i H x H'->g x σ H' fun σ2 H2=>tb { D with nx:=N,ct:=N,bk:=D.nx } σ2 H2):=by
 refine⟨fun i m σ H=>m=xs.length - i/\i<=xs.length/\Pv i σ H,⟨_,rfl,Nat.zero_le _,h0⟩,?_⟩;rintro i m σ H ⟨rfl,hi,p⟩;have qx:=hl i σ H hi p
 by_cases hlt:i < xs.length
 ·refine .inr ⟨⟨xs,xs[i],qx,by simp[hlt]⟩,Pv (i+1),fun σ' H' p'=>⟨xs.length - (i+1),by lia,rfl,hlt,p'⟩,fun v H' z=>?_⟩;obtain⟨T,x,rfl,hT,rfl,hh⟩:=z;exact hs i x σ H T (hh xs qx) p hT
 ·have e:i=xs.length:=by lia
  subst e;exact .inl ⟨⟨xs,qx,Nat.le_refl _⟩,hd σ H p⟩
theorem wO {K:Frag}{a:Addr}{xs:List V}{nl:Nat}{fr:List Nat}{g:TG}{tt:TT}{te:TE}{σ:St}{D:Addr}{H1:Hp}{Q:VK}(Pv:Nat->List V->Hp->Prop)(h0:Pv 0 [] (upd H1 D (.lst [])))(hl:∀i zs H,Pv i zs H->H D=some (.lst zs))(hx:∀i zs H,i<=xs.length->Pv i zs H->SqL K H a xs)(hs:∀i zs x H T,xs[i]?=some x->Pv i zs H->H T=none->∀(C:Nat->List V->Hp->Prop),(∀zs H,Pv (i+1) zs H->C (i+1) zs H)->Gi nl fr g tt te σ D C i zs (.ref T) (upd H T (.tup [.int (i:Int),x])))(hd:∀zs H,Pv xs.length zs H->Q (.ref D) H) :
  Bi (Ite K a) nl fr g tt te σ D H1 Q:=by
 refine⟨fun i m zs H=>m=xs.length - i/\i<=xs.length/\Pv i zs H,⟨_,rfl,Nat.zero_le _,h0⟩,?_⟩;rintro i m zs H ⟨rfl,hi,p⟩;refine⟨hl i zs H p,?_⟩;have qx:=hx i zs H hi p
 by_cases hlt:i < xs.length
 ·refine .inr ⟨⟨xs,xs[i],qx,by simp[hlt]⟩,fun v H' z=>?_⟩;obtain⟨T,x,rfl,hT,rfl,hh⟩:=z;exact hs i zs x H T (hh xs qx) p hT (fun j zs Hz=>∃m',m' < xs.length - i/\m'=xs.length - j/\j<=xs.length/\Pv j zs Hz) fun zs Hz z=>⟨xs.length - (i+1),by lia,rfl,hlt,z⟩
 ·have e:i=xs.length:=by lia
  subst e;exact .inl ⟨⟨xs,qx,Nat.le_refl _⟩,hd zs H p⟩
end
end L2
namespace Shp
open PySem L2
theorem Se {t b:Int}(h:0 < b):dvr t b=gc t b:=by unfold dvr;rw[if_neg (by lia)]
end Shp
namespace Mq
def skip (j k:Nat):Nat:=if k < j then k else k+1
def sgn (n:Nat):Rat:=if n % 2=0 then 1 else -1
theorem uB (n:Nat):sgn (n+1)=- sgn n:=by
 unfold sgn;rcases Nat.mod_two_eq_zero_or_one n with h | h
 ·rw[if_neg (by lia),if_pos h]
 ·rw[if_pos (by lia),if_neg (by lia)];grind
abbrev Mat:=Nat->Nat->Rat
def det:Nat->Mat->Rat
 |0,_=>1
 |n+1,M=>rs (n+1) fun j=>sgn (n+j)*M n j*det n fun i k=>M i (skip j k)
theorem fV (n:Nat)(M:Mat):det (n+1) M=rs (n+1) fun j=>sgn (n+j)*M n j*det n fun i k=>M i (skip j k):=rfl
theorem Si {j k n:Nat}(hk:k < n):skip j k < n+1:=by unfold skip;split<;>lia
theorem cL:∀{n:Nat} {M N:Mat},(∀i j,i < n->j < n->M i j=N i j)->det n M=det n N
 |0,_,_,_=>rfl
 |n+1,M,N,h=>by
  rw[fV,fV];exact aS fun j hj=>by rw[h n j (by lia) hj,cL (N:=fun i k=>N i (skip j k)) fun i k hi hk=>h i _ (by lia) (Si hk)]
theorem wZ {j k l:Nat}(h:j<=k):skip (k+1) (skip j l)=skip j (skip k l):=by
 unfold skip
 by_cases h1:l < j
 ·rw[if_pos h1,if_pos (show l < k by lia),if_pos (show l < k+1 by lia),if_pos h1]
 ·rw[if_neg h1]
  by_cases h2:l < k
  ·rw[if_pos h2,if_pos (show l+1 < k+1 by lia),if_neg h1]
  ·rw[if_neg h2,if_neg (show ¬l+1 < k+1 by lia),if_neg (show ¬l+1 < j by lia)]
theorem Tn (n m:Nat)(F:Nat->Nat->Rat):(rs n fun i=>rs m fun j=>F i j)=rs m fun j=>rs n fun i=>F i j:=by
 induction n with
 |zero=>simp only[rs];rw[dB]
 |succ n ih=>simp only[rs];rw[ih,<- eK]
theorem rW (n:Nat)(F:Nat->Rat):rs (n+1) F=F 0+rs n fun i=>F (i+1):=by
 induction n with
 |zero=>simp only[rs];grind
 |succ n ih=>rw[show rs (n+1+1) F=rs (n+1) F+F (n+1) from rfl,ih];simp only[rs];grind
theorem wK (N:Nat)(X:Nat->Nat->Rat):(rs (N+1) fun j=>rs N fun k=>X j k)=(rs N fun k=>rs N fun j=>if k<=j then X (j+1) k else 0)+rs N fun j=>rs N fun k=>if j<=k then X j k else 0:=by
 have h1:(rs (N+1) fun j=>rs N fun k=>X j k)=(rs (N+1) fun j=>rs N fun k=>if k < j then X j k else 0)+rs (N+1) fun j=>rs N fun k=>if k < j then 0 else X j k:=by
  rw[<- eK];refine aS fun j _=>?_;rw[<- eK];exact aS fun k _=>by split<;>grind
 have h2:(rs (N+1) fun j=>rs N fun k=>if k < j then X j k else 0)=rs N fun k=>rs N fun j=>if k<=j then X (j+1) k else 0:=by
  rw[Tn];refine aS fun k _=>?_;rw[rW,if_neg (by lia)];have:(rs N fun i=>if k < i+1 then X (i+1) k else 0)=rs N fun j=>if k<=j then X (j+1) k else 0:=aS fun i _=>by
   by_cases c:k<=i
   ·rw[if_pos (by lia),if_pos c]
   ·rw[if_neg (by lia),if_neg c]
  rw[this];grind
 have h3:(rs (N+1) fun j=>rs N fun k=>if k < j then 0 else X j k)=rs N fun j=>rs N fun k=>if j<=k then X j k else 0:=by
  show (rs N fun j=>rs N fun k=>if k < j then 0 else X j k)+(rs N fun k=>if k < N then 0 else X N k)=_;have:(rs N fun k=>if k < N then 0 else X N k)=rs N fun _=>0:=aS fun k hk=>by rw[if_pos hk]
  rw[this,dB];have e2:(rs N fun j=>rs N fun k=>if k < j then 0 else X j k)=rs N fun j=>rs N fun k=>if j<=k then X j k else 0:=aS fun j _=>aS fun k _=>by
   by_cases c:j<=k
   ·rw[if_neg (by lia),if_pos c]
   ·rw[if_pos (by lia),if_neg c]
  rw[e2];grind
 rw[h1,h2,h3]
theorem Fb (N:Nat)(X Y:Nat->Nat->Rat)(h:∀j k,j<=k->Y (k+1) j=- X j k)(h':∀j k,j<=k->X (k+1) j=- Y j k):(rs (N+1) fun j=>rs N fun k=>Y j k)=- rs (N+1) fun j=>rs N fun k=>X j k:=by
 rw[wK,wK];have e1:(rs N fun k=>rs N fun j=>if k<=j then Y (j+1) k else 0)=- rs N fun j=>rs N fun k=>if j<=k then X j k else 0:=by
  rw[<- oB];refine aS fun k _=>?_;rw[<- oB];exact aS fun j _=>by
   by_cases c:k<=j
   ·rw[if_pos c,if_pos c,h k j c]
   ·rw[if_neg c,if_neg c];grind
 have e2:(rs N fun k=>rs N fun j=>if k<=j then X (j+1) k else 0)=- rs N fun j=>rs N fun k=>if j<=k then Y j k else 0:=by
  rw[<- oB];refine aS fun k _=>?_;rw[<- oB];exact aS fun j _=>by
   by_cases c:k<=j
   ·rw[if_pos c,if_pos c,h' k j c]
   ·rw[if_neg c,if_neg c];grind
 rw[e1,e2];grind
def cI (a:Nat)(M:Mat):Mat:=fun i=>if i=a then M (a+1) else if i=a+1 then M a else M i
theorem Fx (n:Nat)(M:Mat):det (n+2) M=rs (n+2) fun j=>rs (n+1) fun k=>(sgn (n+1+j)*M (n+1) j)*(sgn (n+k)*M n (skip j k)*det n fun i l=>M i (skip j (skip k l))):=by
 rw[fV];exact aS fun j _=>by rw[fV,<- dM]
theorem pH (a b:Nat):sgn (a+1+b)=- sgn (a+b):=by rw[show a+1+b=a+b+1 by lia,uB]
theorem vB (n:Nat)(M:Mat):det (n+2) (cI n M)=- det (n+2) M:=by
 rw[Fx,Fx];refine Fb (n+1) _ _ (fun j k hjk=>?_) (fun j k hjk=>?_)
 ·show (sgn (n+1+(k+1))*cI n M (n+1) (k+1))*(sgn (n+j)*cI n M n (skip (k+1) j)*det n fun i l=>cI n M i (skip (k+1) (skip j l)))=- ((sgn (n+1+j)*M (n+1) j)*(sgn (n+k)*M n (skip j k)*det n fun i l=>M i (skip j (skip k l))));have a1:cI n M (n+1)=M n:=by unfold cI;rw[if_neg (by lia),if_pos rfl]
  have a2:cI n M n=M (n+1):=by unfold cI;rw[if_pos rfl]
  have a3:(det n fun i l=>cI n M i (skip (k+1) (skip j l)))=det n fun i l=>M i (skip j (skip k l)):=cL fun i l hi _=>by
   show cI n M i (skip (k+1) (skip j l))=M i (skip j (skip k l));rw[wZ hjk];unfold cI;rw[if_neg (by lia),if_neg (by lia)]
  have a4:skip (k+1) j=j:=by unfold skip;rw[if_pos (by lia)]
  have a5:skip j k=k+1:=by unfold skip;rw[if_neg (by lia)]
  rw[a1,a2,a3,a4,a5,pH,pH,show n+(k+1)=n+k+1 by lia,uB];generalize (det n fun i l=>M i (skip j (skip k l)))=dd;generalize sgn (n+k)=s1;generalize sgn (n+j)=s2;grind
 ·show (sgn (n+1+(k+1))*M (n+1) (k+1))*(sgn (n+j)*M n (skip (k+1) j)*det n fun i l=>M i (skip (k+1) (skip j l)))=- ((sgn (n+1+j)*cI n M (n+1) j)*(sgn (n+k)*cI n M n (skip j k)*det n fun i l=>cI n M i (skip j (skip k l))));have a1:cI n M (n+1)=M n:=by unfold cI;rw[if_neg (by lia),if_pos rfl]
  have a2:cI n M n=M (n+1):=by unfold cI;rw[if_pos rfl]
  have a3:(det n fun i l=>M i (skip (k+1) (skip j l)))=det n fun i l=>cI n M i (skip j (skip k l)):=cL fun i l hi _=>by
   show M i (skip (k+1) (skip j l))=cI n M i (skip j (skip k l));rw[wZ hjk];unfold cI;rw[if_neg (by lia),if_neg (by lia)]
  have a4:skip (k+1) j=j:=by unfold skip;rw[if_pos (by lia)]
  have a5:skip j k=k+1:=by unfold skip;rw[if_neg (by lia)]
  rw[a1,a2,a3,a4,a5,pH,pH,show n+(k+1)=n+k+1 by lia,uB];generalize (det n fun i l=>cI n M i (skip j (skip k l)))=dd;generalize sgn (n+k)=s1;generalize sgn (n+j)=s2;grind
theorem mD:∀(n a:Nat) (M:Mat),a+1 < n->det n (cI a M)=- det n M
 |0,_,_,h=>absurd h (by lia)
 |n+1,a,M,h=>by
  by_cases e:a+1=n
  ·subst e;exact vB a M
  ·rw[fV,fV,<- oB];refine aS fun j hj=>?_;have e1:cI a M n j=M n j:=by unfold cI;rw[if_neg (by lia),if_neg (by lia)]
   have e2:(det n fun i k=>cI a M i (skip j k))=- det n fun i k=>M i (skip j k):=by
    rw[<- mD n a (fun i k=>M i (skip j k)) (by lia)];exact cL fun i k _ _=>by
     show cI a M i (skip j k)=cI a (fun i k=>M i (skip j k)) i k;unfold cI;split
     ·rfl
     ·split<;>rfl
   rw[e1,e2];grind
theorem vH:∀(t n:Nat) (M:Mat) (i:Nat),i+t+1=n->(∀j,M i j=M n j)->det (n+1) M=0
 |0,n,M,i,h,e=>by
  have hn:n=i+1:=by lia
  subst hn;have s:=vB i M;have c:det (i+2) (cI i M)=det (i+2) M:=cL fun k j _ _=>by
   unfold cI
   by_cases k1:k=i
   ·rw[if_pos k1,k1];exact(e j).symm
   ·rw[if_neg k1]
    by_cases k2:k=i+1
    ·rw[if_pos k2,k2];exact e j
    ·rw[if_neg k2]
  rw[c] at s;grind
 |t+1,n,M,i,h,e=>by
  have s:=mD (n+1) i M (by lia);have z:=vH t n (cI i M) (i+1) (by lia) fun j=>by
   have a1:cI i M (i+1)=M i:=by unfold cI;rw[if_neg (by lia),if_pos rfl]
   have a2:cI i M n=M n:=by unfold cI;rw[if_neg (by lia),if_neg (by lia)]
   rw[a1,a2];exact e j
  rw[z] at s;grind
def yT (n:Nat)(S:Mat)(x:Nat->Rat):Mat:=fun i=>if i=n then x else S i
def F (n:Nat)(S:Mat)(c:Nat->Nat)(x:Nat->Rat):Rat:=det (n+1) (yT n (fun i j=>S i (c j)) fun j=>x (c j))
theorem Iq (n:Nat)(S:Mat)(c:Nat->Nat)(x:Nat->Rat):F n S c x=rs (n+1) fun j=>sgn (n+j)*x (c j)*det n fun i k=>S i (c (skip j k)):=by
 unfold F;rw[fV];refine aS fun j _=>?_;have e1:yT n (fun i j=>S i (c j)) (fun j=>x (c j)) n j=x (c j):=by unfold yT;rw[if_pos rfl]
 rw[e1,cL fun i k hi _=>show yT n (fun i j=>S i (c j)) (fun j=>x (c j)) i (skip j k)=S i (c (skip j k)) by unfold yT;rw[if_neg (by lia)]]
theorem qf2 (n:Nat)(S:Mat)(c:Nat->Nat)(x y:Nat->Rat)(l:Rat):F n S c (fun j=>x j+l*y j)=F n S c x+l*F n S c y:=by
 rw[Iq,Iq,Iq,<- dM,<- eK];exact aS fun j _=>by grind
theorem Fy (n:Nat)(S:Mat)(c:Nat->Nat){i:Nat}(h:i < n):F n S c (S i)=0:=by
 unfold F;refine vH (n - i - 1) n _ i (by lia) fun j=>?_;unfold yT;rw[if_neg (by lia),if_pos rfl]
theorem yN (n:Nat)(S:Mat)(c:Nat->Nat)(x:Nat->Rat)(h:∀j,j < n->x (c j)=0):F n S c x=x (c n)*det n fun i j=>S i (c j):=by
 rw[Iq];show (rs n fun j=>sgn (n+j)*x (c j)*det n fun i k=>S i (c (skip j k)))+sgn (n+n)*x (c n)*(det n fun i k=>S i (c (skip n k)))=_;have z:(rs n fun j=>sgn (n+j)*x (c j)*det n fun i k=>S i (c (skip j k)))=rs n fun _=>0:=aS fun j hj=>by rw[h j hj];grind
 have s:sgn (n+n)=1:=by unfold sgn;rw[if_pos (by lia)]
 have d:(det n fun i k=>S i (c (skip n k)))=det n fun i j=>S i (c j):=cL fun i k _ hk=>by show S i (c (skip n k))=_;unfold skip;rw[if_pos hk]
 rw[z,dB,s,d];grind
theorem Bv {n:Nat}{F:Nat->Rat}(h:∀i,i < n->∃z:Int,F i=(z:Rat)):∃z:Int,rs n F=(z:Rat):=by
 induction n with
 |zero=>exact⟨0,by simp[rs]⟩
 |succ n ih=>
  obtain⟨a,ha⟩:=ih fun i hi=>h i (by lia);obtain⟨b,hb⟩:=h n (by lia);exact⟨a+b,by simp only[rs];rw[ha,hb,Rat.intCast_add]⟩
theorem Ig (n:Nat):∃z:Int,sgn n=(z:Rat):=by
 unfold sgn;split
 ·exact⟨1,by simp⟩
 ·exact⟨-1,by rw[Rat.intCast_neg];simp⟩
theorem pX {a b:Rat}(h:∃z:Int,a=(z:Rat))(k:∃z:Int,b=(z:Rat)):∃z:Int,a*b=(z:Rat):=by
 obtain⟨x,rfl⟩:=h;obtain⟨y,rfl⟩:=k;exact⟨x*y,by rw[Rat.intCast_mul]⟩
theorem vO:∀{n:Nat} {M:Mat},(∀i j,∃z:Int,M i j=(z:Rat))->∃z:Int,det n M=(z:Rat)
 |0,_,_=>⟨1,by simp[det]⟩
 |n+1,M,h=>by
  rw[fV];exact Bv fun j _=>pX (pX (Ig _) (h n j)) (vO fun i k=>h i _)
theorem Sr {n:Nat}{S:Mat}{c:Nat->Nat}{x:Nat->Rat}(h:∀i j,∃z:Int,S i j=(z:Rat))(hx:∀j,∃z:Int,x j=(z:Rat)):∃z:Int,F n S c x=(z:Rat):=by
 unfold F;refine vO fun i j=>?_;unfold yT;split
 ·exact hx _
 ·exact h i _
def Lin (Φ:(Nat->Rat)->Rat):Prop:=∀x y l,Φ (fun j=>x j+l*y j)=Φ x+l*Φ y
theorem Lin.zero {Φ:(Nat->Rat)->Rat}(h:Lin Φ):Φ (fun _=>0)=0:=by
 have:=h (fun _=>0) (fun _=>0) 1;have e:(fun j:Nat=>(fun _=>(0:Rat)) j+1*(fun _=>(0:Rat)) j)=fun _=>0:=by funext j;show (0:Rat)+1*0=0;grind
 rw[e] at this;grind
theorem Lin.mul {Φ:(Nat->Rat)->Rat}(h:Lin Φ)(l:Rat)(y:Nat->Rat):Φ (fun j=>l*y j)=l*Φ y:=by
 have:=h (fun _=>0) y l;have e:(fun j:Nat=>(fun _=>(0:Rat)) j+l*y j)=fun j=>l*y j:=by funext j;show (0:Rat)+l*y j=_;grind
 rw[e,h.zero] at this;grind
theorem Lin.sum {Φ:(Nat->Rat)->Rat}(h:Lin Φ)(a:Nat->Rat)(Y:Nat->Nat->Rat):∀n,Φ (fun j=>rs n fun k=>a k*Y k j)=rs n fun k=>a k*Φ (Y k)
 |0=>h.zero
 |n+1=>by
  have:=h (fun j=>rs n fun k=>a k*Y k j) (Y n) (a n);simp only[rs];rw[this,Lin.sum h a Y n]
theorem Gz (n:Nat)(S:Mat)(c:Nat->Nat):Lin (F n S c):=fun x y l=>qf2 n S c x y l
def Wh (x:Rat):Prop:=∃z:Int,x=(z:Rat)
theorem Wh.mul {a b:Rat}(h:Wh a)(k:Wh b):Wh (a*b):=pX h k
theorem Wh.neg {a:Rat}(h:Wh a):Wh (-a):=by obtain⟨z,rfl⟩:=h;exact⟨-z,by rw[Rat.intCast_neg]⟩
theorem Wh.sub {a b:Rat}(h:Wh a)(k:Wh b):Wh (a - b):=by obtain⟨x,rfl⟩:=h;obtain⟨y,rfl⟩:=k;exact⟨x - y,by rw[Rat.intCast_sub]⟩
theorem Wh.one:Wh 1:=⟨1,by simp⟩
theorem Wh.nil:Wh 0:=⟨0,by simp⟩
structure Bar (m:Nat) (A E:Mat) (r col:Nat) (d:Rat) (c:Nat->Nat):Prop where
 dne:d≠0
 rm:r<=m
 rc:r<=col
 clt:∀j,j < r->c j < col
 cinj:∀i j,i < r->j < r->c i=c j->i=j
 wA:∀i j,Wh (A i j)
 wE:∀i j,i < m->Wh (E i j)
 i2:∀k j,k < r->j < r->E k (c j)=if j=k then d else 0
 i3:∀i x,r<=i->i < m->x < col->E i x=0
 i4:∀i x,i < m->d*A i x=(rs r fun k=>A i (c k)*E k x)+if i < r then 0 else E i x
 i5:det r (fun i j=>A i (c j))=d
 i6:∀Φ,Lin Φ->(∀s,s < r->Φ (A s)=0)->∀k,k < r->Φ (E k)=0
 full:r=col->∀j,j < r->c j=j
theorem Bar.start {m:Nat}{A:Mat}(wA:∀i j,Wh (A i j)):Bar m A A 0 0 1 id where
 dne:=by grind
 rm:=by lia
 rc:=by lia
 clt:=fun j h=>absurd h (by lia)
 cinj:=fun i j h=>absurd h (by lia)
 wA:=wA
 wE:=fun i j _=>wA i j
 i2:=fun k j h=>absurd h (by lia)
 i3:=fun i x _ _ h=>absurd h (by lia)
 i4:=fun i x _=>by simp only[rs];rw[if_neg (by lia)];grind
 i5:=rfl
 i6:=fun Φ _ _ k h=>absurd h (by lia)
 full:=fun _ j h=>absurd h (by lia)
section
variable {m:Nat} {A E:Mat} {r col:Nat} {d:Rat} {c:Nat->Nat}
theorem Bar.skip (h:Bar m A E r col d c)(hz:∀i,r<=i->i < m->E i col=0):Bar m A E r (col+1) d c:=
 { h with
  rc:=by have:=h.rc;lia
  clt:=fun j hj=>by have:=h.clt j hj;lia
  i3:=fun i x hi hm hx=>by
   by_cases e:x=col
   ·rw[e];exact hz i hi hm
   ·exact h.i3 i x hi hm (by lia)
  full:=fun e=>by have:=h.rc;lia }
def sw (p r i:Nat):Nat:=if i=r then p else if i=p then r else i
theorem vF {p r i:Nat}(hp:r<=p)(hi:i < r):sw p r i=i:=by unfold sw;rw[if_neg (by lia),if_neg (by lia)]
theorem Uy {p r i:Nat}(hp:r<=p)(hi:r<=i):r<=sw p r i:=by unfold sw;split;exact hp;split<;>lia
theorem zD {p r i m:Nat}(hp:p < m)(hr:r < m)(hi:i < m):sw p r i < m:=by unfold sw;split;exact hp;split<;>lia
theorem Lz (p r i:Nat):sw p r (sw p r i)=i:=by
 unfold sw
 by_cases h1:i=r
 ·rw[if_pos h1]
  by_cases h2:p=r
  ·rw[if_pos h2];lia
  ·rw[if_neg h2,if_pos rfl];exact h1.symm
 ·rw[if_neg h1]
  by_cases h2:i=p
  ·rw[if_pos h2,if_pos rfl];exact h2.symm
  ·rw[if_neg h2,if_neg h1,if_neg h2]
theorem Bar.swap (h:Bar m A E r col d c){p:Nat}(hp:r<=p)(hpm:p < m):Bar m (fun i=>A (sw p r i)) (fun i=>E (sw p r i)) r col d c:=
 { h with
  wA:=fun i j=>h.wA _ j
  wE:=fun i j hi=>h.wE _ j (zD hpm (by lia) hi)
  i2:=fun k j hk hj=>by
   show E (sw p r k) (c j)=_;rw[vF hp hk];exact h.i2 k j hk hj
  i3:=fun i x hi hm hx=>h.i3 _ x (Uy hp hi) (zD hpm (by lia) hm) hx
  i4:=fun i x hm=>by
   have e:(rs r fun k=>A (sw p r i) (c k)*E (sw p r k) x)=rs r fun k=>A (sw p r i) (c k)*E k x:=aS fun k hk=>by rw[vF hp hk]
   show d*A (sw p r i) x=(rs r fun k=>A (sw p r i) (c k)*E (sw p r k) x)+_;rw[e,h.i4 _ x (zD hpm (by lia) hm)];congr 1
   by_cases hi:i < r
   ·rw[vF hp hi,if_pos hi]
   ·have:=Uy hp (show r<=i by lia);rw[if_neg (by lia),if_neg hi]
  i5:=by
   rw[<- h.i5];exact cL fun i j hi _=>by show A (sw p r i) (c j)=_;rw[vF hp hi]
  i6:=fun Φ hΦ hs k hk=>by
   show Φ (E (sw p r k))=0;rw[vF hp hk];exact h.i6 Φ hΦ (fun s hs'=>by have:=hs s hs';rwa [vF hp hs'] at this) k hk }
def clr (E:Mat)(r col:Nat)(d:Rat):Mat:=fun k x=>if k=r then E r x else (E r col*E k x - E k col*E r x) / d
def c1 (c:Nat->Nat)(r col:Nat):Nat->Nat:=fun j=>if j=r then col else c j
theorem iR (c:Nat->Nat){r col j:Nat}(h:j < r):c1 c r col j=c j:=by unfold c1;rw[if_neg (by lia)]
theorem nT (c:Nat->Nat)(r col:Nat):c1 c r col r=col:=by unfold c1;rw[if_pos rfl]
theorem yR (E:Mat)(r col:Nat)(d:Rat):clr E r col d r=E r:=by funext x;unfold clr;rw[if_pos rfl]
theorem lQ (E:Mat){r col k:Nat}{d:Rat}(h:k≠r)(x:Nat):clr E r col d k x=(E r col*E k x - E k col*E r x) / d:=by unfold clr;rw[if_neg h]
theorem Bar.j2 (h:Bar m A E r col d c)(hr:r < m):∀k j,k < r+1->j < r+1->clr E r col d k (c1 c r col j)=if j=k then E r col else 0:=fun k j hk hj=>by
 have hd:=h.dne
 by_cases kr:k=r
 ·subst kr;rw[yR]
  by_cases jr:j=k
  ·rw[if_pos jr,jr,nT]
  ·rw[if_neg jr,iR c (by lia)];exact h.i3 k _ (Nat.le_refl _) hr (h.clt j (by lia))
 ·rw[lQ E kr]
  by_cases jr:j=r
  ·subst jr;rw[nT,if_neg (by lia)];grind
  ·rw[iR c (by lia),h.i2 k j (by lia) (by lia),h.i3 r (c j) (Nat.le_refl _) hr (h.clt j (by lia))]
   by_cases e:j=k
   ·rw[if_pos e,if_pos e];grind
   ·rw[if_neg e,if_neg e];grind
theorem Bar.j4 (h:Bar m A E r col d c)(hr:r < m):∀i x,i < m->E r col*A i x=(rs (r+1) fun k=>A i (c1 c r col k)*clr E r col d k x)+if i < r+1 then 0 else clr E r col d i x:=fun i x hi=>by
 have hd:=h.dne;have q:=h.i4 i x hi;have q2:=h.i4 i col hi;show _=(rs r fun k=>A i (c1 c r col k)*clr E r col d k x)+A i (c1 c r col r)*clr E r col d r x+_;rw[nT,yR];have e:(rs r fun k=>A i (c1 c r col k)*clr E r col d k x)=(E r col / d)*(rs r fun k=>A i (c k)*E k x)+(-(E r x / d))*rs r fun k=>A i (c k)*E k col:=by
  rw[<- dM,<- dM,<- eK];exact aS fun k hk=>by rw[iR c hk,lQ E (by lia)];grind
 rw[e];generalize (rs r fun k=>A i (c k)*E k x)=s1 at q ⊢;generalize (rs r fun k=>A i (c k)*E k col)=s2 at q2 ⊢
 by_cases h1:i < r
 ·rw[if_pos h1] at q q2;rw[if_pos (by lia)];have:s1=d*A i x:=by grind
  have:s2=d*A i col:=by grind
  subst s1 s2;grind
 ·rw[if_neg h1] at q q2;have a1:s1=d*A i x - E i x:=by grind
  have a2:s2=d*A i col - E i col:=by grind
  subst a1 a2
  by_cases h2:i=r
  ·subst h2;rw[if_pos (by lia)];grind
  ·rw[if_neg (by lia),lQ E h2];grind
theorem Bar.j6 (h:Bar m A E r col d c)(hr:r < m):∀Φ,Lin Φ->(∀s,s < r+1->Φ (A s)=0)->∀k,k < r+1->Φ (clr E r col d k)=0:=fun Φ hΦ hs k hk=>by
 have hd:=h.dne;have z:=h.i6 Φ hΦ fun s hs'=>hs s (by lia);have zr:Φ (E r)=0:=by
  have e:E r=fun x=>(fun x=>d*A r x) x+(-1)*(fun x=>rs r fun k=>A r (c k)*E k x) x:=by
   funext x
   have:=h.i4 r x hr;rw[if_neg (by lia)] at this;show E r x=d*A r x+(-1)*(rs r fun k=>A r (c k)*E k x)
   grind
  rw[e,hΦ,hΦ.mul,hΦ.sum,hs r (by lia)];have:(rs r fun k=>A r (c k)*Φ (E k))=rs r fun _=>0:=aS fun k hk=>by rw[z k hk];grind
  rw[this,dB];grind
 by_cases kr:k=r
 ·rw[kr,yR];exact zr
 ·have e:clr E r col d k=fun x=>(fun x=>(E r col / d)*E k x) x+(-(E k col / d))*E r x:=by
   funext x
   rw[lQ E kr];show _=(E r col / d)*E k x+(-(E k col / d))*E r x;grind
  rw[e,hΦ,hΦ.mul,z k (by lia),zr];grind
theorem Bar.j5 (h:Bar m A E r col d c)(hr:r < m):det (r+1) (fun i j=>A i (c1 c r col j))=E r col:=by
 have hd:=h.dne;have e1:det (r+1) (fun i j=>A i (c1 c r col j))=F r A (c1 c r col) (A r):=by
  unfold F;exact cL fun i j hi _=>by
   unfold yT
   by_cases e:i=r
   ·rw[if_pos e,e]
   ·rw[if_neg e]
 have hΦ:=Gz r A (c1 c r col);have z:=h.i6 _ hΦ fun s hs=>Fy r A (c1 c r col) hs;have eA:A r=fun x=>(fun x=>(1 / d)*E r x) x+(1 / d)*(fun x=>rs r fun k=>A r (c k)*E k x) x:=by
  funext x
  have:=h.i4 r x hr;rw[if_neg (by lia)] at this;show A r x=(1 / d)*E r x+(1 / d)*(rs r fun k=>A r (c k)*E k x)
  grind
 have zs:(rs r fun k=>A r (c k)*F r A (c1 c r col) (E k))=0:=by
  have:(rs r fun k=>A r (c k)*F r A (c1 c r col) (E k))=rs r fun _=>0:=aS fun k hk=>by rw[z k hk];grind
  rw[this,dB]
 have fb:=yN r A (c1 c r col) (E r) fun j hj=>by rw[iR c hj];exact h.i3 r _ (Nat.le_refl _) hr (h.clt j hj)
 have dd:(det r fun i j=>A i (c1 c r col j))=d:=by rw[<- h.i5];exact cL fun i j _ hj=>by show A i (c1 c r col j)=_;rw[iR c hj]
 rw[nT,dd] at fb;rw[e1,eA,hΦ,hΦ.mul,hΦ.sum,zs,fb];grind
theorem Bar.wV (h:Bar m A E r col d c)(hr:r < m)(he:E r col≠0):∀i x,i < m->Wh (clr E r col d i x):=by
 have j2:=h.j2 hr;have j4:=h.j4 hr;have j5:=h.j5 hr;have j6:=h.j6 hr;have cin:∀i j,i < r+1->j < r+1->c1 c r col i=c1 c r col j->i=j:=fun i j hi hj e=>by
  by_cases a:i=r
  ·by_cases b:j=r
   ·lia
   ·rw[a,nT,iR c (by lia)] at e;have:=h.clt j (by lia);lia
  ·by_cases b:j=r
   ·rw[b,nT,iR c (by lia)] at e;have:=h.clt i (by lia);lia
   ·rw[iR c (by lia),iR c (by lia)] at e;exact h.cinj i j (by lia) (by lia) e
 have top:∀k x,k < r+1->Wh (clr E r col d k x):=fun k x hk=>by
  by_cases hx:∃j,j < r+1/\x=c1 c r col j
  ·obtain⟨j,hj,rfl⟩:=hx;rw[j2 k j hk hj];split
   ·exact h.wE r col hr
   ·exact Wh.nil
  ·let c2:Nat->Nat:=fun j=>if j=r+1 then x else c1 c r col j
   let u:Nat->Rat:=fun j=>if j=c1 c r col k then 1 else 0
   have hΦ:=Gz (r+1) A c2;have z:=j6 _ hΦ (fun s hs=>Fy (r+1) A c2 hs) k hk;have eu:u=fun y=>(fun y=>u y+(-(1 / E r col))*clr E r col d k y) y+(1 / E r col)*clr E r col d k y:=by
    funext y
    show u y=u y+(-(1 / E r col))*clr E r col d k y+(1 / E r col)*clr E r col d k y;grind
   have fb:=yN (r+1) A c2 (fun y=>u y+(-(1 / E r col))*clr E r col d k y) fun j hj=>by
    have ec:c2 j=c1 c r col j:=by show (if j=r+1 then x else c1 c r col j)=_;rw[if_neg (by lia)]
    rw[ec];show u (c1 c r col j)+(-(1 / E r col))*clr E r col d k (c1 c r col j)=0;rw[j2 k j hk hj];show (if c1 c r col j=c1 c r col k then (1:Rat) else 0)+_=0
    by_cases e:j=k
    ·rw[if_pos e,if_pos (by rw[e])];grind
    ·rw[if_neg e,if_neg (fun q=>e (cin j k hj hk q))];grind
   have dd:(det (r+1) fun i j=>A i (c2 j))=E r col:=by
    rw[<- j5];exact cL fun i j _ hj=>by show A i (if j=r+1 then x else c1 c r col j)=_;rw[if_neg (by lia)]
   have ux:u x=0:=by show (if x=c1 c r col k then (1:Rat) else 0)=0;rw[if_neg (fun q=>hx ⟨k,hk,q⟩)]
   have cx:c2 (r+1)=x:=by show (if r+1=r+1 then x else _)=x;rw[if_pos rfl]
   rw[dd,cx] at fb;have val:F (r+1) A c2 u=- clr E r col d k x:=by
    rw[eu,hΦ,z,fb];show (u x+(-(1 / E r col))*clr E r col d k x)*E r col+_=_;rw[ux];grind
   have wh:Wh (F (r+1) A c2 u):=Sr h.wA fun j=>by
    show Wh (if j=c1 c r col k then (1:Rat) else 0);split
    ·exact Wh.one
    ·exact Wh.nil
   rw[val] at wh;have:=wh.neg
   rwa [show - - clr E r col d k x=clr E r col d k x by grind] at this
 intro i x hi
 by_cases h1:i < r+1
 ·exact top i x h1
 ·have q:=j4 i x hi;rw[if_neg h1] at q;have e:clr E r col d i x=E r col*A i x - rs (r+1) fun k=>A i (c1 c r col k)*clr E r col d k x:=by grind
  rw[e];exact Wh.sub (Wh.mul (h.wE r col hr) (h.wA i x)) (Bv fun k hk=>Wh.mul (h.wA _ _) (top k x hk))
theorem Bar.clear (h:Bar m A E r col d c)(hr:r < m)(he:E r col≠0):Bar m A (clr E r col d) (r+1) (col+1) (E r col) (c1 c r col) where
 dne:=he
 rm:=hr
 rc:=by have:=h.rc;lia
 clt:=fun j hj=>by
  by_cases e:j=r
  ·rw[e,nT];lia
  ·rw[iR c (by lia)];have:=h.clt j (by lia);lia
 cinj:=fun i j hi hj e=>by
  by_cases a:i=r
  ·by_cases b:j=r
   ·lia
   ·rw[a,nT,iR c (by lia)] at e;have:=h.clt j (by lia);lia
  ·by_cases b:j=r
   ·rw[b,nT,iR c (by lia)] at e;have:=h.clt i (by lia);lia
   ·rw[iR c (by lia),iR c (by lia)] at e;exact h.cinj i j (by lia) (by lia) e
 wA:=h.wA
 wE:=fun i j hi=>h.wV hr he i j hi
 i2:=h.j2 hr
 i3:=fun i x hi hm hx=>by
  rw[lQ E (by lia)]
  by_cases e:x=col
  ·rw[e];grind
  ·rw[h.i3 i x (by lia) hm (by lia),h.i3 r x (Nat.le_refl _) hr (by lia)];grind
 i4:=h.j4 hr
 i5:=h.j5 hr
 i6:=h.j6 hr
 full:=fun e j hj=>by
  by_cases a:j=r
  ·rw[a,nT];lia
  ·rw[iR c (by lia)];exact h.full (by lia) j (by lia)
end
def ent (R:List (List Int))(i x:Nat):Int:=(R.getD i []).getD x 0
def at2 (R:List (List Int)):Mat:=fun i x=>((ent R i x:Int):Rat)
theorem Bar.congr {m:Nat}{A E E':Mat}{r col:Nat}{d:Rat}{c:Nat->Nat}(h:Bar m A E r col d c)(e:∀i,i < m->E i=E' i):Bar m A E' r col d c:=
 { h with
  wE:=fun i j hi=>by rw[<- e i hi];exact h.wE i j hi
  i2:=fun k j hk hj=>by rw[<- e k (by have:=h.rm;lia)];exact h.i2 k j hk hj
  i3:=fun i x hi hm hx=>by rw[<- e i hm];exact h.i3 i x hi hm hx
  i4:=fun i x hm=>by
   rw[h.i4 i x hm];congr 1
   ·exact aS fun k hk=>by rw[e k (by have:=h.rm;lia)]
   ·rw[e i hm]
  i6:=fun Φ hΦ hs k hk=>by rw[<- e k (by have:=h.rm;lia)];exact h.i6 Φ hΦ hs k hk }
theorem Kt (n:Nat):∀(t p r:Nat) (A:Mat),p=r+t+1->p < n->det n (fun i=>A (sw p r i))=- det n A
 |0,p,r,A,h,hp=>by
  subst h;rw[<- mD n r A (by lia)];exact cL fun i j _ _=>by
   show A (sw (r+0+1) r i) j=cI r A i j;unfold sw cI
   by_cases h1:i=r
   ·rw[if_pos h1,if_pos h1]
   ·rw[if_neg h1,if_neg h1]
    by_cases h2:i=r+1
    ·rw[if_pos (by lia),if_pos h2]
    ·rw[if_neg (by lia),if_neg h2]
 |t+1,p,r,A,h,hp=>by
  have ih:=Kt n t (r+t+1) r (cI (r+t+1) A) rfl (by lia);have s1:=mD n (r+t+1) A (by lia);have s2:=mD n (r+t+1) (fun i=>cI (r+t+1) A (sw (r+t+1) r i)) (by lia);have e:det n (fun i=>A (sw p r i))=det n (cI (r+t+1) (fun i=>cI (r+t+1) A (sw (r+t+1) r i))):=cL fun i j _ _=>by
   subst h;show A (sw (r+(t+1)+1) r i) j=cI (r+t+1) (fun i=>cI (r+t+1) A (sw (r+t+1) r i)) i j
   by_cases h1:i=r
   ·have a1:sw (r+(t+1)+1) r i=r+t+1+1:=by unfold sw;rw[if_pos h1];lia
    have a2:sw (r+t+1) r i=r+t+1:=by unfold sw;rw[if_pos h1]
    rw[a1];unfold cI;rw[if_neg (by lia),if_neg (by lia)];dsimp only;rw[a2,if_pos rfl]
   ·by_cases h2:i=r+t+1+1
    ·have a1:sw (r+(t+1)+1) r i=r:=by unfold sw;rw[if_neg h1,if_pos (by lia)]
     have a2:sw (r+t+1) r (r+t+1)=r:=by unfold sw;rw[if_neg (by lia),if_pos rfl]
     rw[a1];unfold cI;rw[if_neg (by lia),if_pos h2];dsimp only;rw[a2,if_neg (by lia),if_neg (by lia)]
    ·have a1:sw (r+(t+1)+1) r i=i:=by unfold sw;rw[if_neg h1,if_neg (by lia)]
     rw[a1]
     by_cases h3:i=r+t+1
     ·have a2:sw (r+t+1) r (r+t+1+1)=r+t+1+1:=by unfold sw;rw[if_neg (by lia),if_neg (by lia)]
      unfold cI;rw[if_pos h3];dsimp only;rw[a2,if_neg (by lia),if_pos rfl,h3]
     ·have a2:sw (r+t+1) r i=i:=by unfold sw;rw[if_neg h1,if_neg h3]
      unfold cI;rw[if_neg h3,if_neg h2];dsimp only;rw[a2,if_neg h3,if_neg h2]
  rw[e,s2,ih,s1];grind
def fP (R:List (List Int))(p r:Nat):List (List Int):=(R.set p (R.getD r [])).set r (R.getD p [])
theorem Ye (R:List (List Int))(p r:Nat):(fP R p r).length=R.length:=by unfold fP;simp
theorem zQ {R:List (List Int)}{p r:Nat}(hp:p < R.length)(hr:r < R.length)(i:Nat):(fP R p r).getD i []=R.getD (sw p r i) []:=by
 unfold fP sw;rw[getD_eq_getElem?_getD]
 by_cases h1:i=r
 ·rw[if_pos h1,h1,getElem?_set_self (by simpa using hr)];rfl
 ·rw[if_neg h1,getElem?_set_ne (Ne.symm h1)]
  by_cases h2:i=p
  ·rw[if_pos h2,h2,getElem?_set_self hp];rfl
  ·rw[if_neg h2,getElem?_set_ne (Ne.symm h2),getD_eq_getElem?_getD]
def gQ (upper row:List Int)(col:Nat)(dv:Int):List Int:=zipWith (fun here above=>Int.fdiv (upper.getD col 0*here - row.getD col 0*above) dv) row upper
def cJ (R:List (List Int))(r col:Nat)(dv:Int):List (List Int):=R.mapIdx fun i row=>if i=r then row else gQ (R.getD r []) row col dv
theorem Gv (R:List (List Int))(r col:Nat)(dv:Int):(cJ R r col dv).length=R.length:=by unfold cJ;simp
theorem oS {R:List (List Int)}{i:Nat}(hi:i < R.length)(r col:Nat)(dv:Int):(cJ R r col dv).getD i []=if i=r then R.getD i [] else gQ (R.getD r []) (R.getD i []) col dv:=by
 unfold cJ;rw[getD_eq_getElem?_getD,getElem?_mapIdx,getElem?_eq_getElem hi];have:R.getD i []=R[i]:=by rw[getD_eq_getElem?_getD,getElem?_eq_getElem hi];rfl
 rw[this];rfl
structure SI (m w:Nat) (A0:Mat) (R:List (List Int)) (r col:Nat) (d sg:Int):Prop where
 len:R.length=m
 wid:∀i,i < m->(R.getD i []).length=w
 bar:∃A c,Bar m A (at2 R) r col (d:Rat) c/\det m A=(sg:Rat)*det m A0
 one:sg=1\/sg=-1
theorem SI.start {m w:Nat}{R:List (List Int)}(h:R.length=m)(hw:∀i,i < m->(R.getD i []).length=w):SI m w (at2 R) R 0 0 1 1:=
 ⟨h,hw,⟨at2 R,id,by
  have:=Bar.start (m:=m) (A:=at2 R) fun i j=>⟨_,rfl⟩
  simpa using this,by simp⟩,.inl rfl⟩
theorem SI.skip {m w:Nat}{A0:Mat}{R:List (List Int)}{r col:Nat}{d sg:Int}(h:SI m w A0 R r col d sg)(hz:∀i,r<=i->i < m->ent R i col=0):SI m w A0 R r (col+1) d sg:=by
 obtain⟨A,c,B,e⟩:=h.bar;exact⟨h.len,h.wid,⟨A,c,B.skip fun i h1 h2=>by unfold at2;rw[hz i h1 h2];simp,e⟩,h.one⟩
theorem SI.swap {m w:Nat}{A0:Mat}{R:List (List Int)}{r col:Nat}{d sg:Int}(h:SI m w A0 R r col d sg){p:Nat}(hp:r < p)(hm:p < m):SI m w A0 (fP R p r) r col d (-sg):=by
 obtain⟨A,c,B,e⟩:=h.bar;have hl:=h.len;have gd:=fun i=>zQ (R:=R) (p:=p) (r:=r) (by lia) (by lia) i;refine⟨(Ye R p r).trans hl,fun i hi=>?_,⟨_,c,(B.swap (by lia) hm).congr fun i hi=>?_,?_⟩,?_⟩
 ·rw[gd i];exact h.wid _ (zD hm (by lia) hi)
 ·funext x
  show (((R.getD (sw p r i) []).getD x 0:Int):Rat)=((((fP R p r).getD i []).getD x 0:Int):Rat)
  rw[gd i]
 ·rw[Kt m (p - r - 1) p r A (by lia) hm,e,Rat.intCast_neg];grind
 ·rcases h.one with z | z
  ·right;lia
  ·left;lia
theorem lG {l:List Int}{x:Nat}(h:x < l.length):l[x]?=some (l.getD x 0):=by rw[getD_eq_getElem?_getD,getElem?_eq_getElem h];rfl
theorem tO {l:List Int}{x:Nat}(h:l.length<=x):l.getD x 0=0:=by rw[getD_eq_getElem?_getD,getElem?_eq_none h];rfl
theorem Hs {m w:Nat}{A A0:Mat}{R:List (List Int)}{r col:Nat}{d sg:Int}(h:SI m w A0 R r col d sg){c:Nat->Nat}(B:Bar m A (at2 R) r col (d:Rat) c)(hr:r < m)(hc:col < w)(he:ent R r col≠0){i:Nat}(hi:i < m)(hir:i≠r)(x:Nat) :
  ∃z:Int,(gQ (R.getD r []) (R.getD i []) col d).getD x 0=z/\(z:Rat)=clr (at2 R) r col (d:Rat) i x/\(x < w->ent R r col*ent R i x - ent R i col*ent R r x=d*z):=by
 have dn:d≠0:=fun z=>B.dne (by rw[z];simp);have dq:=B.dne;have heq:at2 R r col≠0:=fun z=>he (Rat.intCast_inj.mp (by unfold at2 at z;simpa using z));have wi:=h.wid i hi;have wr:=h.wid r hr
 by_cases hx:x < w
 ·obtain⟨z,hz⟩:=B.wV hr heq i x hi;have e1:ent R r col*ent R i x - ent R i col*ent R r x=d*z:=by
   rw[lQ _ hir] at hz;have:((ent R r col*ent R i x - ent R i col*ent R r x:Int):Rat)=((d*z:Int):Rat):=by
    rw[Rat.intCast_sub,Rat.intCast_mul,Rat.intCast_mul,Rat.intCast_mul,<- hz];show at2 R r col*at2 R i x - at2 R i col*at2 R r x=_;grind
   exact Rat.intCast_inj.mp this
  refine⟨z,?_,hz.symm,fun _=>e1⟩;unfold gQ;have g1:(R.getD i [])[x]?=some ((R.getD i []).getD x 0):=lG (by lia);have g2:(R.getD r [])[x]?=some ((R.getD r []).getD x 0):=lG (by lia);rw[getD_eq_getElem?_getD (l:=zipWith _ _ _),getElem?_zipWith,g1,g2];exact fY dn e1
 ·refine⟨0,?_,?_,fun h=>absurd h hx⟩
  ·unfold gQ;exact tO (by rw[length_zipWith,wi,wr];lia)
  ·rw[lQ _ hir];have a1:at2 R i x=0:=by unfold at2 ent;rw[tO (by lia)];simp
   have a2:at2 R r x=0:=by unfold at2 ent;rw[tO (by lia)];simp
   rw[a1,a2];simp;grind
theorem SI.clear {m w:Nat}{A0:Mat}{R:List (List Int)}{r col:Nat}{d sg:Int}(h:SI m w A0 R r col d sg)(hr:r < m)(hc:col < w)(he:ent R r col≠0):SI m w A0 (cJ R r col d) (r+1) (col+1) (ent R r col) sg:=by
 obtain⟨A,c,B,e⟩:=h.bar;have hl:=h.len;have heq:at2 R r col≠0:=fun z=>he (Rat.intCast_inj.mp (by unfold at2 at z;simpa using z));refine⟨(Gv R r col d).trans hl,fun i hi=>?_,⟨A,_,(B.clear hr heq).congr fun i hi=>?_,e⟩,h.one⟩
 ·rw[oS (by lia)];split
  ·exact h.wid i hi
  ·unfold gQ;rw[length_zipWith,h.wid i hi,h.wid r hr,Nat.min_self]
 ·funext x
  show clr (at2 R) r col (d:Rat) i x=((((cJ R r col d).getD i []).getD x 0:Int):Rat)
  rw[oS (by lia)]
  by_cases hir:i=r
  ·rw[if_pos hir,hir,yR];rfl
  ·rw[if_neg hir];obtain⟨z,h1,h2,_⟩:=Hs h B hr hc he hi hir x;rw[h1,h2]
def BdR (n:Nat)(R:List (List Int)):Prop:=∀i x,B n (ent R i x)
theorem SI.whole {m w:Nat}{A0:Mat}{R:List (List Int)}{d sg:Int}(h:SI m w A0 R m m d sg):det m A0=(sg:Rat)*(d:Rat):=by
 obtain⟨A,c,B,e⟩:=h.bar;have f:=B.full rfl;have i5:=B.i5;have:det m (fun i j=>A i (c j))=det m A:=cL fun i j _ hj=>by show A i (c j)=A i j;rw[f j hj]
 rw[this,e] at i5;rcases h.one with z | z
 ·rw[z] at i5 ⊢;simp at i5 ⊢;exact i5
 ·rw[z,Rat.intCast_neg] at i5 ⊢;simp at i5 ⊢;grind
theorem SI.lame {m w:Nat}{A0:Mat}{R:List (List Int)}{r:Nat}{d sg:Int}(h:SI m w A0 R r m d sg)(hr:r < m):det m A0=0:=by
 obtain⟨A,c,B,e⟩:=h.bar;obtain⟨n,rfl⟩:∃n,m=n+1:=⟨m - 1,by lia⟩
 have dq:=B.dne;have e1:det (n+1) A=F n A id (A n):=by
  unfold F;exact cL fun i j hi _=>by
   unfold yT
   by_cases z:i=n
   ·rw[if_pos z,z];rfl
   ·rw[if_neg z];rfl
 have hΦ:=Gz n A id;have z:=B.i6 _ hΦ fun s hs=>Fy n A id (by lia);have eA:A n=fun x=>(fun x=>(1 / (d:Rat))*at2 R n x) x+(1 / (d:Rat))*(fun x=>rs r fun k=>A n (c k)*at2 R k x) x:=by
  funext x
  have:=B.i4 n x (by lia);rw[if_neg (by lia)] at this;show A n x=(1 / (d:Rat))*at2 R n x+(1 / (d:Rat))*(rs r fun k=>A n (c k)*at2 R k x)
  grind
 have zs:(rs r fun k=>A n (c k)*F n A id (at2 R k))=0:=by
  have:(rs r fun k=>A n (c k)*F n A id (at2 R k))=rs r fun _=>0:=aS fun k hk=>by rw[z k hk];grind
  rw[this,dB]
 have zn:F n A id (at2 R n)=0:=by
  rw[Iq];have:(rs (n+1) fun j=>sgn (n+j)*at2 R n (id j)*det n fun i k=>A i (id (Mq.skip j k)))=rs (n+1) fun _=>0:=aS fun j hj=>by
   rw[show at2 R n (id j)=0 from B.i3 n j (by lia) (by lia) hj];grind
  rw[this,dB]
 have:det (n+1) A=0:=by
  rw[e1,eA,hΦ,hΦ.mul,hΦ.sum,zs,zn];grind
 rw[this] at e;rcases h.one with q | q
 ·rw[q] at e;simp at e;exact e.symm
 ·rw[q,Rat.intCast_neg] at e;simp at e;grind
def Il:Nat->(Nat->Rat)->Rat
 |0,_=>1
 |n+1,b=>Il n b*b n
theorem pY:∀(n:Nat) (b:Nat->Rat) (Q:Mat),det n (fun i j=>b i*Q i j)=Il n b*det n Q
 |0,_,_=>by simp[det,Il]
 |n+1,b,Q=>by
  rw[fV,fV,<- dM];refine aS fun j _=>?_;have:=pY n b (fun i k=>Q i (Mq.skip j k));show sgn (n+j)*(b n*Q n j)*det n (fun i k=>b i*Q i (Mq.skip j k))=Il n b*b n*_;rw[this];grind
end Mq
open Mq (BdR Il Mat SI cJ cL ent fP gQ lG oS pY rW zQ)
namespace Shp
open PySem L2
inductive Imx (D:Addr) (H:Hp):List V->List (List Int)->Prop where
 |nil:Imx D H [] []
 |cons {u:Addr} {r:List Int} {us:List V} {R:List (List Int)} (ne:u≠D) (h:H u=some (.lst (r.map V.int))) (q:Imx D H us R):Imx D H (.ref u :: us) (r :: R)
theorem Imx.same {D:Addr}{H H':Hp}(e:aY H H'):∀{xs:List V} {R:List (List Int)},Imx D H xs R->Imx D H' xs R
 |_,_,.nil=>.nil
 |_,_,.cons n h q=>.cons n (e _ _ h) (q.same e)
theorem Imx.upd {D:Addr}{H:Hp}{o:HO}:∀{xs:List V} {R:List (List Int)},Imx D H xs R->Imx D (L2.upd H D o) xs R
 |_,_,.nil=>.nil
 |_,_,.cons n h q=>.cons n (by rw[aW n];exact h) q.upd
theorem Imx.length {D:Addr}{H:Hp}:∀{xs:List V} {R:List (List Int)},Imx D H xs R->xs.length=R.length
 |_,_,.nil=>rfl
 |_,_,.cons _ _ q=>by rw[length_cons,length_cons,q.length]
theorem Imx.get {D:Addr}{H:Hp}:∀{xs:List V} {R:List (List Int)} {i:Nat} {x:V},Imx D H xs R->xs[i]?=some x->∃u r,x=.ref u/\R[i]?=some r/\u≠D/\H u=some (.lst (r.map V.int))
 |_,_,0,_,.cons n h q,e=>by simp at e;exact⟨_,_,e.symm,rfl,n,h⟩
 |_,_,i+1,_,.cons n h q,e=>by simp at e;exact q.get e
theorem Imx.at {D:Addr}{H:Hp}{xs:List V}{R:List (List Int)}(h:Imx D H xs R){i:Nat}(hi:i < R.length):∃u,xs[i]?=some (.ref u)/\u≠D/\H u=some (.lst ((R.getD i []).map V.int)):=by
 have hx:i < xs.length:=by rw[h.length];exact hi
 obtain⟨u,r,e1,e2,e3,e4⟩:=h.get (getElem?_eq_getElem hx);refine⟨u,by rw[getElem?_eq_getElem hx,e1],e3,?_⟩;rw[getD_eq_getElem?_getD,e2];exact e4
theorem Imx.app {D:Addr}{H:Hp}:∀{xs ys:List V} {R S:List (List Int)},Imx D H xs R->Imx D H ys S->Imx D H (xs++ys) (R++S)
 |_,_,_,_,.nil,k=>k
 |_,_,_,_,.cons n h q,k=>.cons n h (q.app k)
theorem Imx.set {D:Addr}{H:Hp}{u:Addr}{r:List Int}(hn:u≠D)(hu:H u=some (.lst (r.map V.int))):∀{xs:List V} {R:List (List Int)} (i:Nat),Imx D H xs R->Imx D H (xs.set i (.ref u)) (R.set i r)
 |_,_,_,.nil=>by simp;exact .nil
 |_,_,0,.cons n h q=>.cons hn hu q
 |_,_,i+1,.cons n h q=>.cons n h (q.set hn hu i)
theorem Imx.other {D D':Addr}{H:Hp}(hD:H D'=none):∀{xs:List V} {R:List (List Int)},Imx D H xs R->Imx D' H xs R
 |_,_,.nil=>.nil
 |_,_,.cons n h q=>.cons (fun z=>by rw[z,hD] at h;cases h) h (q.other hD)
theorem kJ {l:List Int}{i:Nat}(h:i < l.length):(l.map V.int)[i]?=some (.int (l.getD i 0)):=by
 rw[getElem?_map,lG h];rfl
def Vh (K:Frag):Sp:=fun vs H Q _=>∃(a:Addr) (xs:List V) (ps:List Q2) (n:Nat),vs=[.ref a]/\SqL K H a xs/\Fqs K H xs ps/\Mq.Pos ps/\(∀p∈ps,Bd n p)/\ps.length<=100/\10+n+n*ps.length<=8000/\
 ∀t l H',aY H H'->H l=none->SqT K H' t [.ref l,.int (dY ps)]->H' l=some (.lst ((iw ps).map V.int))->Q (.ref t) H'
def Vl (K:Frag):Sp:=fun vs H Q _=>∃(l D:Addr) (zs:List V) (R:List (List Int)) (r c m w:Nat),vs=[.ref l,.int (r:Int),.int (c:Int)]/\SqL K H l zs/\Imx D H zs R/\R.length=m/\(∀i,i < m->(R.getD i []).length=w)/\c < w/\r<=m/\m<=100/\
 (∀p,r<=p->p < m->ent R p c≠0->Q (.int (p:Int)) H)/\((∀i,r<=i->i < m->ent R i c=0)->Q .non H)
def wL (K:Frag):Sp:=fun vs H Q _=>∃(u v:Addr) (row upper:List Int) (c n:Nat) (dv:Int),vs=[.ref u,.ref v,.int (c:Int),.int dv]/\SqL K H u (row.map V.int)/\SqL K H v (upper.map V.int)/\row.length=upper.length/\row.length<=100/\c < row.length/\dv≠0/\
 (∀i,Mq.B n (row.getD i 0))/\(∀i,Mq.B n (upper.getD i 0))/\Mq.B n dv/\n<=9000/\
 ∀l H',aY H H'->H l=none->H' l=some (.lst ((gQ upper row c dv).map V.int))->Q (.ref l) H'
def vE (K:Frag):Sp:=fun vs H Q _=>∃(l D:Addr) (zs:List V) (R:List (List Int)) (r c m w n:Nat) (dv:Int),vs=[.ref l,.int (r:Int),.int (c:Int),.int dv]/\SqL K H l zs/\Imx D H zs R/\R.length=m/\(∀i,i < m->(R.getD i []).length=w)/\c < w/\w<=100/\r < m/\m<=100/\dv≠0/\BdR n R/\Mq.B n dv/\n<=9000/\
 ∀l' zs' H',aY H H'->H l'=none->H' l'=some (.lst zs')->Imx l' H' zs' (cJ R r c dv)->Q (.ref l') H'
def Mg (l:Addr)(rank:Nat)(pivot sign:Int):HO:=.dK (jM [] [(.inr "rows",.ref l),(.inr "rank",.int (rank:Int)),(.inr "pivot",.int pivot),(.inr "sign",.int sign)])
def wgt (X:List (List Q2)):Rat:=Mq.det X.length fun i j=>Mq.val ((X.getD i []).getD j Mq.z0)
theorem Ak {H:Hp}{d l:Addr}{rank:Nat}{pivot sign:Int}(h:H d=some (Mg l rank pivot sign)):jY H d (.str "rows") (some (.ref l))/\jY H d (.str "rank") (some (.int (rank:Int)))/\jY H d (.str "pivot") (some (.int pivot))/\jY H d (.str "sign") (some (.int sign)):=by
 refine⟨?_,?_,?_,?_⟩
 ·exact jY.k (k:=(Sum.inr "rows":Key)) h
 ·exact jY.k (k:=(Sum.inr "rank":Key)) h
 ·exact jY.k (k:=(Sum.inr "pivot":Key)) h
 ·exact jY.k (k:=(Sum.inr "sign":Key)) h
def qK (X:List (List Q2)):Int:=X.foldl (fun b row=>b*dY row) 1
theorem wI {X:List (List Q2)}{i:Nat}{row:List Q2}(h:X[i]?=some row):qK (X.take (i+1))=qK (X.take i)*dY row:=by
 unfold qK;rw[take_add_one,h,foldl_append];rfl
theorem pL (X:List (List Q2)):∀i,i<=X.length->((qK (X.take i):Int):Rat)=Il i fun k=>((dY (X.getD k []):Int):Rat)
 |0,_=>by simp[qK,Il]
 |i+1,h=>by
  have e:X[i]?=some (X.getD i []):=by rw[getD_eq_getElem?_getD,getElem?_eq_getElem (by lia)];rfl
  rw[wI e,Rat.intCast_mul,pL X i (by lia)];rfl
theorem yA {X:List (List Q2)}(hX:fK X):∀i,i<=X.length->1<=qK (X.take i)
 |0,_=>by show (1:Int)<=1;lia
 |i+1,h=>by
  have e:X[i]?=some (X.getD i []):=by rw[getD_eq_getElem?_getD,getElem?_eq_getElem (by lia)];rfl
  rw[wI e];have h1:=yA hX i (by lia);have h2:=rE (hX _ (mem_of_getElem? e));have:=Int.mul_pos (show 0 < qK (X.take i) by lia) (show 0 < dY (X.getD i []) by lia);lia
theorem Mh {row:List Q2}(hp:Mq.Pos row){j:Nat}(hj:j < row.length):(((iw row).getD j 0:Int):Rat)=((dY row:Int):Rat)*Mq.val (row.getD j Mq.z0):=by
 have ej:row[j]?=some (row.getD j Mq.z0):=by rw[getD_eq_getElem?_getD,getElem?_eq_getElem hj];rfl
 have mem:row.getD j Mq.z0∈row:=mem_of_getElem? ej;obtain⟨k,hk⟩:=Ar hp _ mem;have e2:(iw row).getD j 0=zU (dY row) (row.getD j Mq.z0):=by
  unfold iw;rw[getD_eq_getElem?_getD,getElem?_map,ej];rfl
 rw[e2,Mq.Lh (hp _ mem) hk];grind
theorem uJ (row:List Q2):(iw row).length=row.length:=by unfold iw;simp
end Shp
namespace Mq
theorem lW (m a:Nat)(v:Rat)(h:a < m):(rs m fun i=>if i=a then v else 0)=v:=by
 induction m with
 |zero=>lia
 |succ m ih=>
  simp only[rs]
  by_cases e:m=a
  ·subst e;rw[if_pos rfl];have:(rs m fun i=>if i=m then v else 0)=rs m fun _=>0:=aS fun i hi=>by rw[if_neg (by lia)]
   rw[this,dB];grind
  ·rw[if_neg e,ih (by lia)];grind
theorem Zr (m p r:Nat)(hp:p < m)(hr:r < m)(F:Nat->Rat):(rs m fun i=>F (sw p r i))=rs m F:=by
 by_cases e:p=r
 ·subst e;exact aS fun i _=>by
   congr 1;unfold sw
   by_cases h:i=p
   ·rw[if_pos h,h]
   ·rw[if_neg h,if_neg h]
 have:(rs m fun i=>F (sw p r i))=rs m fun i=>F i+((if i=r then F p - F r else 0)+(if i=p then F r - F p else 0)):=aS fun i _=>by
  unfold sw
  by_cases h1:i=r
  ·rw[if_pos h1,if_pos h1,if_neg (by lia),h1];grind
  ·rw[if_neg h1,if_neg h1]
   by_cases h2:i=p
   ·rw[if_pos h2,if_pos h2,h2];grind
   ·rw[if_neg h2,if_neg h2];grind
 rw[this,eK,eK,lW m r _ hr,lW m p _ hp];grind
structure LI (m:Nat) (Aq:Mat) (R:List (List Int)):Prop where
 lin:∀i x,i < m->x < m->at2 R i x=rs m fun k=>at2 R i (m+k)*Aq k x
 ind:∀lam:Nat->Rat,(∀j,j < m->(rs m fun i=>lam i*at2 R i (m+j))=0)->∀i,i < m->lam i=0
theorem pS {R:List (List Int)}{p r:Nat}(hp:p < R.length)(hr:r < R.length)(i x:Nat):at2 (fP R p r) i x=at2 R (sw p r i) x:=by
 show ((((fP R p r).getD i []).getD x 0:Int):Rat)=_;rw[zQ hp hr];rfl
theorem LI.swap {m:Nat}{Aq:Mat}{R:List (List Int)}(h:LI m Aq R)(hl:R.length=m){p r:Nat}(hp:p < m)(hr:r < m):LI m Aq (fP R p r) where
 lin:=fun i x hi hx=>by
  rw[pS (by lia) (by lia),h.lin _ x (zD hp hr hi) hx];exact aS fun k _=>by rw[pS (by lia) (by lia)]
 ind:=fun lam hz i hi=>by
  have:=h.ind (fun i=>lam (sw p r i)) (fun j hj=>by
   rw[<- hz j hj,<- Zr m p r hp hr];exact aS fun i _=>by
    show lam (sw p r (sw p r i))*_=_;rw[Lz,pS (by lia) (by lia)]) (sw p r i) (zD hp hr hi)
  have e:lam (sw p r (sw p r i))=0:=this
  rwa [Lz] at e
theorem rN {m w:Nat}{A0:Mat}{R:List (List Int)}{r col:Nat}{d sg:Int}(h:SI m w A0 R r col d sg)(hr:r < m)(hc:col < w)(he:ent R r col≠0){i:Nat}(hi:i < m)(x:Nat) :
  at2 (cJ R r col d) i x=if i=r then at2 R i x else (at2 R r col*at2 R i x - at2 R i col*at2 R r x) / (d:Rat):=by
 obtain⟨A,c,B,e⟩:=h.bar;have hl:=h.len;show ((((cJ R r col d).getD i []).getD x 0:Int):Rat)=_;rw[oS (by lia)]
 by_cases hir:i=r
 ·rw[if_pos hir,if_pos hir];rfl
 ·rw[if_neg hir,if_neg hir];obtain⟨z,h1,h2,_⟩:=Hs h B hr hc he hi hir x;rw[h1,h2,lQ _ hir]
theorem SI.dne {m w:Nat}{A0:Mat}{R:List (List Int)}{r col:Nat}{d sg:Int}(h:SI m w A0 R r col d sg):(d:Rat)≠0:=by
 obtain⟨A,c,B,e⟩:=h.bar;exact B.dne
theorem LI.clear {m w:Nat}{Aq A0:Mat}{R:List (List Int)}{r col:Nat}{d sg:Int}(h:LI m Aq R)(s:SI m w A0 R r col d sg)(hr:r < m)(hc:col < w)(he:ent R r col≠0):LI m Aq (cJ R r col d):=by
 have dn:=s.dne;have hn:at2 R r col≠0:=fun z=>he (Rat.intCast_inj.mp (by unfold at2 at z;simpa using z));have cl:=fun (i:Nat) (hi:i < m) (x:Nat)=>rN s hr hc he hi x;refine⟨fun i x hi hx=>?_,fun lam hz i hi=>?_⟩
 ·rw[cl i hi x]
  by_cases e:i=r
  ·rw[if_pos e,h.lin i x hi hx];exact aS fun k _=>by rw[cl i hi,if_pos e]
  ·rw[if_neg e,h.lin i x hi hx,h.lin r x hr hx];have:(rs m fun k=>at2 (cJ R r col d) i (m+k)*Aq k x)=rs m fun k=>(at2 R r col / (d:Rat))*(at2 R i (m+k)*Aq k x)+(-(at2 R i col / (d:Rat)))*(at2 R r (m+k)*Aq k x):=aS fun k _=>by rw[cl i hi,if_neg e];grind
   rw[this,eK,dM,dM];grind
 ·-- the factors of the rows as they were
  have key:=h.ind (fun i=>if i=r then lam r - (rs m fun k=>if k=r then 0 else lam k*(at2 R k col / (d:Rat))) else lam i*(at2 R r col / (d:Rat))) (fun j hj=>by
   have e0:=hz j hj;have e1:(rs m fun i=>lam i*at2 (cJ R r col d) i (m+j))=rs m fun i=>(if i=r then lam r*at2 R r (m+j) else 0)+((if i=r then 0 else lam i*(at2 R r col / (d:Rat))*at2 R i (m+j))+(-(at2 R r (m+j)))*(if i=r then 0 else lam i*(at2 R i col / (d:Rat)))):=aS fun i hi=>by
    rw[cl i hi]
    by_cases e:i=r
    ·rw[if_pos e,if_pos e,if_pos e,if_pos e,e];grind
    ·rw[if_neg e,if_neg e,if_neg e,if_neg e];grind
   rw[e1,eK,eK,dM,lW m r _ hr] at e0;have e2:(rs m fun i=>(if i=r then lam r - (rs m fun k=>if k=r then 0 else lam k*(at2 R k col / (d:Rat))) else lam i*(at2 R r col / (d:Rat)))*at2 R i (m+j))=rs m fun i=>(if i=r then (lam r - (rs m fun k=>if k=r then 0 else lam k*(at2 R k col / (d:Rat))))*at2 R r (m+j) else 0)+(if i=r then 0 else lam i*(at2 R r col / (d:Rat))*at2 R i (m+j)):=aS fun i _=>by
    by_cases e:i=r
    ·rw[if_pos e,if_pos e,if_pos e,e];grind
    ·rw[if_neg e,if_neg e,if_neg e];grind
   rw[e2,eK,lW m r _ hr];grind)
  have other:∀k,k < m->k≠r->lam k=0:=fun k hk e=>by
   have:=key k hk;rw[if_neg e] at this;have n2:at2 R r col / (d:Rat)≠0:=fun z=>hn (by grind);grind
  by_cases e:i=r
  ·have:=key r hr;rw[if_pos rfl] at this;have z:(rs m fun k=>if k=r then 0 else lam k*(at2 R k col / (d:Rat)))=rs m fun _=>0:=aS fun k hk=>by
    by_cases e:k=r
    ·rw[if_pos e]
    ·rw[if_neg e,other k hk e];grind
   rw[z,dB] at this;rw[e];grind
  ·exact other i hi e
theorem LI.lame {m w:Nat}{Aq A0:Mat}{R:List (List Int)}{d sg:Int}{r:Nat}(h:LI m Aq R)(s:SI m w A0 R r m d sg)(hr:r < m):(∃k,k < m/\ent R (m - 1) (m+k)≠0)/\∀x,x < m->(rs m fun k=>at2 R (m - 1) (m+k)*Aq k x)=0:=by
 obtain⟨A,c,B,e⟩:=s.bar;refine⟨Classical.byContradiction fun n=>?_,fun x hx=>?_⟩
 ·have all:∀k,k < m->ent R (m - 1) (m+k)=0:=fun k hk=>Classical.byContradiction fun z=>n ⟨k,hk,z⟩;have:=h.ind (fun i=>if i=m - 1 then 1 else 0) (fun j hj=>by
   have:(rs m fun i=>(if i=m - 1 then (1:Rat) else 0)*at2 R i (m+j))=rs m fun _=>0:=aS fun i _=>by
    by_cases e:i=m - 1
    ·rw[if_pos e,e];have:at2 R (m - 1) (m+j)=0:=by unfold at2;rw[all j hj];simp
     rw[this];grind
    ·rw[if_neg e];grind
   rw[this,dB]) (m - 1) (by lia)
  rw[if_pos rfl] at this;grind
 ·rw[<- h.lin (m - 1) x (by lia) hx];exact B.i3 (m - 1) x (by lia) (by lia) hx
end Mq
namespace PySem
open Sem (wp)
section
variable {prog:Program} {w:World} {A:Around} {E:Value->Shared->Prop} {h:Heap} {g:Array GenState} {d:Drawn} {t:Nat} {os:OsState}
variable {nm q:Str} {C N f:Addr} {bs bm bmB:List Value} {hdct:Bool} {sn:List Str} {sub:List Value} {ab:Bool} {col:Option Bool} {dd:Option Addr} {k0 k1 k2 k3 k5:Option Value} {B Bn newId nid initId inN:String} {bmN:List Value}
abbrev Wu (h:Heap)(C:Addr)(rest:List Value):Heap:=(h.push { cls:=.type "tuple",data:=.seq rest.toArray }).push { cls:=.ref C,data:=.fields #[.ref h.objs.size,.none,.none,.none,.bool false,.none] }
end
end PySem
namespace Shp
open PySem L2
inductive Fmd (K:Frag) (H0:Hp) (D:Addr) (H:Hp):List V->List (List Q2)->Prop where
 |nil:Fmd K H0 D H [] []
 |cons {u:Addr} {xs:List V} {ps:List Q2} {us:List V} {X:List (List Q2)} (n0:H0 u=none) (ne:u≠D) (h:H u=some (.lst xs)) (f:Fqs K H xs ps) (q:Fmd K H0 D H us X):Fmd K H0 D H (.ref u :: us) (ps :: X)
theorem Fmd.length {K:Frag}{H0:Hp}{D:Addr}{H:Hp}:∀{xs:List V} {X:List (List Q2)},Fmd K H0 D H xs X->xs.length=X.length
 |_,_,.nil=>rfl
 |_,_,.cons _ _ _ _ q=>by rw[length_cons,length_cons,q.length]
def pU (X:List (List Q2)):Mat:=fun i j=>Mq.val ((X.getD i []).getD j Mq.z0)
def mG (m i:Nat)(row:List Q2):List Int:=iw row++(List.range m).map fun c=>if c=i then dY row else 0
def kB (X:List (List Q2)):List (List Int):=X.mapIdx fun i row=>mG X.length i row
theorem Pz (X:List (List Q2)):(kB X).length=X.length:=by unfold kB;simp
theorem tU {X:List (List Q2)}{i:Nat}(h:i < X.length):(kB X).getD i []=mG X.length i (X.getD i []):=by
 unfold kB;rw[getD_eq_getElem?_getD,getElem?_mapIdx,getD_eq_getElem?_getD,getElem?_eq_getElem h];rfl
theorem uT {X:List (List Q2)}{i:Nat}(h:i < X.length):X[i]?=some (X.getD i []):=by rw[getD_eq_getElem?_getD,getElem?_eq_getElem h];rfl
theorem As (m i:Nat)(row:List Q2):(mG m i row).length=row.length+m:=by unfold mG;simp[uJ]
theorem vP {X:List (List Q2)}(hX:fK X)(hw:∀row∈X,row.length=X.length){i x:Nat}(hi:i < X.length)(hx:x < X.length):Mq.at2 (kB X) i x=((dY (X.getD i []):Int):Rat)*pU X i x:=by
 have mem:=mem_of_getElem? (uT hi);show ((((kB X).getD i []).getD x 0:Int):Rat)=_;rw[tU hi];unfold mG;have l:=hw _ mem;rw[getD_eq_getElem?_getD,getElem?_append_left (by rw[uJ];lia),<- getD_eq_getElem?_getD];exact Mh (hX _ mem) (by lia)
theorem uK {X:List (List Q2)}(hw:∀row∈X,row.length=X.length){i k:Nat}(hi:i < X.length)(hk:k < X.length):ent (kB X) i (X.length+k)=if k=i then dY (X.getD i []) else 0:=by
 have mem:=mem_of_getElem? (uT hi);unfold ent;rw[tU hi];unfold mG;have l:=hw _ mem;rw[getD_eq_getElem?_getD,getElem?_append_right (by rw[uJ];lia),uJ,l,Nat.add_sub_cancel_left,getElem?_map,getElem?_range hk];rfl
theorem Sc {X:List (List Q2)}(hX:fK X)(hw:∀row∈X,row.length=X.length):Mq.LI X.length (pU X) (kB X) where
 lin:=fun i x hi hx=>by
  rw[vP hX hw hi hx];have:(Mq.rs X.length fun k=>Mq.at2 (kB X) i (X.length+k)*pU X k x)=Mq.rs X.length fun k=>if k=i then ((dY (X.getD i []):Int):Rat)*pU X i x else 0:=aS fun k hk=>by
   show ((ent (kB X) i (X.length+k):Int):Rat)*_=_;rw[uK hw hi hk]
   by_cases e:k=i
   ·rw[if_pos e,if_pos e,e]
   ·rw[if_neg e,if_neg e];simp
  rw[this,Mq.lW _ _ _ hi]
 ind:=fun lam hz i hi=>by
  have e:=hz i hi;have:(Mq.rs X.length fun j=>lam j*Mq.at2 (kB X) j (X.length+i))=Mq.rs X.length fun j=>if j=i then lam i*((dY (X.getD i []):Int):Rat) else 0:=aS fun k hk=>by
   show _*((ent (kB X) k (X.length+i):Int):Rat)=_;rw[uK hw hk hi]
   by_cases e:k=i
   ·rw[if_pos e,if_pos e.symm,e]
   ·rw[if_neg e,if_neg (Ne.symm e)];simp
  rw[this,Mq.lW _ _ _ hi] at e;have g:=rE (hX _ (mem_of_getElem? (uT hi)));have n:=dL (show dY (X.getD i [])≠0 by lia);grind
theorem Rq {X:List (List Q2)}{R:List (List Int)}(h:∀i j,i < X.length->j < X.length->Mq.at2 R i j=((dY (X.getD i []):Int):Rat)*pU X i j):Mq.det X.length (Mq.at2 R)=((qK X:Int):Rat)*wgt X:=by
 unfold wgt;have hb:=pL X X.length (Nat.le_refl _);rw[take_length] at hb;rw[hb,<- pY];exact cL fun i j hi hj=>h i j hi hj
theorem Mv {X:List (List Q2)}{R R':List (List Int)}{w r:Nat}{d sg:Int}(hX:fK X)(hR:Mq.det X.length (Mq.at2 R)=((qK X:Int):Rat)*wgt X)(h:SI X.length w (Mq.at2 R) R' r X.length d sg):(r < X.length/\wgt X=0)\/(r=X.length/\wgt X≠0):=by
 have b1:=yA hX X.length (Nat.le_refl _);rw[take_length] at b1;have bn:=dL (show qK X≠0 by lia);obtain⟨A,c,B,e⟩:=h.bar;have rm:=B.rm;have dn:=B.dne;clear B
 by_cases hr:r < X.length
 ·left
  have e:=h.lame hr;rw[hR] at e;exact⟨hr,by grind⟩
 ·right
  have er:r=X.length:=by lia
  subst er;refine⟨rfl,fun z=>?_⟩;have e:=h.whole;rw[hR,z] at e;rcases h.one with q | q
  ·rw[q] at e;simp at e;grind
  ·rw[q,Rat.intCast_neg] at e;simp at e;grind
structure Stp (m w:Nat) (A0:Mat) (Pr:List (List Int)->Prop):Prop where
 sw:∀R r col d sg p,SI m w A0 R r col d sg->r < p->p < m->Pr R->Pr (fP R p r)
 cl:∀R r col d sg,SI m w A0 R r col d sg->r < m->col < w->ent R r col≠0->Pr R->Pr (cJ R r col d)
theorem Zd {m w:Nat}{A0 Aq:Mat}:Stp m w A0 (Mq.LI m Aq):=
 ⟨fun R r col d sg p s h1 h2 h=>h.swap s.len h2 (by lia),fun R r col d sg s h1 h2 h3 h=>h.clear s h1 h2 h3⟩
end Shp
namespace Mq
theorem Na {row:List Q2}{j:Nat}(h:j < row.length):row[j]?=some (row.getD j z0):=by rw[getD_eq_getElem?_getD,getElem?_eq_getElem h];rfl
end Mq
namespace Shp
open PySem L2
theorem Fmd.get {K:Frag}{H0:Hp}{D:Addr}{H:Hp}:∀{xs:List V} {X:List (List Q2)} {i:Nat} {x:V},Fmd K H0 D H xs X->xs[i]?=some x->∃u ys ps,x=.ref u/\X[i]?=some ps/\H0 u=none/\u≠D/\H u=some (.lst ys)/\Fqs K H ys ps
 |_,_,0,_,.cons n0 n h f q,e=>by simp at e;exact⟨_,_,_,e.symm,rfl,n0,n,h,f⟩
 |_,_,i+1,_,.cons n0 n h f q,e=>by simp at e;exact q.get e
end Shp
namespace Mq
def KI (m:Nat)(A0:Mat)(R:List (List Int)):Prop:=∀Φ,Lin Φ->(∀k,k < m->Φ (at2 R k)=0)->∀i,i < m->Φ (A0 i)=0
theorem KI.swap {m:Nat}{A0:Mat}{R:List (List Int)}(h:KI m A0 R)(hl:R.length=m){p r:Nat}(hp:p < m)(hr:r < m):KI m A0 (fP R p r):=fun Φ lin hz=>by
 refine h Φ lin fun k hk=>?_;have e:at2 R k=at2 (fP R p r) (sw p r k):=by
  funext x
  rw[pS (by lia) (by lia),Lz]
 rw[e];exact hz _ (zD hp hr hk)
theorem KI.clear {m w:Nat}{A0 A1:Mat}{R:List (List Int)}{r col:Nat}{d sg:Int}(h:KI m A1 R)(s:SI m w A0 R r col d sg)(hr:r < m)(hc:col < w)(he:ent R r col≠0):KI m A1 (cJ R r col d):=fun Φ lin hz=>by
 have dn:=s.dne;have hn:at2 R r col≠0:=fun z=>he (Rat.intCast_inj.mp (by unfold at2 at z;simpa using z));have cl:=fun (i:Nat) (hi:i < m) (x:Nat)=>rN s hr hc he hi x;have zr:Φ (at2 R r)=0:=by
  have e:at2 R r=at2 (cJ R r col d) r:=by funext x;rw[cl r hr x,if_pos rfl]
  rw[e];exact hz r hr
 refine h Φ lin fun k hk=>?_
 by_cases e:k=r
 ·rw[e];exact zr
 ·have e2:at2 R k=fun x=>(fun x=>((d:Rat) / at2 R r col)*at2 (cJ R r col d) k x) x+(at2 R k col / at2 R r col)*at2 R r x:=by
   funext x
   show _=((d:Rat) / at2 R r col)*at2 (cJ R r col d) k x+_;rw[cl k hk x,if_neg e];grind
  rw[e2,lin,lin.mul,hz k hk,zr];grind
theorem KI.whole {m w:Nat}{A0 A1:Mat}{R:List (List Int)}{d sg:Int}(h:KI m A1 R)(s:SI m w A0 R m m d sg){i:Nat}(hi:i < m):(rs m fun k=>A1 i k*(at2 R k m / (d:Rat)))=A1 i m:=by
 obtain⟨A,c,B,e⟩:=s.bar;have dn:=B.dne;have:=h (fun f=>(rs m fun k=>f k*(at2 R k m / (d:Rat))) - f m) (fun x y l=>by
  have:(rs m fun k=>(x k+l*y k)*(at2 R k m / (d:Rat)))=(rs m fun k=>x k*(at2 R k m / (d:Rat))+l*(y k*(at2 R k m / (d:Rat)))):=aS fun k _=>by grind
  show (rs m fun k=>(x k+l*y k)*(at2 R k m / (d:Rat))) - (x m+l*y m)=((rs m fun k=>x k*(at2 R k m / (d:Rat))) - x m)+l*((rs m fun k=>y k*(at2 R k m / (d:Rat))) - y m)
  rw[this,eK,dM];grind) (fun k hk=>by
  have:(rs m fun j=>at2 R k j*(at2 R j m / (d:Rat)))=rs m fun j=>if j=k then (d:Rat)*(at2 R k m / (d:Rat)) else 0:=aS fun j hj=>by
   have i2:=B.i2 k j hk hj;rw[B.full rfl j hj] at i2;rw[i2]
   by_cases z:j=k
   ·rw[if_pos z,if_pos z,z]
   ·rw[if_neg z,if_neg z];grind
  show (rs m fun j=>at2 R k j*(at2 R j m / (d:Rat))) - at2 R k m=0;rw[this,lW m k _ hk];grind) i hi
 have e2:(rs m fun k=>A1 i k*(at2 R k m / (d:Rat))) - A1 i m=0:=this;grind
end Mq
namespace Shp
open PySem L2
def mB (X:List (List Q2))(qs:List Q2):List (List Q2):=zipWith (fun row q=>row++[q]) X qs
def iF (X:List (List Q2))(qs:List Q2):List (List Int):=(mB X qs).map iw
section
variable {X:List (List Q2)} {qs:List Q2}
theorem oK (hl:qs.length=X.length):(mB X qs).length=X.length:=by unfold mB;simp[hl]
theorem Cd (hl:qs.length=X.length):(iF X qs).length=X.length:=by unfold iF;rw[length_map,oK hl]
theorem pB (hl:qs.length=X.length){i:Nat}(hi:i < X.length):(mB X qs).getD i []=X.getD i []++[qs.getD i Mq.z0]:=by
 unfold mB;rw[getD_eq_getElem?_getD,getElem?_zipWith,uT hi,Mq.Na (show i < qs.length by lia)];rfl
theorem sZ (hl:qs.length=X.length){i:Nat}(hi:i < X.length):(iF X qs).getD i []=iw (X.getD i []++[qs.getD i Mq.z0]):=by
 unfold iF;rw[getD_eq_getElem?_getD,getElem?_map,uT (X:=mB X qs) (by rw[oK hl];exact hi),pB hl hi];rfl
theorem qZ (hX:fK X)(hq:Mq.Pos qs)(hl:qs.length=X.length){i:Nat}(hi:i < X.length):Mq.Pos (X.getD i []++[qs.getD i Mq.z0]):=fun p hp=>by
 rcases mem_append.mp hp with z | z
 ·exact hX _ (mem_of_getElem? (uT hi)) p z
 ·have e:p=qs.getD i Mq.z0:=by simpa using z
  rw[e];exact Mq.Ng hq i
theorem Ea (hX:fK X)(hq:Mq.Pos qs)(hl:qs.length=X.length):fK (mB X qs):=fun row hr=>by
 obtain⟨i,hi,rfl⟩:=getElem_of_mem hr;have hi':i < X.length:=by rw[oK hl] at hi;exact hi
 have e:=pB hl hi';rw[getD_eq_getElem?_getD,getElem?_eq_getElem hi] at e;have e':(mB X qs)[i]=X.getD i []++[qs.getD i Mq.z0]:=e;rw[e'];exact qZ hX hq hl hi'
theorem uH (hX:fK X)(hq:Mq.Pos qs)(hl:qs.length=X.length)(hw:∀row∈X,row.length=X.length){i x:Nat}(hi:i < X.length)(hx:x < X.length+1) :
  Mq.at2 (iF X qs) i x=((dY ((mB X qs).getD i []):Int):Rat)*if x < X.length then pU X i x else Mq.val (qs.getD i Mq.z0):=by
 have l:=hw _ (mem_of_getElem? (uT hi));show ((((iF X qs).getD i []).getD x 0:Int):Rat)=_;rw[sZ hl hi,pB hl hi,Mh (qZ hX hq hl hi) (by rw[List.length_append,l];simpa using hx)];congr 1
 by_cases h:x < X.length
 ·rw[if_pos h,getD_eq_getElem?_getD,getElem?_append_left (by rw[l];exact h),<- getD_eq_getElem?_getD];rfl
 ·have ex:x=X.length:=by lia
  rw[if_neg h,getD_eq_getElem?_getD,getElem?_append_right (by rw[l];lia),l,ex,Nat.sub_self];rfl
theorem Su (hX:fK X)(hq:Mq.Pos qs)(hl:qs.length=X.length)(hw:∀row∈X,row.length=X.length):Mq.det X.length (Mq.at2 (iF X qs))=((qK (mB X qs):Int):Rat)*wgt X:=by
 unfold wgt;have hb:=pL (mB X qs) (mB X qs).length (Nat.le_refl _);rw[take_length,oK hl] at hb;rw[hb,<- pY];refine cL fun i j hi hj=>?_;rw[uH hX hq hl hw hi (by lia),if_pos hj];rfl
theorem Ij {R R':List (List Int)}{w r:Nat}{d sg:Int}{f:Rat}(fn:f≠0)(hR:Mq.det X.length (Mq.at2 R)=f*wgt X)(h:SI X.length w (Mq.at2 R) R' r X.length d sg):(r < X.length/\wgt X=0)\/(r=X.length/\wgt X≠0):=by
 obtain⟨A,c,B,e⟩:=h.bar;have rm:=B.rm;have dn:=B.dne;clear B
 by_cases hr:r < X.length
 ·left
  have e:=h.lame hr;rw[hR] at e;exact⟨hr,by grind⟩
 ·right
  have er:r=X.length:=by lia
  subst er;refine⟨rfl,fun z=>?_⟩;have e:=h.whole;rw[hR,z] at e;rcases h.one with q | q
  ·rw[q] at e;simp at e;grind
  ·rw[q,Rat.intCast_neg] at e;simp at e;grind
theorem Qe (hX:fK X)(hq:Mq.Pos qs)(hl:qs.length=X.length)(hw:∀row∈X,row.length=X.length){R':List (List Int)}{w r:Nat}{d sg:Int}(h:SI X.length w (Mq.at2 (iF X qs)) R' r X.length d sg):(r < X.length/\wgt X=0)\/(r=X.length/\wgt X≠0):=by
 have b1:=yA (Ea hX hq hl) (mB X qs).length (Nat.le_refl _);rw[take_length] at b1;exact Ij (dL (show qK (mB X qs)≠0 by lia)) (Su hX hq hl hw) h
end
structure Slv (X:List (List Q2)) (qs ps:List Q2):Prop where
 len:ps.length=X.length
 low:iZ ps
 bd:∀p∈ps,Bd 9000 p
 sum:∀i,i < X.length->(Mq.rs X.length fun j=>pU X i j*Mq.val (ps.getD j Mq.z0))=Mq.val (qs.getD i Mq.z0)
theorem Xx {X:List (List Q2)}{qs:List Q2}(hX:fK X)(hq:Mq.Pos qs)(hl:qs.length=X.length)(hw:∀row∈X,row.length=X.length){R:List (List Int)}{w:Nat}{d sg:Int}(h:Mq.KI X.length (Mq.at2 (iF X qs)) R)(s:SI X.length w (Mq.at2 (iF X qs)) R X.length X.length d sg){i:Nat}(hi:i < X.length):(Mq.rs X.length fun j=>pU X i j*(Mq.at2 R j X.length / (d:Rat)))=Mq.val (qs.getD i Mq.z0):=by
 have e:=h.whole s hi;rw[uH hX hq hl hw hi (by lia),if_neg (by lia)] at e;have e2:(Mq.rs X.length fun k=>Mq.at2 (iF X qs) i k*(Mq.at2 R k X.length / (d:Rat)))=((dY ((mB X qs).getD i []):Int):Rat)*Mq.rs X.length fun k=>pU X i k*(Mq.at2 R k X.length / (d:Rat)):=by
  rw[<- dM];refine aS fun k hk=>?_;rw[uH hX hq hl hw hi (by lia),if_pos hk];grind
 rw[e2] at e;have g:=rE (qZ hX hq hl hi);have n:=dL (show dY ((mB X qs).getD i [])≠0 by rw[pB hl hi];lia);grind
end Shp
namespace Mq
def Wb (n:Nat)(x:Rat):Prop:=∃z:Int,x=(z:Rat)/\B n z
theorem Wb.mono {n m:Nat}{x:Rat}(h:Wb n x)(l:n<=m):Wb m x:=by obtain⟨z,e,b⟩:=h;exact⟨z,e,b.mono l⟩
theorem Wb.mul {n m:Nat}{x y:Rat}(h:Wb n x)(k:Wb m y):Wb (n+m) (x*y):=by
 obtain⟨a,rfl,b⟩:=h;obtain⟨c,rfl,d⟩:=k;exact⟨a*c,by rw[Rat.intCast_mul],b.mul d⟩
theorem Wb.sub {n:Nat}{x y:Rat}(h:Wb n x)(k:Wb n y):Wb (n+1) (x - y):=by
 obtain⟨a,rfl,b⟩:=h;obtain⟨c,rfl,d⟩:=k;exact⟨a - c,by rw[Rat.intCast_sub],b.sub d⟩
theorem Wb.neg {n:Nat}{x:Rat}(h:Wb n x):Wb n (-x):=by
 obtain⟨a,rfl,b⟩:=h;exact⟨-a,by rw[Rat.intCast_neg],b.neg⟩
theorem Wb.zero (n:Nat):Wb n 0:=⟨0,by simp,Nat.two_pow_pos _⟩
theorem Wb.one:Wb 1 1:=⟨1,by simp,show (1:Nat) < 2 ^ 1 by decide⟩
theorem Wb.sgn {n:Nat}{x:Rat}(h:Wb n x)(k:Nat):Wb n (Mq.sgn k*x):=by
 unfold Mq.sgn;split
 ·rw[show (1:Rat)*x=x by grind];exact h
 ·rw[show (-1:Rat)*x=-x by grind];exact h.neg
theorem Va {n:Nat}{f:Nat->Rat}:∀K,(∀k,k < K->Wb n (f k))->∃z:Int,rs K f=(z:Rat)/\z.natAbs+K<=K*2 ^ n
 |0,_=>⟨0,by simp only[rs];simp,by simp⟩
 |K+1,h=>by
  obtain⟨z,e,b⟩:=Va K fun k hk=>h k (by lia);obtain⟨y,e2,b2⟩:=h K (by lia);refine⟨z+y,by simp only[rs];rw[e,e2,Rat.intCast_add],?_⟩;have:y.natAbs < 2 ^ n:=b2;rw[Nat.succ_mul];lia
def SB (n m:Nat)(R:List (List Int))(r col:Nat)(d:Int):Prop:=∃A c,Bar m A (at2 R) r col (d:Rat) c/\∀i x,i < m->Wb n (A i x)
theorem SB.start {n m:Nat}{R:List (List Int)}(hb:BdR n R):SB n m R 0 0 1:=
 ⟨at2 R,id,by
  have:=Bar.start (m:=m) (A:=at2 R) fun i j=>⟨_,rfl⟩
  simpa using this,fun i x _=>⟨ent R i x,rfl,hb i x⟩⟩
theorem SB.skip {n m:Nat}{R:List (List Int)}{r col:Nat}{d:Int}(h:SB n m R r col d)(hz:∀i,r<=i->i < m->ent R i col=0):SB n m R r (col+1) d:=by
 obtain⟨A,c,B,q⟩:=h;exact⟨A,c,B.skip fun i h1 h2=>by unfold at2;rw[hz i h1 h2];simp,q⟩
theorem SB.swap {n m w:Nat}{A0:Mat}{R:List (List Int)}{r col:Nat}{d sg:Int}(h:SB n m R r col d)(s:SI m w A0 R r col d sg){p:Nat}(hp:r < p)(hm:p < m):SB n m (fP R p r) r col d:=by
 obtain⟨A,c,B,q⟩:=h;have hl:=s.len;refine⟨_,c,(B.swap (by lia) hm).congr fun i hi=>?_,fun i x hi=>q _ x (zD hm (by lia) hi)⟩
 funext x
 rw[pS (by lia) (by lia)]
theorem SB.clear {n m w:Nat}{A0:Mat}{R:List (List Int)}{r col:Nat}{d sg:Int}(h:SB n m R r col d)(s:SI m w A0 R r col d sg)(hr:r < m)(hc:col < w)(he:ent R r col≠0):SB n m (cJ R r col d) (r+1) (col+1) (ent R r col):=by
 obtain⟨A,c,B,q⟩:=h;have heq:at2 R r col≠0:=fun z=>he (Rat.intCast_inj.mp (by unfold at2 at z;simpa using z));refine⟨A,_,(B.clear hr heq).congr fun i hi=>?_,q⟩
 funext x
 rw[rN s hr hc he hi x];unfold clr
 by_cases e:i=r
 ·rw[if_pos e,if_pos e,e]
 ·rw[if_neg e,if_neg e]
end Mq
namespace Shp
open PySem L2
abbrev bq (n m:Nat):Nat:=(n+4)*(m+1)+7
end Shp
namespace L2
open PySem PySem.Spec PyProof.Rows
theorem aL.weak {P:Program}{w:World}{K:Frag}{mg:Str->Option Value}{base:Heap}{CX:CXT}{k:Nat}{f:Addr}{fd:FuncData}{ps:List Str}{sp sp':Sp}(F:aL P w K mg base CX k f fd ps sp)(h:∀vs H Q E,sp' vs H Q E->sp vs H Q E):aL P w K mg base CX k f fd ps sp':=
 ⟨fun vs H Q E q=>F.len vs H Q E (h _ _ _ _ q),fun A outer s H args us vs Q E hr he hb hv hs=>F.run A outer s H args us vs Q E hr he hb hv (h _ _ _ _ hs)⟩
abbrev cO (m i j:Int):Prop:=0<=i/\i < m/\0<=j/\j < m
inductive Zv (K:Frag) (H:Hp):V->Option Q2->Prop where
 |fr {u:Addr} {p:Q2} (h:Fq K H u p) (l:Low p):Zv K H (.ref u) (some p)
 |ty {v:V} {t:Value} (h:TyQ K H v t) (n:W.kitOne K t (.type "tuple")=some false):Zv K H v none
 |len {u:Addr} {x y z:V} (h:SqT K H u [x,y,z]):Zv K H (.ref u) none
 |n0 {u:Addr} {x y:V} {t:Value} (h:SqT K H u [x,y]) (ty:mY K H x t) (n:uI t):Zv K H (.ref u) none
 |n1 {u:Addr} {i:Int} {y:V} {t:Value} (h:SqT K H u [.int i,y]) (ty:mY K H y t) (n:uI t):Zv K H (.ref u) none
 |fb {u:Addr} {p:Q2} (h:Fq K H u p) (c:p.2 < 1\/(1<=p.2/\gc p.1 p.2≠1)):Zv K H (.ref u) none
abbrev Bz (o:Option Q2):Prop:=∀p,o=some p->Bd 1000 p
def Li (K:Frag):Sp:=fun vs H Q _=>∃(v:V) (o:Option Q2),vs=[v]/\Zv K H v o/\Q (.bl o.isSome) H
inductive gJ (CK:Kd->Addr) (K:Frag) (H:Hp):List V->List RD->Prop where
 |nil:gJ CK K H [] []
 |cons {x z:Addr} {k:Kd} {i j:Int} {p:Q2} {xs:List V} {ds:List RD} (h:Rw CK H x k (.int i) (.int j) (.ref z)) (f:Fq K H z p) (q:gJ CK K H xs ds):gJ CK K H (.ref x :: xs) ((k,i,j,p) :: ds)
section
variable {CK:Kd->Addr} {K:Frag} {H H':Hp}
theorem gJ.same (e:aY H H'):∀{xs:List V} {ds:List RD},gJ CK K H xs ds->gJ CK K H' xs ds
 |_,_,.nil=>.nil
 |_,_,.cons h f q=>.cons (h.same e) (e.fq f) (gJ.same e q)
theorem gJ.length:∀{xs:List V} {ds:List RD},gJ CK K H xs ds->xs.length=ds.length
 |_,_,.nil=>rfl
 |_,_,.cons _ _ q=>by simp[gJ.length q]
theorem gJ.app:∀{xs ys:List V} {ds es:List RD},gJ CK K H xs ds->gJ CK K H ys es->gJ CK K H (xs++ys) (ds++es)
 |_,_,_,_,.nil,r=>r
 |_,_,_,_,.cons h f q,r=>.cons h f (gJ.app q r)
theorem gJ.at:∀{xs:List V} {ds:List RD} {q:Nat} {d:RD},gJ CK K H xs ds->ds[q]?=some d->∃x z,xs[q]?=some (.ref x)/\Rw CK H x d.1 (.int d.2.1) (.int d.2.2.1) (.ref z)/\Fq K H z d.2.2.2
 |_,_,_,_,.nil,h=>by simp at h
 |_,_,0,_,.cons h f _,e=>by simp at e;subst e;exact⟨_,_,rfl,h,f⟩
 |_,_,i+1,_,.cons _ _ q,e=>by simpa using gJ.at q (by simpa using e)
theorem gJ.upd {l:Addr}{ys:List V}{o:HO}(hl:H l=some (.lst ys)):∀{xs:List V} {ds:List RD},gJ CK K H xs ds->gJ CK K (L2.upd H l o) xs ds
 |_,_,.nil=>.nil
 |_,_,.cons (h:=h) f q=>by
  obtain⟨dx,e⟩:=h;exact .cons ⟨dx,by rw[aW (eY e hl (fun z=>by cases z))];exact e⟩ (f.upd hl) (gJ.upd hl q)
end
def nU (CN:Addr)(K:Frag)(CK:Kd->Addr):Sp:=fun vs H Q _=>∃(n l:Addr) (m:Int) (ds:List RD),vs=[.ref n]/\cV CN K H n l m ds/\ds.length<=100/\∀a xs H',aY H H'->H a=none->H' a=some (.lst xs)->gJ CK K H' xs ds->Q (.ref a) H'
end L2
namespace Mq
inductive Wt:List Q2->Nat->Prop where
 |nil:Wt [] 0
 |cons {p:Q2} {ps:List Q2} {n w:Nat} (h:Bd n p) (q:Wt ps w):Wt (p :: ps) (n+1+w)
theorem Wt.at:∀{ps:List Q2} {w i:Nat} {p:Q2},Wt ps w->ps[i]?=some p->∃w' n,Wt (ps.take i) w'/\Bd n p/\w' + n+1<=w
 |_,_,_,_,.nil,h=>by simp at h
 |_,_,0,_,.cons (n:=n) h q,e=>by
  simp at e;subst e;exact⟨0,n,.nil,h,by lia⟩
 |_,_,i+1,_,.cons (n:=n) h q,e=>by
  obtain⟨w',n',a,b,c⟩:=Wt.at q (by simpa using e);exact⟨n+1+w',n',.cons h a,b,by lia⟩
theorem Wt.fold:∀{ps:List Q2} {w k:Nat} {p:Q2},Wt ps w->Pos ps->1<=p.2->Bd k p->Bd (k+w) (ps.foldl gY p)
 |_,_,_,_,.nil,_,_,h=>h
 |_,_,k,p,.cons (p:=q) (n:=n) (w:=w) h r,hp,p1,b=>by
  have q1:=hp q (by simp);have:=Wt.fold r (fun x hx=>hp x (mem_cons_of_mem _ hx)) (jW p1 q1).pos (rK b h p1 q1);exact this.mono (by lia)
theorem Wt.tot {ps:List Q2}{w:Nat}(h:Wt ps w)(hp:Pos ps):Bd (1+w) (tot ps):=h.fold hp (by decide) ⟨show (0:Nat) < 2 ^ 1 by decide,show (1:Nat) < 2 ^ 1 by decide⟩
theorem Qc (ps:List Q2)(p:Q2):tot (ps++[p])=gY (tot ps) p:=by unfold tot;rw[foldl_append];rfl
end Mq
open Mq (Wt)
namespace L2
open PySem PySem.Spec PyProof.Rows
abbrev RE:=RD × Q2
def flF (hp:List Q2)(d:RD):Q2:=Mq.minus (hp.getD d.2.1.toNat (0,1)) (hp.getD d.2.2.1.toNat (0,1))
def gW (e:RE):Q2:=gB e.1.2.2.2 (gB e.2 e.2)
def gH (e:RE):Q2:=gB e.1.2.2.2 e.2
def gP (hp:List Q2)(d:RD):Q2:=gB d.2.2.2 (flF hp d)
def fG (k:Kd)(l:List RE):List RE:=l.filter fun e=>decide (e.1.1=k)
def eT (k:Kd)(l:List RD):List RD:=l.filter fun d=>decide (d.1=k)
def iY (l:List RE):Q2:=tot ((fG .pc l).map gW)
def Vw (l:List RE):Q2:=tot ((fG .ho l).map gH)
def Ly (hp:List Q2)(ds:List RD):Q2:=Mq.minus (0,1) (tot ((eT .pu ds).map (gP hp)))
theorem mI (k:Kd)(l:List RE)(e:RE):fG k (l++[e])=if e.1.1=k then fG k l++[e] else fG k l:=by
 unfold fG;rw[filter_append]
 by_cases h:e.1.1=k
 ·rw[if_pos h];simp[h]
 ·rw[if_neg h];simp[h]
theorem pN (k:Kd)(l:List RD)(e:RD):eT k (l++[e])=if e.1=k then eT k l++[e] else eT k l:=by
 unfold eT;rw[filter_append]
 by_cases h:e.1=k
 ·rw[if_pos h];simp[h]
 ·rw[if_neg h];simp[h]
inductive Rss (CK:Kd->Addr) (K:Frag) (H:Hp):List V->List RE->Prop where
 |nil:Rss CK K H [] []
 |cons {t x z s:Addr} {k:Kd} {i j:Int} {p q:Q2} {xs:List V} {es:List RE} (ht:SqT K H t [.ref x,.ref s]) (h:Rw CK H x k (.int i) (.int j) (.ref z)) (f:Fq K H z p) (fs:Fq K H s q) (r:Rss CK K H xs es):Rss CK K H (.ref t :: xs) (((k,i,j,p),q) :: es)
section
variable {CK:Kd->Addr} {K:Frag} {H H':Hp}
theorem Rss.same (e:aY H H'):∀{xs:List V} {es:List RE},Rss CK K H xs es->Rss CK K H' xs es
 |_,_,.nil=>.nil
 |_,_,.cons ht h f fs r=>.cons (e.seqT ht) (h.same e) (e.fq f) (e.fq fs) (Rss.same e r)
theorem Rss.length:∀{xs:List V} {es:List RE},Rss CK K H xs es->xs.length=es.length
 |_,_,.nil=>rfl
 |_,_,.cons _ _ _ _ r=>by simp[Rss.length r]
theorem Rss.app:∀{xs ys:List V} {es fs:List RE},Rss CK K H xs es->Rss CK K H ys fs->Rss CK K H (xs++ys) (es++fs)
 |_,_,_,_,.nil,r=>r
 |_,_,_,_,.cons a b c d q,r=>.cons a b c d (Rss.app q r)
theorem Rss.get:∀{xs:List V} {es:List RE} {i:Nat} {x:V},Rss CK K H xs es->xs[i]?=some x->∃(t y z s:Addr) (e:RE),x=.ref t/\es[i]?=some e/\SqT K H t [.ref y,.ref s]/\Rw CK H y e.1.1 (.int e.1.2.1) (.int e.1.2.2.1) (.ref z)/\Fq K H z e.1.2.2.2/\Fq K H s e.2
 |_,_,_,_,.nil,h=>by simp at h
 |_,_,0,_,.cons ht h f fs _,e=>by simp at e;exact⟨_,_,_,_,_,e.symm,rfl,ht,h,f,fs⟩
 |_,_,i+1,_,.cons _ _ _ _ r,e=>by simpa using Rss.get r (by simpa using e)
theorem Rss.upd {l:Addr}{ys:List V}{o:HO}(hl:H l=some (.lst ys)):∀{xs:List V} {es:List RE},Rss CK K H xs es->Rss CK K (L2.upd H l o) xs es
 |_,_,.nil=>.nil
 |_,_,.cons ht h f fs r=>.cons (ht.upd hl) (h.upd hl) (SqT.upd f hl) (SqT.upd fs hl) (Rss.upd hl r)
end
def zF (K:Frag):Sp:=fun vs H Q _=>∃(a:Addr) (xs:List V) (ps:List Q2) (w:Nat),vs=[.ref a]/\SqL K H a xs/\Fqs K H xs ps/\Mq.Pos ps/\Wt ps w/\w+1<=9000/\∀r H',aY H H'->Fq K H' r (tot ps)->Q (.ref r) H'
def tX (K:Frag):Sp:=fun vs H Q _=>∃(a b:Addr) (p q:Q2) (n m:Nat),vs=[.ref a,.ref b]/\Fq K H a p/\Fq K H b q/\1<=p.2/\1<=q.2/\0 < q.1/\Bd n p/\Bd m q/\n+m+1<=9000/\jQ H Q (mU p q)
def wJ (CN:Addr)(K:Frag)(CK:Kd->Addr):Sp:=fun vs H Q _=>∃(n l:Addr) (m:Int) (ds:List RD) (k:Kd),vs=[.ref n,.str k.wd]/\cV CN K H n l m ds/\ds.length<=100/\∀a xs H',aY H H'->H' a=some (.lst xs)->gJ CK K H' xs (eT k ds)->Q (.ref a) H'
section
variable {m n:Nat} {hp:List Q2} {d:RD} {e:RE}
theorem iW {ps:List Q2}{j:Nat}(h:j < ps.length):ps[j]?=some (ps.getD j (0,1)):=by rw[getD_eq_getElem?_getD,getElem?_eq_getElem h];rfl
theorem Ev {B:Nat}(hb:∀s∈hp,Low s/\Bd B s)(hl:hp.length=m)(h:cO (m:Int) d.2.1 d.2.2.1):Low (flF hp d)/\Bd (2*B+1) (flF hp d):=by
 obtain⟨i0,i1,j0,j1⟩:=h;have ai:=hb _ (mem_of_getElem? (iW (ps:=hp) (j:=d.2.1.toNat) (by lia)));have aj:=hb _ (mem_of_getElem? (iW (ps:=hp) (j:=d.2.2.1.toNat) (by lia)));exact⟨cT ai.1.pos aj.1.pos,(iN ai.2 aj.2 ai.1.pos aj.1.pos).mono (by lia)⟩
theorem Vc {A B:Nat}(h1:Low e.1.2.2.2)(b1:Bd A e.1.2.2.2)(h2:Low e.2)(b2:Bd B e.2):Low (gW e)/\Bd (A+2*B) (gW e):=by
 have t:=cP h2.pos h2.pos;exact⟨cP h1.pos t.pos,(eE b1 (eE b2 b2 h2.pos h2.pos) h1.pos t.pos).mono (by lia)⟩
theorem Lj {A B:Nat}(h1:Low e.1.2.2.2)(b1:Bd A e.1.2.2.2)(h2:Low e.2)(b2:Bd B e.2):Low (gH e)/\Bd (A+B) (gH e):=⟨cP h1.pos h2.pos,eE b1 b2 h1.pos h2.pos⟩
theorem Qp {A F:Nat}(h1:Low d.2.2.2)(b1:Bd A d.2.2.2)(h2:Low (flF hp d))(b2:Bd F (flF hp d)):Low (gP hp d)/\Bd (A+F) (gP hp d):=⟨cP h1.pos h2.pos,eE b1 b2 h1.pos h2.pos⟩
end
theorem jX {k:Kd}{l:List RE}{e:RE}(h:e∈fG k l):e∈l/\e.1.1=k:=by
 obtain⟨a,b⟩:=mem_filter.mp h;exact⟨a,of_decide_eq_true b⟩
theorem uC {k:Kd}{l:List RD}{e:RD}(h:e∈eT k l):e∈l/\e.1=k:=by
 obtain⟨a,b⟩:=mem_filter.mp h;exact⟨a,of_decide_eq_true b⟩
theorem iL {α:Type}{l:List α}{g:α->Q2}(h:∀x∈l,Low (g x)):Mq.Pos (l.map g):=fun p hp=>by
 obtain⟨x,hx,rfl⟩:=mem_map.mp hp;exact(h x hx).pos
def rzl (ps:List Q2)(j:Nat)(a:Q2):List Q2:=ps.set j (gY (ps.getD j (0,1)) a)
def jN (M:List (List Q2))(i j:Nat):Q2:=(M.getD i []).getD j (0,1)
def rz (M:List (List Q2))(i j:Nat)(a:Q2):List (List Q2):=M.set i (rzl (M.getD i []) j a)
structure MxB (M:List (List Q2)) (h w n:Nat):Prop where
 h:M.length=h
 w:∀ps∈M,ps.length=w
 l:∀ps∈M,∀p∈ps,Low p/\Bd n p
theorem MxB.mono {M:List (List Q2)}{h w n n':Nat}(b:MxB M h w n)(le:n<=n'):MxB M h w n':=⟨b.h,b.w,fun ps hp p hp'=>⟨(b.l ps hp p hp').1,(b.l ps hp p hp').2.mono le⟩⟩
theorem MxB.row {M:List (List Q2)}{h w n i:Nat}(b:MxB M h w n)(hi:i < h):M[i]?=some (M.getD i [])/\M.getD i []∈M/\(M.getD i []).length=w:=by
 have hi':i < M.length:=by rw[b.h];exact hi
 have e:M.getD i []=M[i]:=by rw[getD_eq_getElem?_getD,getElem?_eq_getElem hi'];rfl
 rw[e];exact⟨getElem?_eq_getElem hi',getElem_mem hi',b.w _ (getElem_mem hi')⟩
theorem MxB.at {M:List (List Q2)}{h w n i j:Nat}(b:MxB M h w n)(hi:i < h)(hj:j < w):(M.getD i [])[j]?=some (jN M i j)/\Low (jN M i j)/\Bd n (jN M i j):=by
 obtain⟨e,m,l⟩:=b.row hi;have hj':j < (M.getD i []).length:=by rw[l];exact hj
 have:=iW hj';exact⟨this,b.l _ m _ (mem_of_getElem? this)⟩
theorem MxB.rz {M:List (List Q2)}{h w n k i j:Nat}{a:Q2}(b:MxB M h w n)(hi:i < h)(hj:j < w)(la:Low a)(ba:Bd k a):MxB (L2.rz M i j a) h w (n+k+1):=by
 obtain⟨e,m,l⟩:=b.row hi;obtain⟨e2,l2,b2⟩:=b.at hi hj;refine⟨by unfold L2.rz;rw[length_set];exact b.h,fun ps hp=>?_,fun ps hp p hp'=>?_⟩
 ·rcases mem_or_eq_of_mem_set hp with z | z
  ·exact b.w ps z
  ·rw[z];unfold rzl;rw[length_set];exact l
 ·rcases mem_or_eq_of_mem_set hp with z | z
  ·have:=b.l ps z p hp';exact⟨this.1,this.2.mono (by lia)⟩
  ·rw[z] at hp';unfold rzl at hp';rcases mem_or_eq_of_mem_set hp' with y | y
   ·have:=b.l _ m p y;exact⟨this.1,this.2.mono (by lia)⟩
   ·rw[y];exact⟨jW l2.pos la.pos,rK b2 ba l2.pos la.pos⟩
theorem yW {M:List (List Q2)}{h w n i j:Nat}{a:Q2}(b:MxB M h w n)(hi:i < h)(hj:j < w)(la:Low a)(x y:Nat):Mq.val (jN (L2.rz M i j a) x y)=Mq.val (jN M x y)+if i=x/\j=y then Mq.val a else 0:=by
 obtain⟨e,m,l⟩:=b.row hi;obtain⟨e2,l2,b2⟩:=b.at hi hj;have hl:i < M.length:=by rw[b.h];exact hi
 unfold jN L2.rz
 by_cases c:i=x
 ·subst c;have e3:(M.set i (rzl (M.getD i []) j a)).getD i []=rzl (M.getD i []) j a:=by rw[getD_eq_getElem?_getD,getElem?_set,if_pos rfl,if_pos hl];rfl
  rw[e3];unfold rzl
  by_cases d:j=y
  ·subst d;have e4:((M.getD i []).set j (gY ((M.getD i []).getD j (0,1)) a)).getD j (0,1)=gY ((M.getD i []).getD j (0,1)) a:=by rw[getD_eq_getElem?_getD,getElem?_set,if_pos rfl,if_pos (by rw[l];exact hj)];rfl
   rw[e4,if_pos ⟨rfl,rfl⟩];exact oN l2.pos la.pos
  ·have e4:((M.getD i []).set j (gY ((M.getD i []).getD j (0,1)) a)).getD y (0,1)=(M.getD i []).getD y (0,1):=by rw[getD_eq_getElem?_getD,getElem?_set,if_neg d,<- getD_eq_getElem?_getD]
   rw[e4,if_neg (fun z=>d z.2),Rat.add_zero]
 ·have e3:(M.set i (rzl (M.getD i []) j a)).getD x []=M.getD x []:=by rw[getD_eq_getElem?_getD,getElem?_set,if_neg c,<- getD_eq_getElem?_getD]
  rw[e3,if_neg (fun z=>c z.1),Rat.add_zero]
structure LnB (R:List Q2) (w n:Nat):Prop where
 w:R.length=w
 l:∀p∈R,Low p/\Bd n p
theorem LnB.mono {R:List Q2}{w n n':Nat}(b:LnB R w n)(le:n<=n'):LnB R w n':=⟨b.w,fun p hp=>⟨(b.l p hp).1,(b.l p hp).2.mono le⟩⟩
theorem LnB.at {R:List Q2}{w n j:Nat}(b:LnB R w n)(hj:j < w):R[j]?=some (R.getD j (0,1))/\Low (R.getD j (0,1))/\Bd n (R.getD j (0,1)):=by
 have hj':j < R.length:=by rw[b.w];exact hj
 have:=iW hj';exact⟨this,b.l _ (mem_of_getElem? this)⟩
theorem LnB.set {R:List Q2}{w n j:Nat}{q:Q2}(b:LnB R w n)(lq:Low q)(bq:Bd n q):LnB (R.set j q) w n:=⟨by rw[length_set];exact b.w,fun p hp=>by
 rcases mem_or_eq_of_mem_set hp with z | z
 ·exact b.l p z
 ·rw[z];exact⟨lq,bq⟩⟩
theorem LnB.rz {R:List Q2}{w n k j:Nat}{a:Q2}(b:LnB R w n)(hj:j < w)(la:Low a)(ba:Bd k a):LnB (rzl R j a) w (n+k+1):=by
 obtain⟨_,l2,b2⟩:=b.at hj;exact(b.mono (by lia)).set (jW l2.pos la.pos) (rK b2 ba l2.pos la.pos)
theorem vC {R:List Q2}{j y:Nat}{q:Q2}(hj:j < R.length):(R.set j q).getD y (0,1)=if j=y then q else R.getD y (0,1):=by
 rw[getD_eq_getElem?_getD,getElem?_set]
 by_cases e:j=y
 ·rw[if_pos e,if_pos e,if_pos (by lia)];rfl
 ·rw[if_neg e,if_neg e,<- getD_eq_getElem?_getD]
theorem Gf {R:List Q2}{w n j:Nat}{a:Q2}(b:LnB R w n)(hj:j < w)(la:Low a)(y:Nat):Mq.val ((rzl R j a).getD y (0,1))=Mq.val (R.getD y (0,1))+if j=y then Mq.val a else 0:=by
 obtain⟨_,l2,b2⟩:=b.at hj;unfold rzl;rw[vC (by rw[b.w];exact hj)]
 by_cases d:j=y
 ·subst d;rw[if_pos rfl,if_pos rfl];exact oN l2.pos la.pos
 ·rw[if_neg d,if_neg d,Rat.add_zero]
def SX (as:List Addr)(H H':Hp):Prop:=∀b o,H b=some o->b∉as->H' b=some o
theorem aY.sx {as:List Addr}{H H':Hp}(s:aY H H'):SX as H H':=fun b o e _=>s b o e
theorem SX.trans {as:List Addr}{H H1 H2:Hp}(a:SX as H H1)(b:SX as H1 H2):SX as H H2:=fun c o h n=>b c o (a c o h n) n
theorem SX.write {as:List Addr}{H H1:Hp}{l:Addr}{o:HO}(a:SX as H H1)(hl:l∈as):SX as H (upd H1 l o):=fun c u h n=>by rw[aW (fun z=>n (by rw[z];exact hl))];exact a c u h n
theorem SX.mono {as bs:List Addr}{H H':Hp}(a:SX as H H')(h:∀x∈as,x∈bs):SX bs H H':=fun c o e n=>a c o e fun z=>n (h c z)
theorem SX.same {as:List Addr}{H0 H H':Hp}(s:aY H0 H)(a:SX as H H')(h:∀x∈as,H0 x=none):aY H0 H':=fun c o e=>a c o (s c o e) fun z=>by rw[h c z] at e;cases e
def Sy (as:List Addr)(H:Hp):Prop:=∀a∈as,∃xs,H a=some (.lst xs)
theorem SX.seqT {K:Frag}{as:List Addr}{H H':Hp}(hl:Sy as H)(e:SX as H H'){a:Addr}{xs:List V}(h:SqT K H a xs):SqT K H' a xs:=by
 have nx:∀{o:HO},H a=some o->(∀ys,o≠.lst ys)->a∉as:=fun ho n z=>by
  obtain⟨ys,hy⟩:=hl a z;rw[hy] at ho;exact n ys (Option.some.inj ho).symm
 rcases h with (h | ⟨u,h⟩) | h
 ·exact .inl (.inl (e _ _ h (nx h fun ys z=>by cases z)))
 ·exact .inl (.inr ⟨u,e _ _ h (nx h fun ys z=>by cases z)⟩)
 ·exact .inr h
theorem SX.rw {CK:Kd->Addr}{as:List Addr}{H H':Hp}(hl:Sy as H)(e:SX as H H'){x:Addr}{k:Kd}{s g z:V}(h:Rw CK H x k s g z):Rw CK H' x k s g z:=by
 obtain⟨dx,q⟩:=h;refine⟨dx,e _ _ q fun y=>?_⟩;obtain⟨ys,hy⟩:=hl x y;rw[hy] at q;cases q
theorem SX.fqs {K:Frag}{as:List Addr}{H H':Hp}(hl:Sy as H)(e:SX as H H'):∀{xs:List V} {ps:List Q2},Fqs K H xs ps->Fqs K H' xs ps
 |_,_,.nil=>.nil
 |_,_,.cons f q=>.cons (e.seqT hl f) (SX.fqs hl e q)
structure Mx (K:Frag) (H:Hp) (D:Addr) (as:List Addr) (M:List (List Q2)):Prop where
 d:H D=some (.lst (as.map V.ref))
 n:as.Nodup
 nd:D∉as
 la:as.length=M.length
 r:∀(i:Nat) (a:Addr) (ps:List Q2),as[i]?=some a->M[i]?=some ps->∃xs,H a=some (.lst xs)/\Fqs K H xs ps
theorem Mx.lsts {K:Frag}{H:Hp}{D:Addr}{as:List Addr}{M:List (List Q2)}(m:Mx K H D as M):Sy as H:=fun a ha=>by
 obtain⟨i,hi⟩:=getElem?_of_mem ha;have il:=(List.getElem?_eq_some_iff.mp hi).1;have il':i < M.length:=by rw[<- m.la];exact il
 obtain⟨xs,h,_⟩:=m.r i a M[i] hi (getElem?_eq_getElem il');exact⟨xs,h⟩
theorem Mx.same {K:Frag}{H H':Hp}{D:Addr}{as:List Addr}{M:List (List Q2)}(s:aY H H')(m:Mx K H D as M):Mx K H' D as M:=⟨s _ _ m.d,m.n,m.nd,m.la,fun i a ps h1 h2=>by
 obtain⟨xs,h,f⟩:=m.r i a ps h1 h2;exact⟨xs,s _ _ h,f.same s⟩⟩
theorem Mx.other {K:Frag}{H:Hp}{D l:Addr}{as:List Addr}{M:List (List Q2)}{ys:List V}{o:HO}(m:Mx K H D as M)(hl:H l=some (.lst ys))(n1:l≠D)(n2:l∉as):Mx K (upd H l o) D as M:=⟨by rw[aW (Ne.symm n1)];exact m.d,m.n,m.nd,m.la,fun i a ps h1 h2=>by
 obtain⟨xs,h,f⟩:=m.r i a ps h1 h2;exact⟨xs,by rw[aW (fun z=>n2 (by rw[<- z];exact mem_of_getElem? h1))];exact h,f.upd hl⟩⟩
theorem Mx.set {K:Frag}{H H1:Hp}{D a v:Addr}{as:List Addr}{M:List (List Q2)}{i j:Nat}{ps:List Q2}{xs:List V}{q:Q2}(m:Mx K H D as M)(ha:as[i]?=some a)(hp:M[i]?=some ps)(hx:H a=some (.lst xs))(hF:Fqs K H xs ps)(s:aY H H1)(fv:Fq K H1 v q):Mx K (upd H1 a (.lst (xs.set j (.ref v)))) D as (M.set i (ps.set j q))/\SX as H (upd H1 a (.lst (xs.set j (.ref v)))):=by
 have ma:=mem_of_getElem? ha;have hx1:=s _ _ hx;have il:=(List.getElem?_eq_some_iff.mp ha).1;refine⟨⟨?_,m.n,m.nd,by rw[length_set];exact m.la,fun k b qs h1 h2=>?_⟩,s.sx.write ma⟩
 ·rw[aW (fun z=>m.nd (by rw[z];exact ma))];exact s _ _ m.d
 ·rw[getElem?_set] at h2
  by_cases c:i=k
  ·subst c;rw[ha] at h1;have h1:a=b:=Option.some.inj h1;subst h1;rw[if_pos rfl] at h2;split at h2
   ·have h2:ps.set j q=qs:=Option.some.inj h2;rw[<- h2];exact⟨_,aE,(Fqs.set fv j (hF.same s)).upd hx1⟩
   ·cases h2
  ·rw[if_neg c] at h2;obtain⟨ys,hy,fy⟩:=m.r k b qs h1 h2;have nb:b≠a:=fun z=>by
    subst z;have kl:=(List.getElem?_eq_some_iff.mp h1).1;have e1:as[i]'il=b:=(List.getElem?_eq_some_iff.mp ha).2;have e2:as[k]'kl=b:=(List.getElem?_eq_some_iff.mp h1).2;exact c ((getElem_inj m.n).mp (e1.trans e2.symm))
   exact⟨ys,by rw[aW nb];exact s _ _ hy,(fy.same s).upd hx1⟩
def bL (k:Kd):Nat:=if k=.ho then 1 else 0
def en (M:List (List Q2))(d:RD)(c:Nat)(a:Q2):List (List Q2):=rz (rz M d.2.1.toNat c a) d.2.2.1.toNat c (Mq.minus (0,1) a)
def dl (s g x:Nat):Rat:=(if s=x then 1 else 0) - (if g=x then 1 else 0)
def cM (d:RD)(h x y:Nat):Rat:=match d.1 with
 | .pc=>dl d.2.1.toNat d.2.2.1.toNat x*dl d.2.1.toNat d.2.2.1.toNat y*(1 / Mq.val d.2.2.2)
 | .pu=>0
 | .ho=>dl d.2.1.toNat d.2.2.1.toNat x*(if h=y then 1 else 0)+(if h=x then 1 else 0)*dl d.2.1.toNat d.2.2.1.toNat y
def cR (d:RD)(h x:Nat):Rat:=match d.1 with
 | .pc=>0
 | .pu=>- dl d.2.1.toNat d.2.2.1.toNat x*Mq.val d.2.2.2
 | .ho=>if h=x then Mq.val d.2.2.2 else 0
def eqM:Nat->List RD->Nat->Nat->Rat
 |_,[],_,_=>0
 |h,d :: ds,x,y=>cM d h x y+eqM (h+bL d.1) ds x y
def eqR:Nat->List RD->Nat->Rat
 |_,[],_=>0
 |h,d :: ds,x=>cR d h x+eqR (h+bL d.1) ds x
def bG (ds:List RD):Nat:=(eT .ho ds).length
theorem iD (ds:List RD)(d:RD):bG (ds++[d])=bG ds+bL d.1:=by
 unfold bG bL;rw[pN];split
 ·rw[List.length_append];rfl
 ·rfl
theorem cY (d:RD)(ds:List RD):bG (d :: ds)=bL d.1+bG ds:=by
 unfold bG bL eT
 by_cases h:d.1=.ho
 ·rw[filter_cons_of_pos (by exact decide_eq_true h),if_pos h,length_cons];lia
 ·rw[filter_cons_of_neg (by simp[h]),if_neg h];lia
theorem Bx (d:RD)(x y:Nat):∀(ds:List RD) (h:Nat),eqM h (ds++[d]) x y=eqM h ds x y+cM d (h+bG ds) x y
 | [],h=>by show cM d h x y+0=0+cM d (h+0) x y;rw[Nat.add_zero];grind
 |e :: ds,h=>by
  show cM e h x y+eqM (h+bL e.1) (ds++[d]) x y=cM e h x y+eqM (h+bL e.1) ds x y+_;rw[Bx d x y ds,cY,Nat.add_assoc];grind
theorem Cb (d:RD)(x:Nat):∀(ds:List RD) (h:Nat),eqR h (ds++[d]) x=eqR h ds x+cR d (h+bG ds) x
 | [],h=>by show cR d h x+0=0+cR d (h+0) x;rw[Nat.add_zero];grind
 |e :: ds,h=>by
  show cR e h x+eqR (h+bL e.1) (ds++[d]) x=cR e h x+eqR (h+bL e.1) ds x+_;rw[Cb d x ds,cY,Nat.add_assoc];grind
theorem jK:Low (1,1):=⟨by decide,by decide⟩
theorem kK {a:Q2}{k:Nat}(la:Low a)(ba:Bd k a):Low (Mq.minus (0,1) a)/\Bd (k+2) (Mq.minus (0,1) a)/\Mq.val (Mq.minus (0,1) a)=- Mq.val a:=by
 have h01:1<=((0,1):Q2).2:=by decide
 have b01:Bd 1 (0,1):=⟨show (0:Nat) < 2 ^ 1 by decide,show (1:Nat) < 2 ^ 1 by decide⟩
 refine⟨cT h01 la.pos,(iN b01 ba h01 la.pos).mono (by lia),?_⟩;rw[eX h01 la.pos,kU];grind
theorem Bp {M:List (List Q2)}{h w n k c:Nat}{d:RD}{a:Q2}(b:MxB M h w n)(pt:cO (h:Int) d.2.1 d.2.2.1)(hc:c < w)(la:Low a)(ba:Bd k a):MxB (en M d c a) h w (n+2*k+4)/\∀x y,Mq.val (jN (en M d c a) x y)=Mq.val (jN M x y)+dl d.2.1.toNat d.2.2.1.toNat x*(if c=y then 1 else 0)*Mq.val a:=by
 obtain⟨i0,i1,j0,j1⟩:=pt;obtain⟨ln,bn,vn⟩:=kK la ba;have b1:=b.rz (i:=d.2.1.toNat) (by lia) hc la ba;have b2:=b1.rz (i:=d.2.2.1.toNat) (by lia) hc ln bn;refine⟨b2.mono (by lia),fun x y=>?_⟩;unfold en;rw[yW b1 (by lia) hc ln,yW b (by lia) hc la,vn];unfold dl
 by_cases c1:d.2.1.toNat=x<;>by_cases c2:d.2.2.1.toNat=x<;>by_cases c3:c=y<;>simp only[c1,c2,c3,true_and,and_true,false_and,and_false,and_self,if_true,if_false]<;>grind
def hM (M:List (List Q2))(d:RD)(c:Nat):List (List Q2):=rz (rz (en M d c (1,1)) c d.2.1.toNat (1,1)) c d.2.2.1.toNat (Mq.minus (0,1) (1,1))
def pM (M:List (List Q2))(d:RD):List (List Q2):=en (en M d d.2.1.toNat (mU (1,1) d.2.2.2)) d d.2.2.1.toNat (Mq.minus (0,1) (mU (1,1) d.2.2.2))
def pR (rs:List Q2)(d:RD):List Q2:=rzl (rzl rs d.2.1.toNat (Mq.minus (0,1) d.2.2.2)) d.2.2.1.toNat d.2.2.2
theorem iX:Bd 1 (1,1):=⟨show (1:Nat) < 2 ^ 1 by decide,show (1:Nat) < 2 ^ 1 by decide⟩
theorem h11:1<=((1,1):Q2).2:=by decide
theorem Ax {p:Q2}{k:Nat}(l:Low p)(h0:0 < p.1)(b:Bd k p):Low (mU (1,1) p)/\Bd (k+1) (mU (1,1) p)/\Mq.val (mU (1,1) p)=1 / Mq.val p:=by
 refine⟨pA h11 (by lia),(rL iX b h11 (by lia)).mono (by lia),?_⟩;rw[sM h11 l.pos (by lia),Vk]
theorem qf5 {M:List (List Q2)}{w n k m h:Nat}{d:RD}(b:MxB M w w n)(pt:cO (m:Int) d.2.1 d.2.2.1)(hm:m<=w)(hk:d.1=.pc)(l:Low d.2.2.2)(h0:0 < d.2.2.2.1)(bk:Bd k d.2.2.2):MxB (pM M d) w w (n+4*k+20)/\∀x y,Mq.val (jN (pM M d) x y)=Mq.val (jN M x y)+cM d h x y:=by
 obtain⟨i0,i1,j0,j1⟩:=pt;obtain⟨ls,bs,vs⟩:=Ax l h0 bk;obtain⟨ln,bn,vn⟩:=kK ls bs;have pt':cO (w:Int) d.2.1 d.2.2.1:=⟨i0,by lia,j0,by lia⟩
 obtain⟨b1,v1⟩:=Bp b pt' (c:=d.2.1.toNat) (by lia) ls bs;obtain⟨b2,v2⟩:=Bp b1 pt' (c:=d.2.2.1.toNat) (by lia) ln bn;refine⟨b2.mono (by lia),fun x y=>?_⟩;unfold pM;rw[v2,v1,vn,vs];unfold cM;rw[hk];show _=_+dl d.2.1.toNat d.2.2.1.toNat x*dl d.2.1.toNat d.2.2.1.toNat y*(1 / Mq.val d.2.2.2)
 generalize 1 / Mq.val d.2.2.2=v;generalize dl d.2.1.toNat d.2.2.1.toNat x=u;unfold dl
 by_cases c1:d.2.1.toNat=y<;>by_cases c2:d.2.2.1.toNat=y<;>simp only[c1,c2,if_true,if_false]<;>grind
theorem qc7 {M:List (List Q2)}{w n m c:Nat}{d:RD}(b:MxB M w w n)(pt:cO (m:Int) d.2.1 d.2.2.1)(hm:m<=w)(hc:c < w)(hk:d.1=.ho):MxB (hM M d c) w w (n+20)/\∀x y,Mq.val (jN (hM M d c) x y)=Mq.val (jN M x y)+cM d c x y:=by
 obtain⟨i0,i1,j0,j1⟩:=pt;have pt':cO (w:Int) d.2.1 d.2.2.1:=⟨i0,by lia,j0,by lia⟩
 obtain⟨ln,bn,vn⟩:=kK jK iX;obtain⟨b1,v1⟩:=Bp b pt' hc jK iX;have b2:=b1.rz (i:=c) (j:=d.2.1.toNat) hc (by lia) jK iX;have b3:=b2.rz (i:=c) (j:=d.2.2.1.toNat) hc (by lia) ln bn;refine⟨b3.mono (by lia),fun x y=>?_⟩;unfold hM;rw[yW b2 hc (by lia) ln,yW b1 hc (by lia) jK,v1,vn,Vk];unfold cM;rw[hk];show _=_+(dl d.2.1.toNat d.2.2.1.toNat x*(if c=y then 1 else 0)+(if c=x then 1 else 0)*dl d.2.1.toNat d.2.2.1.toNat y)
 generalize dl d.2.1.toNat d.2.2.1.toNat x=u;unfold dl
 by_cases c1:d.2.1.toNat=y<;>by_cases c2:d.2.2.1.toNat=y<;>by_cases c3:c=x<;>by_cases c4:c=y<;>simp only[c1,c2,c3,c4,true_and,and_true,false_and,and_false,and_self,if_true,if_false]<;>grind
theorem qa4 {rs:List Q2}{w n k m h:Nat}{d:RD}(b:LnB rs w n)(pt:cO (m:Int) d.2.1 d.2.2.1)(hm:m<=w)(hk:d.1=.pu)(l:Low d.2.2.2)(bk:Bd k d.2.2.2):LnB (pR rs d) w (n+4*k+20)/\∀x,Mq.val ((pR rs d).getD x (0,1))=Mq.val (rs.getD x (0,1))+cR d h x:=by
 obtain⟨i0,i1,j0,j1⟩:=pt;obtain⟨ln,bn,vn⟩:=kK l bk;have b1:=b.rz (j:=d.2.1.toNat) (by lia) ln bn;have b2:=b1.rz (j:=d.2.2.1.toNat) (by lia) l bk;refine⟨b2.mono (by lia),fun x=>?_⟩;unfold pR;rw[Gf b1 (by lia) l,Gf b (by lia) ln,vn];unfold cR;rw[hk];show _=_ + - dl d.2.1.toNat d.2.2.1.toNat x*Mq.val d.2.2.2;unfold dl
 by_cases c1:d.2.1.toNat=x<;>by_cases c2:d.2.2.1.toNat=x<;>simp only[c1,c2,if_true,if_false]<;>grind
theorem wP {m:Nat}:∀(ds:List RD) (h x:Nat),(∀d∈ds,cO (m:Int) d.2.1 d.2.2.1)->m<=h->h+bG ds<=x->eqR h ds x=0
 | [],_,_,_,_,_=>rfl
 |d :: ds,h,x,pt,hm,hx=>by
  rw[cY] at hx;have ih:=wP ds (h+bL d.1) x (fun e he=>pt e (mem_cons_of_mem _ he)) (by lia) (by lia);obtain⟨i0,i1,j0,j1⟩:=pt d (by simp);show cR d h x+eqR (h+bL d.1) ds x=0;rw[ih];have z:dl d.2.1.toNat d.2.2.1.toNat x=0:=by unfold dl;rw[if_neg (by lia),if_neg (by lia)];grind
  unfold cR
  cases hk:d.1 with
  |pc=>show (0:Rat)+0=0;grind
  |pu=>show - dl d.2.1.toNat d.2.2.1.toNat x*Mq.val d.2.2.2+0=0;rw[z];grind
  |ho=>
   have:bL d.1=1:=by unfold bL;rw[if_pos hk]
   show (if h=x then Mq.val d.2.2.2 else 0)+0=0;rw[if_neg (by lia)];grind
theorem qc3 {rs:List Q2}{w n k m c:Nat}{d:RD}(b:LnB rs w n)(hc:c < w)(hk:d.1=.ho)(l:Low d.2.2.2)(bk:Bd k d.2.2.2)(h0:Mq.val (rs.getD c (0,1))=0):LnB (rs.set c d.2.2.2) w (n+k)/\∀x,Mq.val ((rs.set c d.2.2.2).getD x (0,1))=Mq.val (rs.getD x (0,1))+cR d c x:=by
 refine⟨(b.mono (by lia)).set l (bk.mono (by lia)),fun x=>?_⟩;rw[vC (by rw[b.w];exact hc)];unfold cR;rw[hk];show _=_+if c=x then Mq.val d.2.2.2 else 0
 by_cases e:c=x
 ·subst e;rw[if_pos rfl,if_pos rfl,h0];grind
 ·rw[if_neg e,if_neg e];grind
def qU (K:Frag):Sp:=fun vs H Q _=>∃(l z:Addr) (j:Nat) (xs:List V) (ps:List Q2) (a:Q2) (n m:Nat),vs=[.ref l,.int (j:Int),.ref z]/\H l=some (.lst xs)/\Fqs K H xs ps/\j < ps.length/\1<=(ps.getD j (0,1)).2/\Bd n (ps.getD j (0,1))/\Fq K H z a/\1<=a.2/\Bd m a/\n+m+1<=9000/\∀v H1,aY H H1->Fq K H1 v (gY (ps.getD j (0,1)) a)->Q .non (upd H1 l (.lst (xs.set j (.ref v))))
def xU (K:Frag)(CK:Kd->Addr):Sp:=fun vs H Q _=>∃(D x z:Addr) (zz:V) (as:List Addr) (M:List (List Q2)) (d:RD) (w n k c:Nat) (a:Q2),vs=[.ref D,.ref x,.int (c:Int),.ref z]/\Mx K H D as M/\MxB M w w n/\Rw CK H x d.1 (.int d.2.1) (.int d.2.2.1) zz/\cO (w:Int) d.2.1 d.2.2.1/\c < w/\Fq K H z a/\Low a/\Bd k a/\n+2*k+4<=9000/\∀H',SX as H H'->Mx K H' D as (en M d c a)->Q .non H'
def Bu (K:Frag)(CK:Kd->Addr):Sp:=fun vs H Q _=>∃(D x zz:Addr) (as:List Addr) (M:List (List Q2)) (d:RD) (w n k:Nat),vs=[.ref D,.ref x]/\Mx K H D as M/\MxB M w w n/\Rw CK H x d.1 (.int d.2.1) (.int d.2.2.1) (.ref zz)/\Fq K H zz d.2.2.2/\cO (w:Int) d.2.1 d.2.2.1/\Low d.2.2.2/\0 < d.2.2.2.1/\Bd k d.2.2.2/\n+4*k+20<=9000/\∀H',SX as H H'->Mx K H' D as (pM M d)->Q .non H'
def zX (K:Frag)(CK:Kd->Addr):Sp:=fun vs H Q _=>∃(D R x zz:Addr) (as:List Addr) (M:List (List Q2)) (ys:List V) (rs:List Q2) (d:RD) (w n c:Nat),vs=[.ref D,.ref R,.ref x,.int (c:Int)]/\Mx K H D as M/\MxB M w w n/\H R=some (.lst ys)/\Fqs K H ys rs/\rs.length=w/\R≠D/\R∉as/\Rw CK H x d.1 (.int d.2.1) (.int d.2.2.1) (.ref zz)/\Fq K H zz d.2.2.2/\cO (w:Int) d.2.1 d.2.2.1/\c < w/\n+20<=9000/\∀ys' H',SX (R :: as) H H'->Mx K H' D as (hM M d c)->H' R=some (.lst ys')->Fqs K H' ys' (rs.set c d.2.2.2)->Q .non H'
structure Fms (K:Frag) (H0 H:Hp) (us:List V) (X:List (List Q2)):Prop where
 l:us.length=X.length
 r:∀(i:Nat) (x:V) (ps:List Q2),us[i]?=some x->X[i]?=some ps->∃(a:Addr) (xs:List V),x=.ref a/\H0 a=none/\H a=some (.lst xs)/\Fqs K H xs ps
structure zV (m:Nat) (ds:List RD) (N:Nat) (X:List (List Q2)) (Y:List Q2):Prop where
 x:MxB X (m - 1+bG ds) (m - 1+bG ds) N
 y:LnB Y (m - 1+bG ds) N
 vx:∀i j,Mq.val (jN X i j)=eqM m ds (i+1) (j+1)
 vy:∀i,Mq.val (Y.getD i (0,1))=eqR m ds (i+1)
def jT (wb:Nat->Nat):Nat->Nat
 |0=>0
 |i+1=>jT wb i+wb i
theorem xF (wb:Nat->Nat){i:Nat}:∀{j:Nat},i<=j->jT wb i<=jT wb j
 |0,h=>by rw[Nat.le_zero.mp h];exact Nat.le_refl _
 |j+1,h=>by
  rcases Nat.eq_or_lt_of_le h with z | z
  ·rw[z];exact Nat.le_refl _
  ·have:=xF wb (i:=i) (j:=j) (by lia);show _<=jT wb j+wb j;lia
def vK (K:Frag)(CK:Kd->Addr):Sp:=fun vs H Q _=>∃(R x zz:Addr) (ys:List V) (rs:List Q2) (d:RD) (w n k:Nat),vs=[.ref R,.ref x]/\H R=some (.lst ys)/\Fqs K H ys rs/\LnB rs w n/\Rw CK H x d.1 (.int d.2.1) (.int d.2.2.1) (.ref zz)/\Fq K H zz d.2.2.2/\cO (w:Int) d.2.1 d.2.2.1/\Low d.2.2.2/\Bd k d.2.2.2/\n+2*k+10<=9000/\∀ys' H',SX [R] H H'->H' R=some (.lst ys')->Fqs K H' ys' (pR rs d)->Q .non H'
theorem Wc {rs:List Q2}{w n k m h:Nat}{d:RD}(b:LnB rs w n)(pt:cO (m:Int) d.2.1 d.2.2.1)(hm:m<=w)(hk:d.1=.pu)(l:Low d.2.2.2)(bk:Bd k d.2.2.2):LnB (pR rs d) w (n+2*k+10)/\∀x,Mq.val ((pR rs d).getD x (0,1))=Mq.val (rs.getD x (0,1))+cR d h x:=by
 refine⟨?_,(qa4 b pt hm hk l bk).2⟩;obtain⟨i0,i1,j0,j1⟩:=pt;obtain⟨ln,bn,vn⟩:=kK l bk;have b1:=b.rz (j:=d.2.1.toNat) (by lia) ln bn;have b2:=b1.rz (j:=d.2.2.1.toNat) (by lia) l bk;exact LnB.mono b2 (by lia)
structure RwW (m:Nat) (k w:Nat) (d:RD):Prop where
 ok:qM (m:Int) d
 bd:Bd k d.2.2.2
 pu:d.1=.pu->2*k+10<=w
 ot:d.1≠.pu->4*k+20<=w
def Pp (CN:Addr)(K:Frag):Sp:=fun vs H Q _=>∃(n l:Addr) (m:Nat) (kb wb:Nat->Nat) (ds:List RD),vs=[.ref n]/\cV CN K H n l (m:Int) ds/\(∀i d,ds[i]?=some d->RwW m (kb i) (wb i) d)/\1<=m/\m<=20/\ds.length<=40/\jT wb ds.length+30<=8900/\
 ∀t p r us ys X Y H',aY H H'->H' t=some (.tup [.ref p,.ref r])->H p=none->H r=none->H' p=some (.lst us)->H' r=some (.lst ys)->Fms K H H' us X->Fqs K H' ys Y->(∀x∈us,x≠.ref p/\x≠.ref r)->zV m ds (jT wb ds.length+1) X Y->Q (.ref t) H'
def Tv (ta:TA):TE:=fun σ H Q=>ta σ H fun vs H1=>∃n:Nat,vs=[.int (n:Int)]/\n<=1000/\∀l,H1 l=none->Q (.ref l) (upd H1 l (.lst ((List.range n).map fun (i:Nat)=>V.int (i:Int))))
theorem tY:∀{n:Nat} {acc:List Value},acc.length=n->(∀(j:Nat) (v:Value),acc[j]?=some v->∃t,v=Value.int (j:Int) t)->bZ ((List.range n).map fun (i:Nat)=>V.int (i:Int)) acc
 |0,[],_,_=>.nil
 |n+1,acc,hl,h=>by
  have e:acc=acc.take n++[acc[n]'(by lia)]:=by
   have h1:acc.take (n+1)=acc:=take_of_length_le (by lia);have h2:acc.take (n+1)=acc.take n++[acc[n]'(by lia)]:=by rw[take_add_one,getElem?_eq_getElem (by lia)];rfl
   rw[h1] at h2;exact h2
  rw[range_succ,map_append,e];refine bZ.append (tY (by rw[length_take];lia) fun j v hj=>?_) (.cons ?_ .nil)
  ·have hjn:j < n:=by
    have:=(List.getElem?_eq_some_iff.mp hj).1;rw[length_take] at this;lia
   rw[getElem?_take,if_pos hjn] at hj;exact h j v hj
  ·obtain⟨t,ht⟩:=h n _ (getElem?_eq_getElem (by lia));rw[ht];exact⟨t,rfl⟩
section
variable {X:Cx} {a:Expr} {p p2 pos pos2:Pos} {ta:TA}
theorem xZ (hc:X.calm=true)(hgl:Gl X "list")(hml:X.mg "list"=none)(hg:Gl X "range")(hm:X.mg "range"=none)(ha:PA X [a] ta)(hs:starEach [a] X.env=[(false,eval a X.env)]:=by rfl)(he:starEach [.Call (.Name "range" p2) [a] [] pos2] X.env=(false,eval (.Call (.Name "range" p2) [a] [] pos2) X.env) :: starEach [] X.env:=by rfl)(hpl:(backTo pos (starEach [] X.env)).any (·.1)=false:=by rfl) :
  PE X (.Call (.Name "list" p) [.Call (.Name "range" p2) [a] [] pos2] [] pos) (Tv ta):=by
 intro pins s σ H Q I h;refine wpAny_Call_Name_kw (kD I hgl hml PyProof.Rows.boot_list ?_);refine PyProof.Rows.callWith_type1 ?_ he hpl;rw[he];show wpAny _ _ (spliced ((false,eval (.Call (.Name "range" p2) [a] [] pos2) X.env) :: backTo pos (starEach [] X.env))) _ _ s;refine Calls.spliced_cons ?_;refine wpAny_Call_Name_kw (kD I hg hm boot_range (PyProof.Rows.callWith_type1 (thn (ha pos2 pins s σ H _ I h) fun us s1 ⟨vs,H1,I1,r1,q1⟩=>?_) hs rfl));obtain⟨n,e,hn,q⟩:=q1;subst e
 cases r1 with
 |cons r rr=>
  cases rr
  obtain⟨t,rfl⟩:=r;refine call_range_1 ?_;refine Calls.spliced_nil ?_;have I2:∀(ob:Obj) (tk:Nat),Inv X pins σ H1 { s1 with heap:=s1.heap.push ob,toks:=tk }:=fun ob tk=>I1.kept (t':=tk) (fun b ob e=>Heap.get?_push_of_some _ e);have hn24:(n:Nat)<=2 ^ 24:=by lia
  refine call_list_range (n:=n) (I1.ok.hd hc) (IsRange.new ..) (small_one (by lia) (by lia) (by lia) (by lia)) (by rw[rangeSize_one];split<;>lia) hn24 (fun h' tk acc' c' kp e items=>?_);have rl:bZ ((List.range n).map fun (i:Nat)=>V.int (i:Int)) acc'.toList:=tY (by rw[Array.length_toList];exact items.1) (fun j v hj=>by
   obtain⟨t,ht⟩:=items.2 j v (by rw[<- Array.getElem?_toList];exact hj);exact⟨t,by rw[ht];congr 1;lia⟩)
  have hz:((List.range n).map fun (i:Nat)=>V.int (i:Int)).length<=sizeLine:=by rw[length_map,length_range,sizeLine_eq];lia
  exact⟨.ref _,_,(I2 _ _).laid (t':=tk) kp (Nat.le_refl _) (show dX X.prog X.w _ h' _ (.lst ((List.range n).map fun (i:Nat)=>V.int (i:Int))) from ⟨hz,acc'.toList,c',rl,e⟩),rfl,q _ ((I2 _ _).hok.fresh (Nat.le_refl _))⟩
end
def jn (ms:List Int)(s g:Nat):List Int:=ms.map fun x=>if x=ms.getD g 0 then ms.getD s 0 else x
def Jo (m:Nat):List Int:=(List.range m).map fun (i:Nat)=>(i:Int)
def iU (ms:List Int)(d:RD):List Int:=if d.1=.pu then ms else jn ms d.2.1.toNat d.2.2.1.toNat
def mks (m:Nat)(ds:List RD):List Int:=ds.foldl iU (Jo m)
def mk (m:Nat)(ds:List RD)(p:Nat):Int:=(mks m ds).getD p 0
theorem oU (m:Nat)(ds:List RD)(d:RD):mks m (ds++[d])=iU (mks m ds) d:=by unfold mks;rw[foldl_append];rfl
theorem Ie (ms:List Int)(d:RD):(iU ms d).length=ms.length:=by
 unfold iU;split
 ·rfl
 ·unfold jn;rw[length_map]
theorem wF:∀(ds:List RD) (ms:List Int),(ds.foldl iU ms).length=ms.length
 | [],_=>rfl
 |d :: ds,ms=>by show (ds.foldl iU (iU ms d)).length=_;rw[wF ds,Ie]
theorem oT (m:Nat)(ds:List RD):(mks m ds).length=m:=by unfold mks Jo;rw[wF,length_map,length_range]
theorem Oh {ms:List Int}{f:Int->Int}{p:Nat}(h:p < ms.length):(ms.map f).getD p 0=f (ms.getD p 0):=by
 rw[getD_eq_getElem?_getD,getElem?_map,getD_eq_getElem?_getD,getElem?_eq_getElem h];rfl
theorem Kn {m p:Nat}(h:p < m):mk m [] p=(p:Int):=by
 show (Jo m).getD p 0=_;unfold Jo;rw[getD_eq_getElem?_getD,getElem?_map,getElem?_range h];rfl
theorem rG {m:Nat}{ds:List RD}{d:RD}(hk:d.1=.pu)(p:Nat):mk m (ds++[d]) p=mk m ds p:=by
 unfold mk;rw[oU];unfold iU;rw[if_pos hk]
theorem rF {m:Nat}{ds:List RD}{d:RD}(hk:d.1≠.pu){p:Nat}(hp:p < m):mk m (ds++[d]) p=if mk m ds p=mk m ds d.2.2.1.toNat then mk m ds d.2.1.toNat else mk m ds p:=by
 unfold mk;rw[oU];unfold iU;rw[if_neg hk];unfold jn;rw[Oh (by rw[oT];exact hp)]
inductive Cn (ds:List RD):Nat->Nat->Prop where
 |refl (p:Nat):Cn ds p p
 |row {d:RD} (h:d∈ds) (hk:d.1≠.pu):Cn ds d.2.1.toNat d.2.2.1.toNat
 |symm {p q:Nat} (h:Cn ds p q):Cn ds q p
 |trans {p q r:Nat} (h:Cn ds p q) (g:Cn ds q r):Cn ds p r
theorem Cn.mono {ds es:List RD}(h:∀d∈ds,d∈es){p q:Nat}(c:Cn ds p q):Cn es p q:=by
 induction c with
 |refl p=>exact .refl p
 |row hd hk=>exact .row (h _ hd) hk
 |symm _ ih=>exact .symm ih
 |trans _ _ a b=>exact .trans a b
theorem Ab {m:Nat}:∀(n:Nat) (ds:List RD),ds.length=n->(∀d∈ds,cO (m:Int) d.2.1 d.2.2.1)->∀p q,p < m->q < m->mk m ds p=mk m ds q->Cn ds p q
 |0,ds,hl,_,p,q,hp,hq,e=>by
  have:ds=[]:=length_eq_zero_iff.mp hl;subst this;rw[Kn hp,Kn hq] at e;have:p=q:=by lia
  subst this;exact .refl p
 |n+1,ds,hl,pt,p,q,hp,hq,e=>by
  obtain⟨es,d,rfl⟩:∃es d,ds=es++[d]:=⟨ds.dropLast,ds.getLast (by intro z;rw[z] at hl;cases hl),(dropLast_concat_getLast _).symm⟩
  have le:es.length=n:=by rw[List.length_append] at hl;simpa using hl
  have ih:=Ab n es le (fun x hx=>pt x (mem_append_left _ hx));have up:∀{a b:Nat},Cn es a b->Cn (es++[d]) a b:=fun c=>c.mono fun x hx=>mem_append_left _ hx
  by_cases hk:d.1=.pu
  ·rw[rG hk,rG hk] at e;exact up (ih p q hp hq e)
  ·obtain⟨i0,i1,j0,j1⟩:=pt d (by simp);have hs:d.2.1.toNat < m:=by lia
   have hg:d.2.2.1.toNat < m:=by lia
   have rw':Cn (es++[d]) d.2.1.toNat d.2.2.1.toNat:=.row (by simp) hk;rw[rF hk hp,rF hk hq] at e
   by_cases a:mk m es p=mk m es d.2.2.1.toNat
   ·have cp:=up (ih _ _ hp hg a);rw[if_pos a] at e
    by_cases b:mk m es q=mk m es d.2.2.1.toNat
    ·exact cp.trans (up (ih _ _ hq hg b)).symm
    ·rw[if_neg b] at e;exact cp.trans (rw'.symm.trans (up (ih _ _ hs hq e)))
   ·rw[if_neg a] at e
    by_cases b:mk m es q=mk m es d.2.2.1.toNat
    ·rw[if_pos b] at e;exact(up (ih _ _ hp hs e)).trans (rw'.trans (up (ih _ _ hq hg b)).symm)
    ·rw[if_neg b] at e;exact up (ih _ _ hp hq e)
theorem qY {m:Nat}:∀(n:Nat) (ds:List RD),ds.length=n->(∀d∈ds,cO (m:Int) d.2.1 d.2.2.1)->∀d∈ds,d.1≠.pu->mk m ds d.2.1.toNat=mk m ds d.2.2.1.toNat
 |0,ds,hl,_,d,hd,_=>by
  have:ds=[]:=length_eq_zero_iff.mp hl;rw[this] at hd;cases hd
 |n+1,ds,hl,pt,x,hx,hkx=>by
  obtain⟨es,d,rfl⟩:∃es d,ds=es++[d]:=⟨ds.dropLast,ds.getLast (by intro z;rw[z] at hl;cases hl),(dropLast_concat_getLast _).symm⟩
  have le:es.length=n:=by rw[List.length_append] at hl;simpa using hl
  obtain⟨i0,i1,j0,j1⟩:=pt x hx;have hs:x.2.1.toNat < m:=by lia
  have hg:x.2.2.1.toNat < m:=by lia
  by_cases hk:d.1=.pu
  ·rw[rG hk,rG hk];rcases mem_append.mp hx with z | z
   ·exact qY n es le (fun y hy=>pt y (mem_append_left _ hy)) x z hkx
   ·have:x=d:=by simpa using z
    rw[this] at hkx;exact absurd hk hkx
  ·rw[rF hk hs,rF hk hg];rcases mem_append.mp hx with z | z
   ·have ih:=qY n es le (fun y hy=>pt y (mem_append_left _ hy)) x z hkx;rw[ih]
   ·have:x=d:=by simpa using z
    subst this;rw[if_pos rfl]
    by_cases c:mk m es x.2.1.toNat=mk m es x.2.2.1.toNat
    ·rw[if_pos c]
    ·rw[if_neg c]
theorem Cn.ind {ds:List RD}{R:Nat->Nat->Prop}(r:∀p,R p p)(s:∀p q,R p q->R q p)(t:∀p q x,R p q->R q x->R p x)(h:∀d∈ds,d.1≠.pu->R d.2.1.toNat d.2.2.1.toNat){p q:Nat}(c:Cn ds p q):R p q:=by
 induction c with
 |refl p=>exact r p
 |row hd hk=>exact h _ hd hk
 |symm _ ih=>exact s _ _ ih
 |trans _ _ a b=>exact t _ _ _ a b
theorem Lu {m:Nat}{ds:List RD}(pt:∀d∈ds,cO (m:Int) d.2.1 d.2.2.1){p q:Nat}(hp:p < m)(hq:q < m):mk m ds p=mk m ds q↔Cn ds p q:=
 ⟨Ab _ ds rfl pt p q hp hq,fun c=>Cn.ind (R:=fun a b=>mk m ds a=mk m ds b) (fun _=>rfl) (fun _ _ e=>e.symm) (fun _ _ _ a b=>a.trans b) (fun d hd hk=>qY _ ds rfl pt d hd hk) c⟩
theorem Fm:∀{m:Nat} {S:List Nat},S.Nodup->(∀p∈S,p < m)->S.length<=m
 |0,[],_,_=>Nat.le_refl _
 |0,p :: S,_,h=>absurd (h p (mem_cons_self ..)) (Nat.not_lt_zero _)
 |m+1,S,nd,h=>by
  have e:=Fm (m:=m) (S:=S.erase m) (nd.erase m) (fun p hp=>by
   have h1:=h p (mem_of_mem_erase hp);have h2:p≠m:=fun z=>by rw[z] at hp;exact(Nodup.not_mem_erase nd) hp
   lia)
  have:=length_erase_le (a:=m) (l:=S);have h3:S.length<=(S.erase m).length+1:=by
   rw[length_erase];split<;>lia
  lia
theorem Jg {m:Nat}{ds:List RD}{f:Nat}{S:List Nat}(pt:∀d∈ds,cO (m:Int) d.2.1 d.2.2.1)(hf:f < m)(h1:f∈S)(h2:∀p∈S,p < m/\mk m ds p=mk m ds f)(h3:∀d∈ds,d.1≠.pu->(d.2.1.toNat∈S↔d.2.2.1.toNat∈S)){p:Nat}(hp:p < m):p∈S↔mk m ds p=mk m ds f:=by
 refine⟨fun h=>(h2 p h).2,fun h=>?_⟩;exact(Cn.ind (R:=fun a b=>a∈S↔b∈S) (fun _=>Iff.rfl) (fun _ _ e=>e.symm) (fun _ _ _ a b=>a.trans b) h3 ((Lu pt hf hp).mp h.symm)).mp h1
abbrev Stp:=Nat × Int
abbrev Br:=Nat × Nat × Nat
def stF (es:List Br)(p:Nat):List (Stp × Nat):=es.filterMap fun e=>if e.2.1=p then some ((e.1,1),e.2.2) else if e.2.2=p then some ((e.1,-1),e.2.1) else none
abbrev WS:=List (Nat × List Stp)
def cD (w:WS):List Nat:=w.map (·.1)
def qA:WS->Nat->Option (List Stp)
 | [],_=>none
 |e :: w,p=>if e.1=p then some e.2 else qA w p
theorem gZ {p:Nat}{st:List Stp}:∀{w:WS},qA w p=some st->(p,st)∈w
 | [],h=>by cases h
 |e :: w,h=>by
  unfold qA at h
  by_cases c:e.1=p
  ·rw[if_pos c] at h
   cases h
   obtain⟨a,b⟩:=e;have c:a=p:=c;subst c;exact mem_cons_self ..
  ·rw[if_neg c] at h;exact mem_cons_of_mem _ (gZ h)
theorem pC {p:Nat}:∀{w:WS},p∈cD w->∃st,qA w p=some st
 | [],h=>by cases h
 |e :: w,h=>by
  unfold qA
  by_cases c:e.1=p
  ·rw[if_pos c];exact⟨_,rfl⟩
  ·rw[if_neg c];rcases mem_cons.mp h with z | z
   ·exact absurd z.symm c
   ·exact pC z
theorem pO {p:Nat}:∀{w:WS},p∉cD w->qA w p=none
 | [],_=>rfl
 |e :: w,h=>by
  unfold qA;rw[if_neg (fun z=>h (by rw[<- z];exact mem_cons_self ..))];exact pO fun z=>h (mem_cons_of_mem _ z)
theorem Oa {w:WS}{p:Nat}:(qA w p).isSome=true↔p∈cD w:=by
 by_cases c:p∈cD w
 ·obtain⟨st,e⟩:=pC c;rw[e];exact⟨fun _=>c,fun _=>rfl⟩
 ·rw[pO c];exact⟨fun z=>(by cases z),fun z=>absurd z c⟩
def inF (p:Nat)(s:WS × List Nat)(t:Stp × Nat):WS × List Nat:=if t.2∈cD s.1 then s else (s.1++[(t.2,(qA s.1 p).getD []++[t.1])],s.2++[t.2])
def kW (es:List Br)(s:WS × List Nat):WS × List Nat:=if s.2=[] then s else (stF es (s.2.getLastD 0)).foldl (inF (s.2.getLastD 0)) (s.1,s.2.dropLast)
def cF (es:List Br)(b:Nat):Nat->WS × List Nat
 |0=>([(b,[])],[b])
 |n+1=>kW es (cF es b n)
def uE (es:List Br)(b e:Nat):Option (List Stp):=qA (cF es b 60).1 e
def oO (es:List Br)(s:Stp)(p q:Nat):Prop:=∃u v,(s.1,u,v)∈es/\((s.2=1/\p=u/\q=v)\/(s.2=-1/\p=v/\q=u))
inductive Pt (es:List Br) (b:Nat):List Stp->Nat->List Nat->Prop where
 |nil:Pt es b [] b [b]
 |snoc {st:List Stp} {p q:Nat} {pts:List Nat} {s:Stp} (h:Pt es b st p pts) (g:oO es s p q) (n:q∉pts):Pt es b (st++[s]) q (pts++[q])
theorem lK {es:List Br}{p:Nat}{t:Stp × Nat}(h:t∈stF es p):oO es t.1 p t.2:=by
 unfold stF at h;obtain⟨e,he,ht⟩:=mem_filterMap.mp h
 by_cases c1:e.2.1=p
 ·rw[if_pos c1] at ht
  cases ht
  exact⟨e.2.1,e.2.2,he,.inl ⟨rfl,c1.symm,rfl⟩⟩
 ·rw[if_neg c1] at ht
  by_cases c2:e.2.2=p
  ·rw[if_pos c2] at ht
   cases ht
   exact⟨e.2.1,e.2.2,he,.inr ⟨rfl,c2.symm,rfl⟩⟩
  ·rw[if_neg c2] at ht;cases ht
theorem La {es:List Br}{p q:Nat}{s:Stp}(h:oO es s p q):q=p\/∃t∈stF es p,t.2=q:=by
 obtain⟨u,v,he,h⟩:=h
 by_cases c:q=p
 ·exact .inl c
 refine .inr ?_;rcases h with ⟨_,rfl,rfl⟩ | ⟨_,rfl,rfl⟩
 ·refine⟨((s.1,1),q),mem_filterMap.mpr ⟨_,he,?_⟩,rfl⟩;rw[if_pos rfl]
 ·refine⟨((s.1,-1),q),mem_filterMap.mpr ⟨_,he,?_⟩,rfl⟩;rw[if_neg c,if_pos rfl]
structure WI (es:List Br) (b:Nat) (s:WS × List Nat):Prop where
 nd:(cD s.1).Nodup
 kb:b∈cD s.1
 pt:∀x st,(x,st)∈s.1->∃pts,Pt es b st x pts/\∀y∈pts,y∈cD s.1
 q:∀x∈s.2,x∈cD s.1
 cl:∀x∈cD s.1,x∉s.2->∀t y,oO es t x y->y∈cD s.1
theorem Kq (es:List Br)(b:Nat):WI es b ([(b,[])],[b]):=by
 refine⟨by simp[cD],by simp[cD],fun x st h=>?_,fun x h=>?_,fun x h n=>?_⟩
 ·have:(x,st)=(b,[]):=by simpa using h
  cases this
  exact⟨[b],.nil,fun y hy=>by simpa[cD] using hy⟩
 ·simpa[cD] using h
 ·have:x=b:=by simpa[cD] using h
  exact absurd (by simp[this]) n
theorem xO (w:WS)(x:Nat)(st:List Stp):cD (w++[(x,st)])=cD w++[x]:=by unfold cD;rw[map_append];rfl
structure WJ (es:List Br) (b p:Nat) (T:List (Stp × Nat)) (s:WS × List Nat):Prop where
 nd:(cD s.1).Nodup
 kb:b∈cD s.1
 kp:p∈cD s.1
 pt:∀x st,(x,st)∈s.1->∃pts,Pt es b st x pts/\∀y∈pts,y∈cD s.1
 q:∀x∈s.2,x∈cD s.1
 cl:∀x∈cD s.1,x∉s.2->x≠p->∀t y,oO es t x y->y∈cD s.1
 t:∀t∈T,t.2∈cD s.1
theorem Gb {es:List Br}{b p:Nat}{T:List (Stp × Nat)}{s:WS × List Nat}{t:Stp × Nat}(h:WJ es b p T s)(g:oO es t.1 p t.2):WJ es b p (T++[t]) (inF p s t):=by
 unfold inF
 by_cases c:t.2∈cD s.1
 ·rw[if_pos c];refine { h with t:=fun u hu=>?_ };rcases mem_append.mp hu with z | z
  ·exact h.t u z
  ·have:u=t:=by simpa using z
   rw[this];exact c
 ·rw[if_neg c];obtain⟨sp,ep⟩:=pC h.kp;rw[ep];have up:∀{x:Nat},x∈cD s.1->x∈cD (s.1++[(t.2,sp++[t.1])]):=fun hx=>by rw[xO];exact mem_append_left _ hx
  have me:t.2∈cD (s.1++[(t.2,sp++[t.1])]):=by rw[xO];simp
  refine⟨?_,up h.kb,up h.kp,fun x st hx=>?_,fun x hx=>?_,fun x hx nx np=>?_,fun u hu=>?_⟩
  ·show (cD (s.1++[(t.2,sp++[t.1])])).Nodup;rw[xO,nodup_append];refine⟨h.nd,by simp,fun x hx y hy z=>?_⟩;have:y=t.2:=by simpa using hy
   exact c (by rw[<- this,<- z];exact hx)
  ·rcases mem_append.mp hx with z | z
   ·obtain⟨pts,h1,h2⟩:=h.pt x st z;exact⟨pts,h1,fun y hy=>up (h2 y hy)⟩
   ·have:(x,st)=(t.2,sp++[t.1]):=by simpa using z
    cases this
    obtain⟨pts,h1,h2⟩:=h.pt p sp (gZ ep);refine⟨pts++[t.2],.snoc h1 g (fun z=>c (h2 _ z)),fun y hy=>?_⟩;rcases mem_append.mp hy with z | z
    ·exact up (h2 y z)
    ·have:y=t.2:=by simpa using z
     rw[this];exact me
  ·rcases mem_append.mp hx with z | z
   ·exact up (h.q x z)
   ·have:x=t.2:=by simpa using z
    rw[this];exact me
  ·have hx':x∈cD s.1:=by
    have hx2:x∈cD (s.1++[(t.2,sp++[t.1])]):=hx;rw[xO] at hx2;rcases mem_append.mp hx2 with z | z
    ·exact z
    ·exact absurd (mem_append_right _ z) nx
   intro t' y hg;exact up (h.cl x hx' (fun z=>nx (mem_append_left _ z)) np t' y hg)
  ·rcases mem_append.mp hu with z | z
   ·exact up (h.t u z)
   ·have:u=t:=by simpa using z
    rw[this];exact me
theorem zA {es:List Br}{b p:Nat}:∀(U T:List (Stp × Nat)) {s:WS × List Nat},WJ es b p T s->(∀t∈U,oO es t.1 p t.2)->WJ es b p (T++U) (U.foldl (inF p) s)
 | [],T,s,h,_=>by rw[append_nil];exact h
 |u :: U,T,s,h,g=>by
  have:=zA U (T++[u]) (Gb h (g u (by simp))) fun t ht=>g t (mem_cons_of_mem _ ht);rw[List.append_assoc] at this;exact this
theorem Hk {q:List Nat}(h:q≠[]):q.getLastD 0∈q/\q=q.dropLast++[q.getLastD 0]:=by
 have e:q.getLastD 0=q.getLast h:=by rw[getLastD_eq_getLast?,getLast?_eq_some_getLast h];rfl
 rw[e];exact⟨getLast_mem h,(dropLast_concat_getLast h).symm⟩
theorem sS {es:List Br}{b:Nat}{s:WS × List Nat}(h:WI es b s)(hq:s.2≠[]):WJ es b (s.2.getLastD 0) [] (s.1,s.2.dropLast):=by
 obtain⟨m,e⟩:=Hk hq;refine⟨h.nd,h.kb,h.q _ m,h.pt,fun x hx=>h.q x (dropLast_subset _ hx),fun x hx nx np=>h.cl x hx fun z=>?_,fun t ht=>by cases ht⟩;rw[e] at z;rcases mem_append.mp z with z | z
 ·exact nx z
 ·exact np (by simpa using z)
theorem Xh {es:List Br}{b p:Nat}{s:WS × List Nat}(h:WJ es b p (stF es p) s):WI es b s:=by
 refine⟨h.nd,h.kb,h.pt,h.q,fun x hx nx t y hg=>?_⟩
 by_cases c:x=p
 ·subst c;rcases La hg with z | ⟨u,hu,e⟩
  ·rw[z];exact hx
  ·rw[<- e];exact h.t u hu
 ·exact h.cl x hx nx c t y hg
theorem Sj {es:List Br}{b:Nat}{s:WS × List Nat}(h:WI es b s):WI es b (kW es s):=by
 unfold kW
 by_cases c:s.2=[]
 ·rw[if_pos c];exact h
 ·rw[if_neg c];have:=zA (stF es (s.2.getLastD 0)) [] (sS h c) fun t ht=>lK ht;rw[nil_append] at this;exact Xh this
theorem kG (es:List Br)(b:Nat):∀n,WI es b (cF es b n)
 |0=>Kq es b
 |n+1=>Sj (kG es b n)
def muF (s:WS × List Nat):Nat:=2*(20 - s.1.length)+s.2.length
structure Ptm (m:Nat) (es:List Br):Prop where
 p:∀e∈es,e.2.1 < m/\e.2.2 < m
theorem qa1 {m:Nat}{es:List Br}{b:Nat}(h:Ptm m es)(hb:b < m){st:List Stp}{x:Nat}{pts:List Nat}(p:Pt es b st x pts):x < m:=by
 cases p with
 |nil=>exact hb
 |snoc _ g _=>
  obtain⟨u,v,he,g⟩:=g;have:=h.p _ he;rcases g with ⟨_,_,rfl⟩ | ⟨_,_,rfl⟩
  ·exact this.2
  ·exact this.1
theorem xN {m:Nat}{es:List Br}{b:Nat}(h:Ptm m es)(hb:b < m){w:WS}(pt:∀x st,(x,st)∈w->∃pts,Pt es b st x pts/\∀y∈pts,y∈cD w):∀x∈cD w,x < m:=fun x hx=>by
 obtain⟨st,e⟩:=pC hx;obtain⟨pts,p,_⟩:=pt x st (gZ e);exact qa1 h hb p
theorem Oe {m:Nat}{es:List Br}{b:Nat}(h:Ptm m es)(hb:b < m){w:WS}(nd:(cD w).Nodup)(pt:∀x st,(x,st)∈w->∃pts,Pt es b st x pts/\∀y∈pts,y∈cD w):w.length<=m:=by
 have:=Fm nd (xN h hb pt);unfold cD at this
 rwa [length_map] at this
theorem qc2 {es:List Br}{b p m:Nat}{T:List (Stp × Nat)}{s:WS × List Nat}{t:Stp × Nat}(hm:Ptm m es)(hb:b < m)(h20:m<=20)(h:WJ es b p T s)(g:oO es t.1 p t.2):muF (inF p s t)<=muF s:=by
 have h':=Gb h g;have le:=Oe hm hb h'.nd h'.pt;unfold inF at le ⊢
 by_cases c:t.2∈cD s.1
 ·rw[if_pos c];exact Nat.le_refl _
 ·rw[if_neg c] at le ⊢;unfold muF;simp only[List.length_append,length_cons,length_nil] at le ⊢;lia
theorem yM {es:List Br}{b p m:Nat}(hm:Ptm m es)(hb:b < m)(h20:m<=20):∀(U T:List (Stp × Nat)) {s:WS × List Nat},WJ es b p T s->(∀t∈U,oO es t.1 p t.2)->muF (U.foldl (inF p) s)<=muF s
 | [],_,_,_,_=>Nat.le_refl _
 |u :: U,T,s,h,g=>Nat.le_trans (yM hm hb h20 U (T++[u]) (Gb h (g u (by simp))) fun t ht=>g t (mem_cons_of_mem _ ht)) (qc2 hm hb h20 h (g u (by simp)))
theorem Bs {s:WS × List Nat}(h:s.2≠[]):muF (s.1,s.2.dropLast)+1=muF s:=by
 have:0 < s.2.length:=length_pos_iff.mpr h;show 2*(20 - s.1.length)+s.2.dropLast.length+1=2*(20 - s.1.length)+s.2.length;rw[length_dropLast];lia
theorem Gh {es:List Br}{b m:Nat}{s:WS × List Nat}(hm:Ptm m es)(hb:b < m)(h20:m<=20)(h:WI es b s)(hq:s.2≠[]):muF (kW es s)+1<=muF s:=by
 unfold kW;rw[if_neg hq];have:=yM hm hb h20 (stF es (s.2.getLastD 0)) [] (sS h hq) fun t ht=>lK ht;have e:=Bs hq;lia
theorem wN {es:List Br}{b:Nat}{i:Nat}(h:(cF es b i).2=[]):∀n,cF es b (i+n)=cF es b i
 |0=>rfl
 |n+1=>by
  show kW es (cF es b (i+n))=_;rw[wN h n];unfold kW;rw[if_pos h]
theorem Ts {es:List Br}{b i:Nat}(h:(cF es b i).2=[])(hi:i<=60):(cF es b 60).1=(cF es b i).1:=by
 have:=wN h (60 - i);rw[show i+(60 - i)=60 by lia] at this;rw[this]
theorem qF {es:List Br}{b m:Nat}(hm:Ptm m es)(hb:b < m)(h20:m<=20):∀n,(cF es b n).2=[]\/n+muF (cF es b n)<=39
 |0=>.inr (by show 0+(2*(20 - 1)+1)<=39;lia)
 |n+1=>by
  by_cases c:(cF es b n).2=[]
  ·refine .inl ?_;show (kW es (cF es b n)).2=[]
   unfold kW;rw[if_pos c];exact c
  ·rcases qF hm hb h20 n with z | z
   ·exact absurd z c
   ·have:=Gh hm hb h20 (kG es b n) c;refine .inr ?_;show n+1+muF (kW es (cF es b n))<=39;lia
theorem Pm {es:List Br}{b m:Nat}(hm:Ptm m es)(hb:b < m)(h20:m<=20):(cF es b 60).2=[]:=by
 rcases qF hm hb h20 60 with z | z
 ·exact z
 ·lia
def qG (es:List Br):List RD:=es.map fun e=>(.pc,(e.2.1:Int),(e.2.2:Int),(0,1))
theorem tI {m:Nat}{es:List Br}(h:Ptm m es):∀d∈qG es,cO (m:Int) d.2.1 d.2.2.1:=fun d hd=>by
 obtain⟨e,he,rfl⟩:=mem_map.mp hd;have:=h.p e he;exact⟨by show (0:Int)<=(e.2.1:Int);lia,by show ((e.2.1:Nat):Int) < m;lia,by show (0:Int)<=(e.2.2:Int);lia,by show ((e.2.2:Nat):Int) < m;lia⟩
theorem Sn {m:Nat}{es:List Br}(h:Ptm m es){s:Stp}{p q:Nat}(g:oO es s p q):mk m (qG es) q=mk m (qG es) p:=by
 obtain⟨u,v,he,g⟩:=g;have e:=qY _ (qG es) rfl (tI h) (.pc,(u:Int),(v:Int),(0,1)) (mem_map.mpr ⟨_,he,rfl⟩) (by intro z;cases z);rw[Int.toNat_natCast,Int.toNat_natCast] at e;rcases g with ⟨_,rfl,rfl⟩ | ⟨_,rfl,rfl⟩
 ·exact e.symm
 ·exact e
theorem qe0 {m:Nat}{es:List Br}{b:Nat}(h:Ptm m es){st:List Stp}{x:Nat}{pts:List Nat}(p:Pt es b st x pts):mk m (qG es) x=mk m (qG es) b:=by
 induction p with
 |nil=>rfl
 |snoc _ g _ ih=>rw[Sn h g,ih]
theorem Uh {m:Nat}{es:List Br}{b e:Nat}(h:Ptm m es)(h20:m<=20)(hb:b < m)(he:e < m):(uE es b e).isSome=true↔mk m (qG es) e=mk m (qG es) b:=by
 have wi:=kG es b 60;have q0:=Pm h hb h20;unfold uE;rw[Oa];refine Jg (tI h) hb wi.kb (fun p hp=>⟨xN h hb wi.pt p hp,?_⟩) (fun d hd _=>?_) he
 ·obtain⟨st,e'⟩:=pC hp;obtain⟨pts,pp,_⟩:=wi.pt p st (gZ e');exact qe0 h pp
 ·obtain⟨a,ha,rfl⟩:=mem_map.mp hd;show ((a.2.1:Int).toNat∈_↔(a.2.2:Int).toNat∈_);rw[Int.toNat_natCast,Int.toNat_natCast];exact⟨fun z=>wi.cl _ z (by rw[q0];simp) (a.1,1) _ ⟨a.2.1,a.2.2,ha,.inl ⟨rfl,rfl,rfl⟩⟩,fun z=>wi.cl _ z (by rw[q0];simp) (a.1,-1) _ ⟨a.2.1,a.2.2,ha,.inr ⟨rfl,rfl,rfl⟩⟩⟩
structure tF (es:List Br) (b e:Nat) (st:List Stp) (pts:List Nat):Prop where
 l:pts.length=st.length+1
 hb:pts[0]?=some b
 he:pts[st.length]?=some e
 g:∀i s,st[i]?=some s->∃p q,pts[i]?=some p/\pts[i+1]?=some q/\oO es s p q
 n:(st.map (·.1)).Nodup
theorem Sl {es:List Br}{b x:Nat}{st:List Stp}{pts:List Nat}(p:Pt es b st x pts):∀s∈st,∃y z,y∈pts/\z∈pts/\oO es s y z:=by
 induction p with
 |nil=>intro s h;cases h
 | @snoc st p q pts s h g n ih=>
  intro t ht;rcases mem_append.mp ht with z | z
  ·obtain⟨y,z',h1,h2,h3⟩:=ih t z;exact⟨y,z',mem_append_left _ h1,mem_append_left _ h2,h3⟩
  ·have:t=s:=by simpa using z
   subst this;refine⟨p,q,mem_append_left _ ?_,by simp,g⟩
   cases h with
   |nil=>simp
   |snoc _ _ _=>simp
theorem Kg {es:List Br}{b x:Nat}{st:List Stp}{pts:List Nat}(ne:(es.map (·.1)).Nodup)(p:Pt es b st x pts):tF es b x st pts:=by
 induction p with
 |nil=>exact⟨rfl,rfl,rfl,fun i s h=>by simp at h,by simp⟩
 | @snoc st p q pts s h g n ih=>
  have l:=ih.l;refine⟨by rw[List.length_append,List.length_append,l];rfl,?_,?_,fun i t ht=>?_,?_⟩
  ·rw[getElem?_append_left (by lia)];exact ih.hb
  ·rw[List.length_append,getElem?_append_right (by simp;lia)];simp only[length_cons,length_nil];rw[show st.length+(0+1) - pts.length=0 by lia];rfl
  ·by_cases c:i < st.length
   ·rw[getElem?_append_left c] at ht;obtain⟨y,z,h1,h2,h3⟩:=ih.g i t ht;exact⟨y,z,by rw[getElem?_append_left (by lia)];exact h1,by rw[getElem?_append_left (by lia)];exact h2,h3⟩
   ·have hi:i=st.length:=by
     have:=(List.getElem?_eq_some_iff.mp ht).1;simp only[List.length_append,length_cons,length_nil] at this;lia
    subst hi;rw[getElem?_append_right (Nat.le_refl _),Nat.sub_self] at ht;have:s=t:=by simpa using ht
    subst this;refine⟨p,q,by rw[getElem?_append_left (by lia)];exact ih.he,?_,g⟩;rw[getElem?_append_right (by lia),show st.length+1 - pts.length=0 by lia];rfl
  ·rw[map_append,nodup_append];refine⟨ih.n,by simp,fun a ha c hc z=>?_⟩;have hc:c=s.1:=by simpa using hc
   obtain⟨t,ht,et⟩:=mem_map.mp ha;obtain⟨y,w,h1,h2,u',v',he',g'⟩:=Sl h t ht;obtain⟨u,v,he,g⟩:=g;have same:(t.1,u',v')=(s.1,u,v):=by
    have key:∀{l:List Br},(l.map (·.1)).Nodup->∀{a c:Br},a∈l->c∈l->a.1=c.1->a=c:=fun {l}=>by
     induction l with
     |nil=>intro _ a c h;cases h
     |cons x l ih=>
      intro nd a c ha hc e;rw[map_cons,nodup_cons] at nd;rcases mem_cons.mp ha with rfl | z1<;>rcases mem_cons.mp hc with rfl | z2
      ·rfl
      ·exact absurd (mem_map.mpr ⟨c,z2,e.symm⟩) nd.1
      ·exact absurd (mem_map.mpr ⟨a,z1,e⟩) nd.1
      ·exact ih nd.2 z1 z2 e
    exact key ne he' he (by show t.1=s.1;rw[et,z,hc])
   have e1:u'=u:=by injection same with _ e;injection e
   have e2:v'=v:=by injection same with _ e;injection e
   subst e1;subst e2;rcases g with ⟨_,rfl,rfl⟩ | ⟨_,rfl,rfl⟩<;>rcases g' with ⟨_,rfl,rfl⟩ | ⟨_,rfl,rfl⟩
   ·exact n h2
   ·exact n h1
   ·exact n h1
   ·exact n h2
theorem Ka {es:List Br}{b e:Nat}{st:List Stp}(ne:(es.map (·.1)).Nodup)(h:uE es b e=some st):∃pts,tF es b e st pts:=by
 obtain⟨pts,p,_⟩:=(kG es b 60).pt e st (gZ h);exact⟨pts,Kg ne p⟩
theorem vL {m:Nat}{es:List Br}{b e:Nat}{st:List Stp}(hm:Ptm m es)(hb:b < m)(h:uE es b e=some st):st.length < m:=by
 obtain⟨pts,p,k⟩:=(kG es b 60).pt e st (gZ h);have l:pts.length=st.length+1:=by
  clear h
  induction p with
  |nil=>rfl
  |snoc h g n ih=>rw[List.length_append,List.length_append,ih fun y hy=>k y (mem_append_left _ hy)];rfl
 have nd:pts.Nodup:=by
  clear h k l
  induction p with
  |nil=>simp
  |snoc h g n ih=>
   rw[nodup_append];refine⟨ih,by simp,fun x hx y hy z=>n ?_⟩;rw[mem_singleton] at hy;rw[<- hy,<- z];exact hx
 have:=Fm nd fun y hy=>xN hm hb (kG es b 60).pt y (k y hy);lia
abbrev Sk:=Kd × Nat × Nat
def skl (ds:List RD):List Sk:=ds.map fun d=>(d.1,d.2.1.toNat,d.2.2.1.toNat)
abbrev RS:=List Br × List (Nat × List Stp)
def jB (W:Kd->Bool)(s:RS)(k:Nat)(d:Sk):RS:=if W d.1 then (match uE s.1 d.2.2 d.2.1 with
 |none=>(s.1++[(k,d.2.1,d.2.2)],s.2)
 |some st=>(s.1,s.2++[(k,(k,1) :: st)])) else s
def fB (W:Kd->Bool)(sk:List Sk):Nat->RS
 |0=>([],[])
 |n+1=>match sk[n]? with
  |none=>fB W sk n
  |some d=>jB W (fB W sk n) n d
theorem iP {W:Kd->Bool}{sk:List Sk}{n:Nat}{d:Sk}(h:sk[n]?=some d):fB W sk (n+1)=jB W (fB W sk n) n d:=by
 show (match sk[n]? with | none=>fB W sk n | some d=>jB W (fB W sk n) n d)=_;rw[h]
structure RI (W:Kd->Bool) (sk:List Sk) (m n:Nat) (s:RS):Prop where
 pt:Ptm m s.1
 nd:(s.1.map (·.1)).Nodup
 lt:∀e∈s.1,e.1 < n
 at_:∀e∈s.1,∃k,sk[e.1]?=some (k,e.2.1,e.2.2)
 rl:s.2.length<=n
 r:∀c∈s.2,c.1 < n/\∃k u v st pts,sk[c.1]?=some (k,u,v)/\c.2=(c.1,1) :: st/\(∀t∈st,t.1 < c.1/\t.1∈s.1.map (·.1))/\tF s.1 v u st pts/\st.length < m
theorem tF.mono {es es':List Br}{b e:Nat}{st:List Stp}{pts:List Nat}(h:tF es b e st pts)(hs:∀x∈es,x∈es'):tF es' b e st pts:=
 { h with g:=fun i s hi=>let ⟨p,q,h1,h2,u,v,h3,h4⟩:=h.g i s hi;⟨p,q,h1,h2,u,v,hs _ h3,h4⟩ }
theorem Pc {es:List Br}{b e:Nat}{st:List Stp}{pts:List Nat}(h:tF es b e st pts):∀t∈st,t.1∈es.map (·.1):=fun t ht=>by
 obtain⟨i,hi⟩:=getElem?_of_mem ht;obtain⟨p,q,_,_,u,v,h3,_⟩:=h.g i t hi;exact mem_map.mpr ⟨_,h3,rfl⟩
theorem uL {W:Kd->Bool}{sk:List Sk}{m:Nat}(hm:∀d∈sk,d.2.1 < m/\d.2.2 < m):∀n,n<=sk.length->RI W sk m n (fB W sk n)
 |0,_=>⟨⟨fun e h=>(by cases h)⟩,(by show ([]:List Nat).Nodup;simp),fun e h=>(by cases h),fun e h=>(by cases h),Nat.le_refl _,fun c h=>(by cases h)⟩
 |n+1,hn=>by
  have ih:=uL (W:=W) hm n (by lia);have hd:sk[n]?=some sk[n]:=getElem?_eq_getElem (by lia);rw[iP hd];have pm:=hm _ (mem_of_getElem? hd);generalize sk[n]=d at hd pm;generalize fB W sk n=s at ih;unfold jB
  by_cases hw:W d.1=true
  ·rw[if_pos hw]
   cases hy:uE s.1 d.2.2 d.2.1 with
   |none=>
    show RI W sk m (n+1) (s.1++[(n,d.2.1,d.2.2)],s.2);refine⟨⟨fun e he=>?_⟩,?_,fun e he=>?_,fun e he=>?_,by have:=ih.rl;show s.2.length<=n+1;lia,fun c hc=>?_⟩
    ·rcases mem_append.mp he with z | z
     ·exact ih.pt.p e z
     ·have:e=(n,d.2.1,d.2.2):=by simpa using z
      rw[this];exact pm
    ·show ((s.1++[(n,d.2.1,d.2.2)]).map (·.1)).Nodup;rw[map_append,nodup_append];refine⟨ih.nd,by simp,fun x hx y hy z=>?_⟩;have:y=n:=by simpa using hy
     obtain⟨e,he,ee⟩:=mem_map.mp hx;have:=ih.lt e he;lia
    ·rcases mem_append.mp he with z | z
     ·have:=ih.lt e z;lia
     ·have:e=(n,d.2.1,d.2.2):=by simpa using z
      rw[this];exact Nat.lt_succ_self n
    ·rcases mem_append.mp he with z | z
     ·exact ih.at_ e z
     ·have:e=(n,d.2.1,d.2.2):=by simpa using z
      rw[this];exact⟨d.1,hd⟩
    ·obtain⟨h1,k,u,v,st,pts,h2,h3,h4,h5,h6⟩:=ih.r c hc;refine⟨by lia,k,u,v,st,pts,h2,h3,fun t ht=>⟨(h4 t ht).1,?_⟩,h5.mono fun x hx=>mem_append_left _ hx,h6⟩;show t.1∈(s.1++[(n,d.2.1,d.2.2)]).map (·.1);rw[map_append];exact mem_append_left _ (h4 t ht).2
   |some st=>
    show RI W sk m (n+1) (s.1,s.2++[(n,(n,1) :: st)]);refine⟨ih.pt,ih.nd,fun e he=>Nat.lt_succ_of_lt (ih.lt e he),ih.at_,by have:=ih.rl;show (s.2++[(n,(n,1) :: st)]).length<=n+1;rw[List.length_append];simp only[length_cons,length_nil];lia,fun c hc=>?_⟩;rcases mem_append.mp hc with z | z
    ·obtain⟨h1,r⟩:=ih.r c z;exact⟨by lia,r⟩
    ·have:c=(n,(n,1) :: st):=by simpa using z
     subst this;obtain⟨pts,ch⟩:=Ka ih.nd hy;refine⟨Nat.lt_succ_self n,d.1,d.2.1,d.2.2,st,pts,hd,rfl,fun t ht=>?_,ch,vL ih.pt pm.2 hy⟩;have ti:=Pc ch t ht;obtain⟨e,he,ee⟩:=mem_map.mp ti;have:=ih.lt e he;exact⟨by show t.1 < n;lia,ti⟩
  ·rw[if_neg hw];exact⟨ih.pt,ih.nd,fun e he=>Nat.lt_succ_of_lt (ih.lt e he),ih.at_,by have:=ih.rl;lia,fun c hc=>let ⟨h1,r⟩:=ih.r c hc;⟨by lia,r⟩⟩
theorem SqT.updD {K:Frag}{H:Hp}{a l:Addr}{xs:List V}{kvs:List (Key × V)}{o:HO}(h:SqT K H a xs)(hl:H l=some (.dK kvs)):SqT K (L2.upd H l o) a xs:=by
 rcases h with (h | ⟨u,h⟩) | h
 ·exact .inl (.inl (by rw[aW (eY h hl (fun z=>by cases z))];exact h))
 ·exact .inl (.inr ⟨u,by rw[aW (eY h hl (fun z=>by cases z))];exact h⟩)
 ·exact .inr h
inductive Sts (K:Frag) (H:Hp):List V->List Stp->Prop where
 |nil:Sts K H [] []
 |cons {t:Addr} {n:Nat} {w:Int} {xs:List V} {st:List Stp} (h:SqT K H t [.int (n:Int),.int w]) (q:Sts K H xs st):Sts K H (.ref t :: xs) ((n,w) :: st)
section
variable {K:Frag} {H H':Hp}
theorem Sts.same (e:aY H H'):∀{xs:List V} {st:List Stp},Sts K H xs st->Sts K H' xs st
 |_,_,.nil=>.nil
 |_,_,.cons h q=>.cons (e.seqT h) (Sts.same e q)
theorem Sts.length:∀{xs:List V} {st:List Stp},Sts K H xs st->xs.length=st.length
 |_,_,.nil=>rfl
 |_,_,.cons _ q=>by simp[Sts.length q]
theorem Sts.app:∀{xs ys:List V} {st su:List Stp},Sts K H xs st->Sts K H ys su->Sts K H (xs++ys) (st++su)
 |_,_,_,_,.nil,r=>r
 |_,_,_,_,.cons h q,r=>.cons h (Sts.app q r)
theorem Sts.upd {l:Addr}{ys:List V}{o:HO}(hl:H l=some (.lst ys)):∀{xs:List V} {st:List Stp},Sts K H xs st->Sts K (L2.upd H l o) xs st
 |_,_,.nil=>.nil
 |_,_,.cons h q=>.cons (SqT.upd h hl) (Sts.upd hl q)
theorem Sts.updD {l:Addr}{kvs:List (Key × V)}{o:HO}(hl:H l=some (.dK kvs)):∀{xs:List V} {st:List Stp},Sts K H xs st->Sts K (L2.upd H l o) xs st
 |_,_,.nil=>.nil
 |_,_,.cons h q=>.cons (SqT.updD h hl) (Sts.updD hl q)
end
inductive Sds (K:Frag) (H:Hp):List V->List (Stp × Nat)->Prop where
 |nil:Sds K H [] []
 |cons {t s:Addr} {n x:Nat} {w:Int} {xs:List V} {st:List (Stp × Nat)} (h:SqT K H t [.ref s,.int (x:Int)]) (g:SqT K H s [.int (n:Int),.int w]) (q:Sds K H xs st):Sds K H (.ref t :: xs) (((n,w),x) :: st)
section
variable {K:Frag} {H H':Hp}
theorem Sds.same (e:aY H H'):∀{xs:List V} {st:List (Stp × Nat)},Sds K H xs st->Sds K H' xs st
 |_,_,.nil=>.nil
 |_,_,.cons h g q=>.cons (e.seqT h) (e.seqT g) (Sds.same e q)
theorem Sds.length:∀{xs:List V} {st:List (Stp × Nat)},Sds K H xs st->xs.length=st.length
 |_,_,.nil=>rfl
 |_,_,.cons _ _ q=>by simp[Sds.length q]
theorem Sds.app:∀{xs ys:List V} {st su:List (Stp × Nat)},Sds K H xs st->Sds K H ys su->Sds K H (xs++ys) (st++su)
 |_,_,_,_,.nil,r=>r
 |_,_,_,_,.cons h g q,r=>.cons h g (Sds.app q r)
theorem Sds.get:∀{xs:List V} {st:List (Stp × Nat)} {i:Nat} {x:V},Sds K H xs st->xs[i]?=some x->∃t u s,x=.ref t/\st[i]?=some s/\SqT K H t [.ref u,.int (s.2:Int)]/\SqT K H u [.int (s.1.1:Int),.int s.1.2]
 |_,_,_,_,.nil,h=>by simp at h
 |_,_,0,_,.cons h g _,e=>by simp at e;subst e;exact⟨_,_,_,rfl,rfl,h,g⟩
 |_,_,i+1,_,.cons _ _ q,e=>by simpa using Sds.get q (by simpa using e)
theorem Sds.upd {l:Addr}{ys:List V}{o:HO}(hl:H l=some (.lst ys)):∀{xs:List V} {st:List (Stp × Nat)},Sds K H xs st->Sds K (L2.upd H l o) xs st
 |_,_,.nil=>.nil
 |_,_,.cons h g q=>.cons (SqT.upd h hl) (SqT.upd g hl) (Sds.upd hl q)
theorem Sds.updD {l:Addr}{kvs:List (Key × V)}{o:HO}(hl:H l=some (.dK kvs)):∀{xs:List V} {st:List (Stp × Nat)},Sds K H xs st->Sds K (L2.upd H l o) xs st
 |_,_,.nil=>.nil
 |_,_,.cons h g q=>.cons (SqT.updD h hl) (SqT.updD g hl) (Sds.updD hl q)
end
inductive Wys (K:Frag) (H0:Hp) (W:Addr) (H:Hp):List (Key × V)->WS->Prop where
 |nil:Wys K H0 W H [] []
 |cons {a:Addr} {x:Nat} {xs:List V} {st:List Stp} {kvs:List (Key × V)} {w:WS} (n:H0 a=none) (nw:a≠W) (h:H a=some (.lst xs)) (f:Sts K H xs st) (q:Wys K H0 W H kvs w):Wys K H0 W H ((Sum.inl (x:Int),.ref a) :: kvs) ((x,st) :: w)
section
variable {K:Frag} {H0 H H':Hp} {W:Addr}
theorem Wys.same (e:aY H H'):∀{kvs:List (Key × V)} {w:WS},Wys K H0 W H kvs w->Wys K H0 W H' kvs w
 |_,_,.nil=>.nil
 |_,_,.cons n nw h f q=>.cons n nw (e _ _ h) (f.same e) (Wys.same e q)
theorem Wys.updW {ys:List V}{o:HO}(hl:H W=some (.lst ys)):∀{kvs:List (Key × V)} {w:WS},Wys K H0 W H kvs w->Wys K H0 W (L2.upd H W o) kvs w
 |_,_,.nil=>.nil
 |_,_,.cons n nw h f q=>.cons n nw (by rw[aW nw];exact h) (f.upd hl) (Wys.updW hl q)
theorem Wys.updD {D:Addr}{kv:List (Key × V)}{o:HO}(hl:H D=some (.dK kv)):∀{kvs:List (Key × V)} {w:WS},Wys K H0 W H kvs w->Wys K H0 W (L2.upd H D o) kvs w
 |_,_,.nil=>.nil
 |_,_,.cons n nw h f q=>.cons n nw (by rw[aW (eY h hl (fun z=>by cases z))];exact h) (f.updD hl) (Wys.updD hl q)
theorem Wys.length:∀{kvs:List (Key × V)} {w:WS},Wys K H0 W H kvs w->kvs.length=w.length
 |_,_,.nil=>rfl
 |_,_,.cons _ _ _ _ q=>by simp[Wys.length q]
theorem Wys.snoc {a:Addr}{x:Nat}{xs:List V}{st:List Stp}(n:H0 a=none)(nw:a≠W)(h:H a=some (.lst xs))(f:Sts K H xs st):∀{kvs:List (Key × V)} {w:WS},Wys K H0 W H kvs w->Wys K H0 W H (kvs++[(Sum.inl (x:Int),.ref a)]) (w++[(x,st)])
 |_,_,.nil=>.cons n nw h f .nil
 |_,_,.cons n' nw' h' f' q=>.cons n' nw' h' f' (Wys.snoc n nw h f q)
theorem Wys.none_ {p:Nat}:∀{kvs:List (Key × V)} {w:WS},Wys K H0 W H kvs w->p∉cD w->pJ kvs (Sum.inl (p:Int))=none/\(kvs.any fun kv=>decide (kv.1=Sum.inl (p:Int)))=false
 |_,_,.nil,_=>⟨rfl,rfl⟩
 |_,_,.cons (x:=x) (kvs:=kvs) (w:=w) n nw h f q,hp=>by
  have hx:x≠p:=fun z=>hp (by rw[<- z];exact mem_cons_self ..);obtain⟨h1,h2⟩:=Wys.none_ q fun z=>hp (mem_cons_of_mem _ z);refine⟨by rw[lV (fun z=>hx (Int.ofNat.inj (Sum.inl.inj z)))];exact h1,?_⟩;rw[any_cons,h2];have e:decide ((Sum.inl (x:Int):Key)=Sum.inl (p:Int))=false:=decide_eq_false fun z=>hx (Int.ofNat.inj (Sum.inl.inj z));show (decide ((Sum.inl (x:Int):Key)=Sum.inl (p:Int)) || false)=false;rw[e];rfl
theorem Wys.some_ {p:Nat}:∀{kvs:List (Key × V)} {w:WS},Wys K H0 W H kvs w->p∈cD w->∃a xs st,pJ kvs (Sum.inl (p:Int))=some (.ref a)/\qA w p=some st/\H0 a=none/\a≠W/\H a=some (.lst xs)/\Sts K H xs st
 |_,_,.nil,h=>by cases h
 |_,_,.cons (a:=a) (x:=x) (xs:=xs) (st:=st) (kvs:=kvs) (w:=w) n nw h f q,hp=>by
  by_cases c:x=p
  ·subst c;exact⟨a,xs,st,by rw[oR rfl],by unfold qA;rw[if_pos rfl],n,nw,h,f⟩
  ·have hp':p∈cD w:=by
    rcases mem_cons.mp hp with z | z
    ·exact absurd z.symm c
    ·exact z
   obtain⟨a',xs',st',h1,h2,r⟩:=Wys.some_ q hp';exact⟨a',xs',st',by rw[lV (fun z=>c (Int.ofNat.inj (Sum.inl.inj z)))];exact h1,by unfold qA;rw[if_neg c];exact h2,r⟩
theorem Wys.isSome {p:Nat}{kvs:List (Key × V)}{w:WS}(h:Wys K H0 W H kvs w):(pJ kvs (Sum.inl (p:Int))).isSome=decide (p∈cD w):=by
 by_cases c:p∈cD w
 ·obtain⟨a,xs,st,e,_⟩:=h.some_ c;rw[e,decide_eq_true c];rfl
 ·rw[(h.none_ c).1,decide_eq_false c];rfl
end
structure Rgs (K:Frag) (H0 H:Hp) (us:List V) (X:List (List Stp)):Prop where
 l:us.length=X.length
 r:∀(i:Nat) (x:V) (st:List Stp),us[i]?=some x->X[i]?=some st->∃(a:Addr) (xs:List V),x=.ref a/\H0 a=none/\H a=some (.lst xs)/\Sts K H xs st
theorem Rgs.nil {K:Frag}{H0 H:Hp}:Rgs K H0 H [] []:=⟨rfl,fun i x st h=>by simp at h⟩
theorem Rgs.same {K:Frag}{H0 H H':Hp}{us:List V}{X:List (List Stp)}(e:aY H H')(f:Rgs K H0 H us X):Rgs K H0 H' us X:=⟨f.l,fun i x st h1 h2=>let ⟨a,xs,e1,n,h,s⟩:=f.r i x st h1 h2;⟨a,xs,e1,n,e _ _ h,s.same e⟩⟩
theorem Rgs.snoc {K:Frag}{H0 H:Hp}{us:List V}{X:List (List Stp)}{a:Addr}{xs:List V}{st:List Stp}(f:Rgs K H0 H us X)(n:H0 a=none)(h:H a=some (.lst xs))(s:Sts K H xs st):Rgs K H0 H (us++[.ref a]) (X++[st]):=by
 refine⟨by rw[List.length_append,List.length_append,f.l];rfl,fun i x qs h1 h2=>?_⟩;have l:=f.l
 by_cases c:i < us.length
 ·rw[getElem?_append_left c] at h1;rw[getElem?_append_left (by lia)] at h2;exact f.r i x qs h1 h2
 ·have hi:i=us.length:=by
   have:=(List.getElem?_eq_some_iff.mp h1).1;rw[List.length_append] at this;simp only[length_cons,length_nil] at this;lia
  subst hi;rw[getElem?_append_right (Nat.le_refl _),Nat.sub_self] at h1;rw[getElem?_append_right (by lia),show us.length - X.length=0 by lia] at h2
  cases h1
  cases h2
  exact⟨a,xs,rfl,n,h,s⟩
theorem Rgs.updO {K:Frag}{H0 H:Hp}{us:List V}{X:List (List Stp)}{l:Addr}{ys:List V}{o:HO}(f:Rgs K H0 H us X)(hl:H l=some (.lst ys))(n:∀x∈us,x≠.ref l):Rgs K H0 (upd H l o) us X:=⟨f.l,fun i x st h1 h2=>let ⟨a,xs,e1,n1,h,s⟩:=f.r i x st h1 h2;⟨a,xs,e1,n1,by rw[aW (fun z=>n x (mem_of_getElem? h1) (by rw[e1,z]))];exact h,s.upd hl⟩⟩
def Xa (ds:List RD)(es:List Br):Prop:=∀e∈es,∃d,ds[e.1]?=some d/\d.2.1=(e.2.1:Int)/\d.2.2.1=(e.2.2:Int)
def Ff (K:Frag)(CK:Kd->Addr):Sp:=fun vs H Q _=>∃(a b:Addr) (xs:List V) (ds:List RD) (es:List Br) (p:Nat),vs=[.ref a,.ref b,.int (p:Int)]/\SqL K H a xs/\gJ CK K H xs ds/\SqL K H b (es.map fun e=>V.int (e.1:Int))/\Xa ds es/\es.length<=100/\∀l ys H',aY H H'->H l=none->H' l=some (.lst ys)->Sds K H' ys (stF es p)->Q (.ref l) H'
def Vu (K:Frag)(CK:Kd->Addr):Sp:=fun vs H Q _=>∃(a b:Addr) (xs:List V) (ds:List RD) (es:List Br) (m f t:Nat),vs=[.ref a,.ref b,.int (f:Int),.int (t:Int)]/\SqL K H a xs/\gJ CK K H xs ds/\SqL K H b (es.map fun e=>V.int (e.1:Int))/\Xa ds es/\es.length<=100/\Ptm m es/\m<=20/\f < m/\
 (uE es f t=none->∀H',aY H H'->Q .non H')/\∀st,uE es f t=some st->∀l ys H',aY H H'->H l=none->H' l=some (.lst ys)->Sts K H' ys st->Q (.ref l) H'
inductive Wds (K:Frag) (H:Hp):V->(Kd->Bool)->Prop where
 |non:Wds K H .non (fun k=>decide (k≠.pu))
 |seq {a:Addr} {ws:List V} (h:SqL K H a ws) (f:ws.all nQ=true):Wds K H (.ref a) (fun k=>inV (.str k.wd) ws)
def He (CN:Addr)(K:Frag):Sp:=fun vs H Q _=>∃(n l:Addr) (v:V) (m:Nat) (ds:List RD) (W:Kd->Bool),vs=[.ref n,v]/\cV CN K H n l (m:Int) ds/\(∀d∈ds,cO (m:Int) d.2.1 d.2.2.1)/\m<=20/\ds.length<=40/\Wds K H v W/\∀r us H',aY H H'->H r=none->H' r=some (.lst us)->Rgs K H H' us ((fB W (skl ds) ds.length).2.map (·.2))->(∀x∈us,x≠.ref r)->Q (.ref r) H'
end L2
namespace Mq
def KJ (m:Nat)(A1:Mat)(R:List (List Int)):Prop:=∀Φ,Lin Φ->(∀i,i < m->Φ (A1 i)=0)->∀k,k < m->Φ (at2 R k)=0
theorem KJ.swap {m:Nat}{A1:Mat}{R:List (List Int)}(h:KJ m A1 R)(hl:R.length=m){p r:Nat}(hp:p < m)(hr:r < m):KJ m A1 (fP R p r):=fun Φ lin hz k hk=>by
 have e:at2 (fP R p r) k=at2 R (sw p r k):=by
  funext x
  rw[pS (by lia) (by lia)]
 rw[e];exact h Φ lin hz _ (zD hp hr hk)
theorem KJ.clear {m w:Nat}{A0 A1:Mat}{R:List (List Int)}{r col:Nat}{d sg:Int}(h:KJ m A1 R)(s:SI m w A0 R r col d sg)(hr:r < m)(hc:col < w)(he:ent R r col≠0):KJ m A1 (cJ R r col d):=fun Φ lin hz k hk=>by
 have cl:=fun (x:Nat)=>rN s hr hc he hk x;have z:=h Φ lin hz
 by_cases e:k=r
 ·have e2:at2 (cJ R r col d) k=at2 R k:=by funext x;rw[cl x,if_pos e]
  rw[e2];exact z k hk
 ·have e2:at2 (cJ R r col d) k=fun x=>(fun x=>(at2 R r col / (d:Rat))*at2 R k x) x+(-(at2 R k col / (d:Rat)))*at2 R r x:=by
   funext x
   show _=(at2 R r col / (d:Rat))*at2 R k x+_;rw[cl x,if_neg e];grind
  rw[e2,lin,lin.mul,z k hk,z r hr];grind
theorem KJ.whole {m w:Nat}{A0 A1:Mat}{R:List (List Int)}{d sg:Int}(h:KJ m A1 R)(s:SI m w A0 R m m d sg){v:Nat->Rat}(hv:∀i,i < m->(rs m fun k=>A1 i k*v k)=A1 i m){k:Nat}(hk:k < m):at2 R k m / (d:Rat)=v k:=by
 obtain⟨A,c,B,e⟩:=s.bar;have dn:=B.dne;have:=h (fun f=>(rs m fun k=>f k*v k) - f m) (fun x y l=>by
  have:(rs m fun k=>(x k+l*y k)*v k)=(rs m fun k=>x k*v k+l*(y k*v k)):=aS fun k _=>by grind
  show (rs m fun k=>(x k+l*y k)*v k) - (x m+l*y m)=((rs m fun k=>x k*v k) - x m)+l*((rs m fun k=>y k*v k) - y m)
  rw[this,eK,dM];grind) (fun i hi=>by
  show (rs m fun k=>A1 i k*v k) - A1 i m=0;rw[hv i hi];grind) k hk
 have e1:(rs m fun j=>at2 R k j*v j)=rs m fun j=>if j=k then (d:Rat)*v k else 0:=aS fun j hj=>by
  have i2:=B.i2 k j hk hj;rw[B.full rfl j hj] at i2;rw[i2]
  by_cases z:j=k
  ·rw[if_pos z,if_pos z,z]
  ·rw[if_neg z,if_neg z];grind
 have e2:(rs m fun j=>at2 R k j*v j) - at2 R k m=0:=this;rw[e1,lW m k _ hk] at e2;grind
end Mq
namespace Shp
open PySem L2
theorem Oj {m w:Nat}{A0 A1:Mat}:Stp m w A0 (fun R=>Mq.KI m A1 R/\Mq.KJ m A1 R):=
 ⟨fun R r col d sg p s h1 h2 h=>⟨h.1.swap s.len h2 (by lia),h.2.swap s.len h2 (by lia)⟩,fun R r col d sg s h1 h2 h3 h=>⟨h.1.clear s h1 h2 h3,h.2.clear s h1 h2 h3⟩⟩
theorem Ya {X:List (List Q2)}{qs:List Q2}(hX:fK X)(hq:Mq.Pos qs)(hl:qs.length=X.length)(hw:∀row∈X,row.length=X.length){R:List (List Int)}{w:Nat}{d sg:Int}(h:Mq.KJ X.length (Mq.at2 (iF X qs)) R)(s:SI X.length w (Mq.at2 (iF X qs)) R X.length X.length d sg){v:Nat->Rat}(hv:∀i,i < X.length->(Mq.rs X.length fun j=>pU X i j*v j)=Mq.val (qs.getD i Mq.z0)){k:Nat}(hk:k < X.length):Mq.at2 R k X.length / (d:Rat)=v k:=by
 refine h.whole s (fun i hi=>?_) hk;rw[uH hX hq hl hw hi (by lia),if_neg (by lia),<- hv i hi,<- dM];refine aS fun k hk=>?_;rw[uH hX hq hl hw hi (by lia),if_pos hk];grind
abbrev MxR (X:List (List Q2)):Prop:=fK X/\(∀row∈X,(∀p∈row,Bd 8 p)/\row.length=X.length)/\X.length<=8
abbrev RtR (X:List (List Q2))(qs:List Q2):Prop:=qs.length=X.length/\iZ qs/\∀p∈qs,Bd 240 p
structure qd5 (X:List (List Q2)) (qs ps:List Q2):Prop extends Slv X qs ps where
 uni:∀v:Nat->Rat,(∀i,i < X.length->(Mq.rs X.length fun j=>pU X i j*v j)=Mq.val (qs.getD i Mq.z0))->∀j,j < X.length->Mq.val (ps.getD j Mq.z0)=v j
end Shp
namespace Mq
theorem Wb.rs5 {n K:Nat}{f:Nat->Rat}(hK:K<=32)(h:∀k,k < K->Wb n (f k)):Wb (n+5) (Mq.rs K f):=by
 obtain⟨z,e,b⟩:=Va K h;refine⟨z,e,?_⟩;have p:2 ^ (n+5)=32*2 ^ n:=by rw[Nat.pow_add];lia
 have q:K*2 ^ n<=32*2 ^ n:=Nat.mul_le_mul_right _ hK;have r:0 < 2 ^ n:=Nat.two_pow_pos n;show z.natAbs < 2 ^ (n+5)
 by_cases k0:K=0
 ·subst k0;lia
 ·lia
theorem yQ {n:Nat}:∀(r:Nat) (M:Mat),r<=32->(∀i j,i < r->Wb n (M i j))->Wb ((n+5)*r+1) (det r M)
 |0,_,_,_=>Wb.one
 |r+1,M,hr,h=>by
  rw[fV];have:=Wb.rs5 (n:=n+((n+5)*r+1)) (K:=r+1) (f:=fun j=>sgn (r+j)*M r j*det r fun i k=>M i (skip j k)) hr fun j _=>((h r j (by lia)).sgn _).mul (yQ r _ (by lia) fun i k hi=>h i _ (by lia));exact this.mono (by rw[Nat.mul_succ];lia)
section
variable {m:Nat} {A E:Mat} {r col:Nat} {d:Rat} {c:Nat->Nat} {n:Nat}
theorem Bar.wd5 (h:Bar m A E r col d c)(hA:∀i x,i < m->Wb n (A i x))(hm:m<=31):Wb ((n+5)*r+1) d:=by
 have rm:=h.rm;rw[<- h.i5];exact yQ r _ (by lia) fun i j hi=>hA i _ (by lia)
theorem Bar.wtop5 (h:Bar m A E r col d c)(hA:∀i x,i < m->Wb n (A i x))(hm:m<=31){k:Nat}(hk:k < r)(x:Nat):Wb ((n+5)*r+7) (E k x):=by
 have rm:=h.rm;have hd:=h.dne
 by_cases hx:∃j,j < r/\x=c j
 ·obtain⟨j,hj,rfl⟩:=hx;rw[h.i2 k j hk hj];split
  ·exact(h.wd5 hA hm).mono (by lia)
  ·exact Wb.zero _
 ·let c2:Nat->Nat:=fun j=>if j=r then x else c j
  let u:Nat->Rat:=fun j=>if j=c k then 1 else 0
  have hΦ:=Gz r A c2;have z:=h.i6 _ hΦ (fun s hs=>Fy r A c2 hs) k hk;have eu:u=fun y=>(fun y=>u y+(-(1 / d))*E k y) y+(1 / d)*E k y:=by
   funext y
   show u y=u y+(-(1 / d))*E k y+(1 / d)*E k y;grind
  have fb:=yN r A c2 (fun y=>u y+(-(1 / d))*E k y) fun j hj=>by
   have ec:c2 j=c j:=by show (if j=r then x else c j)=_;rw[if_neg (by lia)]
   rw[ec];show u (c j)+(-(1 / d))*E k (c j)=0;rw[h.i2 k j hk hj];show (if c j=c k then (1:Rat) else 0)+_=0
   by_cases e:j=k
   ·rw[if_pos e,if_pos (by rw[e])];grind
   ·rw[if_neg e,if_neg (fun q=>e (h.cinj j k hj hk q))];grind
  have dd:(det r fun i j=>A i (c2 j))=d:=by
   rw[<- h.i5];exact cL fun i j _ hj=>by show A i (if j=r then x else c j)=_;rw[if_neg (by lia)]
  have ux:u x=0:=by show (if x=c k then (1:Rat) else 0)=0;rw[if_neg (fun q=>hx ⟨k,hk,q⟩)]
  have cx:c2 r=x:=by show (if r=r then x else _)=x;rw[if_pos rfl]
  rw[dd,cx] at fb;have val:F r A c2 u=- E k x:=by
   rw[eu,hΦ,z,fb];show (u x+(-(1 / d))*E k x)*d+_=_;rw[ux];grind
  have wh:Wb ((n+5)*r+7) (F r A c2 u):=by
   rw[Iq];have:=Wb.rs5 (n:=1+((n+5)*r+1)) (K:=r+1) (f:=fun j=>Mq.sgn (r+j)*u (c2 j)*det r fun i k=>A i (c2 (Mq.skip j k))) (by lia) fun j _=>by
    refine Wb.mul (Wb.sgn ?_ _) (yQ r _ (by lia) fun i k hi=>hA i _ (by lia));show Wb 1 (if c2 j=c k then (1:Rat) else 0);split
    ·exact Wb.one
    ·exact Wb.zero _
   exact this.mono (by lia)
  rw[val] at wh;have:=wh.neg
  rwa [show - - E k x=E k x by grind] at this
theorem Bar.wall5 (h:Bar m A E r col d c)(hA:∀i x,i < m->Wb n (A i x))(hm:m<=31){i:Nat}(hi:i < m)(x:Nat):Wb ((n+5)*(m+1)+8) (E i x):=by
 have rm:=h.rm;have mono:=Nat.mul_le_mul_left (n+5) rm;have e1:(n+5)*(m+1)=(n+5)*m+(n+5):=Nat.mul_succ ..
 by_cases h1:i < r
 ·exact(h.wtop5 hA hm h1 x).mono (by lia)
 ·have q:=h.i4 i x hi;rw[if_neg h1] at q;have e:E i x=d*A i x - rs r fun k=>A i (c k)*E k x:=by grind
  rw[e];have b1:Wb (n+((n+5)*r+7)+5) (d*A i x):=((h.wd5 hA hm).mul (hA i x hi)).mono (by lia);have b2:Wb (n+((n+5)*r+7)+5) (rs r fun k=>A i (c k)*E k x):=Wb.rs5 (by lia) fun k hk=>(hA i _ hi).mul (h.wtop5 hA hm hk x);exact(b1.sub b2).mono (by lia)
end
theorem SB.bd5 {n m w:Nat}{A0:Mat}{R:List (List Int)}{r col:Nat}{d sg:Int}(h:SB n m R r col d)(s:SI m w A0 R r col d sg)(hm:m<=31):BdR ((n+5)*(m+1)+8) R/\B ((n+5)*(m+1)+8) d:=by
 obtain⟨A,c,B,q⟩:=h;refine⟨fun i x=>?_,?_⟩
 ·by_cases hi:i < m
  ·obtain⟨z,e,b⟩:=B.wall5 q hm hi x;have:ent R i x=z:=Rat.intCast_inj.mp e;rw[this];exact b
  ·unfold ent;rw[getD_eq_getElem?_getD (l:=R),getElem?_eq_none (by rw[s.len];lia)];exact Nat.two_pow_pos _
 ·obtain⟨z,e,b⟩:=B.wd5 q hm;have:d=z:=Rat.intCast_inj.mp e;have mono:=Nat.mul_le_mul_left (n+5) B.rm;rw[this];exact b.mono (by rw[Nat.mul_succ];lia)
theorem Os {a b L:Int}(ha:1<=a)(hb:1<=b)(h1:a ∣ L)(h2:b ∣ L):oF a b ∣ L:=by
 have g1:gc a b ∣ a:=Int.gcd_dvd_left ..;have g0:gc a b≠0:=by have:=uM (a:=a) (b:=b) (by lia);lia
 obtain⟨x,hx⟩:=g1;have e:oF a b=x*b:=by
  unfold oF;rw[fY g0 hx]
 have k:(Int.lcm a b:Int) ∣ L:=Int.coe_lcm_dvd h1 h2;have m:(Int.gcd a b:Int)*(Int.lcm a b:Int)=a*b:=by
  have:=Int.gcd_mul_lcm a b;have h:((Int.gcd a b*Int.lcm a b:Nat):Int)=((a*b).natAbs:Nat):=by rw[this,Int.natAbs_mul]
  rw[Int.natCast_mul] at h;rw[h,Int.natAbs_of_nonneg (Int.mul_nonneg (by lia) (by lia))]
 have e2:(Int.lcm a b:Int)=x*b:=by
  have hg:(Int.gcd a b:Int)=gc a b:=rfl;rw[hg] at m;have:gc a b*(Int.lcm a b:Int)=gc a b*(x*b):=by
   rw[m,<- Int.mul_assoc,<- hx]
  exact Int.eq_of_mul_eq_mul_left g0 this
 rw[e,<- e2];exact k
theorem vQ {L:Int}:∀{ps:List Q2},Pos ps->(∀p∈ps,p.2 ∣ L)->∀i,i<=ps.length->dY (ps.take i) ∣ L/\1<=dY (ps.take i)
 |ps,hp,h,0,_=>⟨Int.one_dvd _,by rw[take_zero];decide⟩
 |ps,hp,h,i+1,hi=>by
  obtain⟨a,b⟩:=vQ hp h i (by lia);have hm:ps[i]?=some ps[i]:=getElem?_eq_getElem (by lia);have mem:=mem_of_getElem? hm;rw[mM hm];refine⟨Os b (hp _ mem) a (h _ mem),?_⟩;have:=rE (ps:=ps.take (i+1)) (fun p hp'=>hp p (mem_of_mem_take hp'))
  rwa [mM hm] at this
end Mq
namespace Shp
open PySem L2
abbrev bw (n m:Nat):Nat:=(n+5)*(m+1)+8
def Go (K:Frag):Sp:=fun vs H Q _=>∃(l D:Addr) (zs:List V) (R:List (List Int)) (m w n:Nat) (Pr:List (List Int)->Prop),vs=[.ref l,.int (m:Int)]/\SqL K H l zs/\Imx D H zs R/\R.length=m/\(∀i,i < m->(R.getD i []).length=w)/\m<=w/\w<=100/\BdR n R/\1<=n/\bw n m<=9000/\m<=31/\Pr R/\Stp m w (Mq.at2 R) Pr/\
 ∀d l' zs' R' rank pivot sign H',aY H H'->H d=none->H l'=none->H' d=some (Mg l' rank pivot sign)->H' l'=some (.lst zs')->Imx l' H' zs' R'->SI m w (Mq.at2 R) R' rank m pivot sign->BdR (bw n m) R'->Mq.B (bw n m) pivot->Pr R'->Q (.ref d) H'
end Shp
namespace L2
open PySem PySem.Spec PyProof.Rows
section
variable (u:Nat->Rat)
def fw (d:RD)(h:Nat):Rat:=match d.1 with
 | .pc=>(u d.2.1.toNat - u d.2.2.1.toNat)*(1 / Mq.val d.2.2.2)
 | .pu=>0
 | .ho=>u h
def nt:Nat->List RD->Nat->Rat
 |_,[],_=>0
 |h,d :: ds,p=>fw u d h*dl d.2.1.toNat d.2.2.1.toNat p+nt (h+bL d.1) ds p
def hw:Nat->List RD->Nat->Rat
 |_,[],_=>0
 |h,d :: ds,y=>(if d.1=.ho/\h=y then u d.2.1.toNat - u d.2.2.1.toNat else 0)+hw (h+bL d.1) ds y
def eg:Nat->List RD->Rat
 |_,[]=>0
 |h,d :: ds=>fw u d h*(u d.2.1.toNat - u d.2.2.1.toNat)+eg (h+bL d.1) ds
end
section
variable {u:Nat->Rat} {m N:Nat}
theorem Bm (F:Nat->Rat){n s g:Nat}(hs:s < n)(hg:g < n):Mq.rs n (fun p=>F p*dl s g p)=F s - F g:=by
 have e:∀p,F p*dl s g p=(if s=p then F p else 0) + - (if g=p then F p else 0):=fun p=>by
  unfold dl
  by_cases a:s=p<;>by_cases b:g=p<;>simp only[a,b,if_true,if_false]<;>grind
 rw[aS fun p _=>e p,eK,oB,Dn,Dn,if_pos hs,if_pos hg];grind
theorem Yi {n s g:Nat}(u0:u 0=0)(hs:s<=n)(hg:g<=n):Mq.rs n (fun i=>u (i+1)*dl s g (i+1))=u s - u g:=by
 have:=Bm u (n:=n+1) (s:=s) (g:=g) (by lia) (by lia);rw[rW,u0] at this;grind
theorem Zs (u0:u 0=0){d:RD}{h y:Nat}(pt:cO (m:Int) d.2.1 d.2.2.1)(hm:m<=N+1)(h1:1<=h)(hh:d.1=.ho->h<=N):Mq.rs N (fun i=>u (i+1)*cM d h (i+1) y)=fw u d h*dl d.2.1.toNat d.2.2.1.toNat y+(if d.1=.ho/\h=y then u d.2.1.toNat - u d.2.2.1.toNat else 0):=by
 obtain⟨a,b,c,e⟩:=pt;have base:=Yi (u:=u) (n:=N) (s:=d.2.1.toNat) (g:=d.2.2.1.toNat) u0 (by lia) (by lia);unfold cM fw
 cases hk:d.1 with
 |pc=>
  dsimp only;rw[if_neg (fun z=>by cases z.1)];have:∀i,u (i+1)*(dl d.2.1.toNat d.2.2.1.toNat (i+1)*dl d.2.1.toNat d.2.2.1.toNat y*(1 / Mq.val d.2.2.2))=(dl d.2.1.toNat d.2.2.1.toNat y*(1 / Mq.val d.2.2.2))*(u (i+1)*dl d.2.1.toNat d.2.2.1.toNat (i+1)):=fun i=>by grind
  rw[aS fun i _=>this i,dM,base];grind
 |pu=>
  dsimp only;rw[if_neg (fun z=>by cases z.1)];have:∀i,u (i+1)*(0:Rat)=0:=fun i=>by grind
  rw[aS fun i _=>this i,Mq.dB];grind
 |ho=>
  dsimp only;have hN:=hh hk;have one:Mq.rs N (fun i=>u (i+1)*(if h=i+1 then 1 else 0))=u h:=by
   have:∀i,u (i+1)*(if h=i+1 then (1:Rat) else 0)=if h - 1=i then u (i+1) else 0:=fun i=>by
    by_cases z:h=i+1
    ·rw[if_pos z,if_pos (by lia)];grind
    ·rw[if_neg z,if_neg (by lia)];grind
   rw[aS fun i _=>this i,Dn,if_pos (by lia),show h - 1+1=h by lia]
  have:∀i,u (i+1)*(dl d.2.1.toNat d.2.2.1.toNat (i+1)*(if h=y then 1 else 0)+(if h=i+1 then 1 else 0)*dl d.2.1.toNat d.2.2.1.toNat y)=(if h=y then 1 else 0)*(u (i+1)*dl d.2.1.toNat d.2.2.1.toNat (i+1))+dl d.2.1.toNat d.2.2.1.toNat y*(u (i+1)*(if h=i+1 then 1 else 0)):=fun i=>by grind
  rw[aS fun i _=>this i,eK,dM,dM,base,one]
  by_cases z:h=y
  ·rw[if_pos z,if_pos ⟨rfl,z⟩];grind
  ·rw[if_neg z,if_neg (fun q=>z q.2)];grind
theorem Dp (u0:u 0=0)(hm:m<=N+1)(y:Nat):∀(ds:List RD) (h:Nat),(∀d∈ds,cO (m:Int) d.2.1 d.2.2.1)->1<=h->h+bG ds<=N+1->Mq.rs N (fun i=>u (i+1)*eqM h ds (i+1) y)=nt u h ds y+hw u h ds y
 | [],h,_,_,_=>by
  have:∀i,u (i+1)*eqM h [] (i+1) y=0:=fun i=>by show u (i+1)*(0:Rat)=0;grind
  rw[aS fun i _=>this i,Mq.dB];show (0:Rat)=0+0;grind
 |d :: ds,h,pt,h1,hN=>by
  rw[cY] at hN;have ih:=Dp u0 hm y ds (h+bL d.1) (fun e he=>pt e (mem_cons_of_mem _ he)) (by lia) (by lia);have c:=Zs (u:=u) (N:=N) (h:=h) (y:=y) u0 (pt d (by simp)) hm h1 (fun z=>by rw[z] at hN;have:bL .ho=1:=rfl;lia);have:∀i,u (i+1)*eqM h (d :: ds) (i+1) y=u (i+1)*cM d h (i+1) y+u (i+1)*eqM (h+bL d.1) ds (i+1) y:=fun i=>by
   show u (i+1)*(cM d h (i+1) y+eqM (h+bL d.1) ds (i+1) y)=_;grind
  rw[aS fun i _=>this i,eK,ih,c];show _=(fw u d h*dl d.2.1.toNat d.2.2.1.toNat y+nt u (h+bL d.1) ds y)+((if d.1=.ho/\h=y then u d.2.1.toNat - u d.2.2.1.toNat else 0)+hw u (h+bL d.1) ds y)
  grind
theorem Hh {y:Nat}:∀(ds:List RD) (h:Nat),y < h->hw u h ds y=0
 | [],_,_=>rfl
 |d :: ds,h,hy=>by
  show (if d.1=.ho/\h=y then u d.2.1.toNat - u d.2.2.1.toNat else 0)+hw u (h+bL d.1) ds y=0;rw[if_neg (fun z=>by lia),Hh ds (h+bL d.1) (by lia)];grind
theorem Cf {y:Nat}:∀(ds:List RD) (h:Nat),(∀d∈ds,cO (m:Int) d.2.1 d.2.2.1)->m<=y->nt u h ds y=0
 | [],_,_,_=>rfl
 |d :: ds,h,pt,hy=>by
  obtain⟨a,b,c,e⟩:=pt d (by simp);show fw u d h*dl d.2.1.toNat d.2.2.1.toNat y+nt u (h+bL d.1) ds y=0;rw[Cf ds (h+bL d.1) (fun e he=>pt e (mem_cons_of_mem _ he)) hy];unfold dl;rw[if_neg (by lia),if_neg (by lia)];grind
theorem Eu:∀(ds:List RD) (h:Nat),(∀y,h<=y->y < h+bG ds->hw u h ds y=0)->∀d∈ds,d.1=.ho->u d.2.1.toNat=u d.2.2.1.toNat
 | [],_,_,_,hd,_=>by cases hd
 |e :: ds,h,all,d,hd,hk=>by
  by_cases he:e.1=.ho
  ·have c1:bL e.1=1:=by rw[he];rfl
   have first:=all h (Nat.le_refl _) (by rw[cY];lia)
   have f1:(if e.1=.ho/\h=h then u e.2.1.toNat - u e.2.2.1.toNat else 0)+hw u (h+bL e.1) ds h=0:=first
   rw[if_pos ⟨he,rfl⟩,Hh ds (h+bL e.1) (by lia)] at f1;rcases mem_cons.mp hd with rfl | hd
   ·grind
   ·refine Eu ds (h+bL e.1) (fun y hy hl=>?_) d hd hk;have:=all y (by lia) (by rw[cY];lia);have f2:(if e.1=.ho/\h=y then u e.2.1.toNat - u e.2.2.1.toNat else 0)+hw u (h+bL e.1) ds y=0:=this;rw[if_neg (fun z=>by lia)] at f2;grind
  ·have c0:bL e.1=0:=if_neg he;rcases mem_cons.mp hd with rfl | hd
   ·exact absurd hk he
   ·refine Eu ds (h+bL e.1) (fun y hy hl=>?_) d hd hk;have:=all y (by lia) (by rw[cY];lia);have f2:(if e.1=.ho/\h=y then u e.2.1.toNat - u e.2.2.1.toNat else 0)+hw u (h+bL e.1) ds y=0:=this;rw[if_neg (fun z=>he z.1)] at f2;grind
theorem Ux:∀(ds:List RD) (h:Nat),(∀d∈ds,cO (m:Int) d.2.1 d.2.2.1)->Mq.rs m (fun p=>u p*nt u h ds p)=eg u h ds
 | [],h,_=>by
  have:∀p,u p*nt u h [] p=0:=fun p=>by show u p*(0:Rat)=0;grind
  rw[aS fun p _=>this p,Mq.dB];rfl
 |d :: ds,h,pt=>by
  have ih:=Ux ds (h+bL d.1) (fun e he=>pt e (mem_cons_of_mem _ he));obtain⟨a,b,c,e⟩:=pt d (by simp);have base:=Bm u (n:=m) (s:=d.2.1.toNat) (g:=d.2.2.1.toNat) (by lia) (by lia);have:∀p,u p*nt u h (d :: ds) p=fw u d h*(u p*dl d.2.1.toNat d.2.2.1.toNat p)+u p*nt u (h+bL d.1) ds p:=fun p=>by
   show u p*(fw u d h*dl d.2.1.toNat d.2.2.1.toNat p+nt u (h+bL d.1) ds p)=_;grind
  rw[aS fun p _=>this p,eK,dM,base,ih];rfl
theorem qd1 (x:Rat):0<=x*x:=by
 rcases Rat.le_total (a:=0) (b:=x) with h | h
 ·exact Rat.mul_nonneg h h
 ·have:0<=(-x)*(-x):=Rat.mul_nonneg (by grind) (by grind);grind
theorem Qo {a:Rat}(h:0 < a):0 < 1 / a:=by
 rw[Rat.div_def,Rat.one_mul];exact Rat.inv_pos.mpr h
theorem Vm:∀(ds:List RD) (h:Nat),(∀d∈ds,d.1=.pc->0 < Mq.val d.2.2.2)->(∀d∈ds,d.1=.ho->u d.2.1.toNat=u d.2.2.1.toNat)->0<=eg u h ds/\(eg u h ds=0->∀d∈ds,d.1=.pc->u d.2.1.toNat=u d.2.2.1.toNat)
 | [],_,_,_=>⟨Rat.le_refl,fun _ d hd=>by cases hd⟩
 |e :: ds,h,pos,ho=>by
  obtain⟨i1,i2⟩:=Vm ds (h+bL e.1) (fun d hd=>pos d (mem_cons_of_mem _ hd)) (fun d hd=>ho d (mem_cons_of_mem _ hd));have eq:eg u h (e :: ds)=fw u e h*(u e.2.1.toNat - u e.2.2.1.toNat)+eg u (h+bL e.1) ds:=rfl;rw[eq];generalize eg u (h+bL e.1) ds=r at i1 i2;have t:0<=fw u e h*(u e.2.1.toNat - u e.2.2.1.toNat)/\(e.1=.pc->fw u e h*(u e.2.1.toNat - u e.2.2.1.toNat)=0->u e.2.1.toNat=u e.2.2.1.toNat):=by
   unfold fw
   cases hk:e.1 with
   |pu=>exact⟨by grind,fun z=>by cases z⟩
   |ho=>exact⟨by rw[ho e (by simp) hk];grind,fun z=>by cases z⟩
   |pc=>
    dsimp only;have p:=Qo (pos e (by simp) hk);generalize 1 / Mq.val e.2.2.2=q at p;generalize u e.2.1.toNat=a;generalize u e.2.2.1.toNat=b;have e2:(a - b)*q*(a - b)=q*((a - b)*(a - b)):=by grind
    rw[e2];refine⟨Rat.mul_nonneg (Rat.le_of_lt p) (qd1 _),fun _ z=>?_⟩;have q0:q≠0:=fun z=>by rw[z] at p;exact absurd p (by decide)
    have:(a - b)*(a - b)=0:=by grind
    have:a - b=0:=by grind
    grind
  obtain⟨t1,t2⟩:=t;generalize fw u e h*(u e.2.1.toNat - u e.2.2.1.toNat)=x at t1 t2;refine⟨by grind,fun z d hd hk=>?_⟩;have x0:x=0:=by grind
  have r0:r=0:=by grind
  rcases mem_cons.mp hd with rfl | hd
  ·exact t2 hk x0
  ·exact i2 r0 d hd hk
theorem xX (d:RD)(p:Nat):∀(ds:List RD) (h:Nat),nt u h (ds++[d]) p=nt u h ds p+fw u d (h+bG ds)*dl d.2.1.toNat d.2.2.1.toNat p
 | [],h=>by show fw u d h*_+0=0+fw u d (h+0)*_;rw[Nat.add_zero];grind
 |e :: ds,h=>by
  show fw u e h*_+nt u (h+bL e.1) (ds++[d]) p=fw u e h*_+nt u (h+bL e.1) ds p+_;rw[xX d p ds,cY,Nat.add_assoc];grind
theorem Cj (F:Nat->Rat):∀(ds:List RD) (h:Nat),(∀d∈ds,cO (m:Int) d.2.1 d.2.2.1)->(∀d∈ds,d.1=.pc->u d.2.1.toNat=u d.2.2.1.toNat)->(∀d∈ds,d.1=.ho->F d.2.1.toNat=F d.2.2.1.toNat)->Mq.rs m (fun p=>F p*nt u h ds p)=0
 | [],h,_,_,_=>by
  have:∀p,F p*nt u h [] p=0:=fun p=>by show F p*(0:Rat)=0;grind
  rw[aS fun p _=>this p,Mq.dB]
 |d :: ds,h,pt,hu,hF=>by
  have ih:=Cj F ds (h+bL d.1) (fun e he=>pt e (mem_cons_of_mem _ he)) (fun e he=>hu e (mem_cons_of_mem _ he)) (fun e he=>hF e (mem_cons_of_mem _ he));obtain⟨a,b,c,e⟩:=pt d (by simp);have base:=Bm F (n:=m) (s:=d.2.1.toNat) (g:=d.2.2.1.toNat) (by lia) (by lia);have:∀p,F p*nt u h (d :: ds) p=fw u d h*(F p*dl d.2.1.toNat d.2.2.1.toNat p)+F p*nt u (h+bL d.1) ds p:=fun p=>by
   show F p*(fw u d h*dl d.2.1.toNat d.2.2.1.toNat p+nt u (h+bL d.1) ds p)=_;grind
  rw[aS fun p _=>this p,eK,dM,base,ih]
  cases hk:d.1 with
  |pu=>
   have:fw u d h=0:=by unfold fw;rw[hk]
   rw[this];grind
  |pc=>
   have:fw u d h=0:=by unfold fw;rw[hk];dsimp only;rw[hu d (by simp) hk];grind
   rw[this];grind
  |ho=>rw[hF d (by simp) hk];grind
def Frs (ds:List RD):Prop:=∀(A B:List RD) (d:RD),ds=A++d :: B->d.1=.ho->¬Cn (eT .ho A) d.2.1.toNat d.2.2.1.toNat
theorem Ge:∀(n:Nat) (ds:List RD) (h:Nat),ds.length=n->(∀d∈ds,cO (m:Int) d.2.1 d.2.2.1)->Frs ds->(∀d∈ds,d.1=.pc->u d.2.1.toNat=u d.2.2.1.toNat)->(∀p,p < m->nt u h ds p=0)->∀y,h<=y->y < h+bG ds->u y=0
 |0,ds,h,hl,_,_,_,_,y,h1,h2=>by
  have:ds=[]:=length_eq_zero_iff.mp hl;subst this;have:bG ([]:List RD)=0:=rfl;lia
 |n+1,ds,h,hl,pt,fr,hu,ze,y,h1,h2=>by
  obtain⟨es,d,rfl⟩:∃es d,ds=es++[d]:=⟨ds.dropLast,ds.getLast (by intro z;rw[z] at hl;cases hl),(dropLast_concat_getLast _).symm⟩
  have le:es.length=n:=by rw[List.length_append] at hl;simpa using hl
  have pe:∀x∈es,cO (m:Int) x.2.1 x.2.2.1:=fun x hx=>pt x (mem_append_left _ hx);have ue:∀x∈es,x.1=.pc->u x.2.1.toNat=u x.2.2.1.toNat:=fun x hx=>hu x (mem_append_left _ hx);have fe:Frs es:=fun A B x e hx=>fr A (B++[d]) x (by rw[e];simp) hx;obtain⟨i0,i1,j0,j1⟩:=pt d (by simp);have f0:fw u d (h+bG es)=0:=by
   cases hk:d.1 with
   |pu=>unfold fw;rw[hk]
   |pc=>unfold fw;rw[hk];dsimp only;rw[hu d (by simp) hk];grind
   |ho=>
    open Classical in
    have nc:=fr es [] d rfl hk
    let F:Nat->Rat:=fun p=>if Cn (eT .ho es) d.2.1.toNat p then 1 else 0
    have s1:=Cj (u:=u) (m:=m) F es h pe ue (fun x hx hk'=>by
     show (if Cn (eT .ho es) d.2.1.toNat x.2.1.toNat then (1:Rat) else 0)=if Cn (eT .ho es) d.2.1.toNat x.2.2.1.toNat then 1 else 0
     have r:Cn (eT .ho es) x.2.1.toNat x.2.2.1.toNat:=.row (mem_filter.mpr ⟨hx,decide_eq_true hk'⟩) (by rw[hk'];exact fun z=>by cases z)
     by_cases c:Cn (eT .ho es) d.2.1.toNat x.2.1.toNat
     ·rw[if_pos c,if_pos (c.trans r)]
     ·rw[if_neg c,if_neg (fun z=>c (z.trans r.symm))])
    have s2:Mq.rs m (fun p=>F p*nt u h (es++[d]) p)=0:=by
     have:∀p,p < m->F p*nt u h (es++[d]) p=0:=fun p hp=>by rw[ze p hp];grind
     rw[aS this,Mq.dB]
    have e3:∀p,F p*nt u h (es++[d]) p=F p*nt u h es p+fw u d (h+bG es)*(F p*dl d.2.1.toNat d.2.2.1.toNat p):=fun p=>by rw[xX];grind
    rw[aS fun p _=>e3 p,eK,s1,dM,Bm F (by lia) (by lia)] at s2;have Fs:F d.2.1.toNat=1:=if_pos (.refl _);have Fg:F d.2.2.1.toNat=0:=if_neg nc;rw[Fs,Fg] at s2;grind
  have ze':∀p,p < m->nt u h es p=0:=fun p hp=>by
   have:=ze p hp;rw[xX,f0] at this;grind
  rw[iD] at h2
  by_cases c:y < h+bG es
  ·exact Ge n es h le pe fe ue ze' y h1 c
  ·have hk:d.1=.ho:=Classical.byContradiction fun z=>by
    have:bL d.1=0:=if_neg z;lia
   have c1:bL d.1=1:=by rw[hk];rfl
   have:y=h+bG es:=by lia
   rw[this];unfold fw at f0;rw[hk] at f0;exact f0
theorem Gq {ds:List RD}(hm1:1<=m)(pt:∀d∈ds,cO (m:Int) d.2.1 d.2.2.1)(pos:∀d∈ds,d.1=.pc->0 < Mq.val d.2.2.2)(cn:∀p,p < m->Cn ds 0 p)(fr:Frs ds)(u0:u 0=0)(ze:∀y,1<=y->y<=m - 1+bG ds->Mq.rs (m - 1+bG ds) (fun i=>u (i+1)*eqM m ds (i+1) y)=0):∀y,y<=m - 1+bG ds->u y=0:=by
 have ze2:∀y,1<=y->y<=m - 1+bG ds->nt u m ds y+hw u m ds y=0:=fun y a b=>by
  have:=ze y a b;rw[Dp (m:=m) u0 (by lia) y ds m pt hm1 (by lia)] at this;exact this
 have hf:=Eu (u:=u) ds m (fun y a b=>by
  have:=ze2 y (by lia) (by lia);rw[Cf ds m pt a] at this;grind)
 have np:∀p,1<=p->p < m->nt u m ds p=0:=fun p a b=>by
  have:=ze2 p a (by lia);rw[Hh ds m b] at this;grind
 have e0:eg u m ds=0:=by
  rw[<- Ux (u:=u) (m:=m) ds m pt];have:∀p,p < m->u p*nt u m ds p=0:=fun p hp=>by
   by_cases c:p=0
   ·rw[c,u0];grind
   ·rw[np p (by lia) hp];grind
  rw[aS this,Mq.dB]
 have pf:=(Vm (u:=u) ds m pos hf).2 e0;have cz:∀p,p < m->u p=0:=fun p hp=>by
  have:=Cn.ind (R:=fun a b=>u a=u b) (fun _=>rfl) (fun _ _ e=>e.symm) (fun _ _ _ a b=>a.trans b) (fun d hd hk=>by
   cases h:d.1 with
   |pc=>exact pf d hd h
   |pu=>exact absurd h hk
   |ho=>exact hf d hd h) (cn p hp)
  rw[<- this,u0]
 have all:∀p,p < m->nt u m ds p=0:=fun p hp=>by
  by_cases c:p=0
  ·have s:=Cj (u:=u) (m:=m) (fun _=>1) ds m pt pf (fun _ _ _=>rfl);obtain⟨k,rfl⟩:∃k,m=k+1:=⟨m - 1,by lia⟩
   rw[rW] at s;have:∀i,i < k->(1:Rat)*nt u (k+1) ds (i+1)=0:=fun i hi=>by rw[np (i+1) (by lia) (by lia)];grind
   rw[aS this,Mq.dB] at s;rw[c];grind
  ·exact np p (by lia) hp
 have hz:=Ge (u:=u) (m:=m) _ ds m rfl pt fr pf all;intro y hy
 by_cases c:y < m
 ·exact cz y c
 ·exact hz y (by lia) (by lia)
end
open Shp
section
variable {m N:Nat} {ds:List RD}
theorem Re (d:RD)(h x y:Nat):cM d h x y=cM d h y x:=by
 unfold cM
 cases d.1<;>dsimp only<;>grind
theorem rT:∀(ds:List RD) (h x y:Nat),eqM h ds x y=eqM h ds y x
 | [],_,_,_=>rfl
 |d :: ds,h,x,y=>by
  show cM d h x y+eqM (h+bL d.1) ds x y=cM d h y x+eqM (h+bL d.1) ds y x;rw[Re,rT ds]
structure Nof (m:Nat) (ds:List RD):Prop where
 m1:1<=m
 pt:∀d∈ds,cO (m:Int) d.2.1 d.2.2.1
 pos:∀d∈ds,d.1=.pc->0 < Mq.val d.2.2.2
 cn:∀p,p < m->Cn ds 0 p
 fr:Frs ds
theorem Nof.uni (o:Nof m ds){v w:Nat->Rat}{r:Nat->Rat}(hv:∀i,i < m - 1+bG ds->(Mq.rs (m - 1+bG ds) fun j=>eqM m ds (i+1) (j+1)*v j)=r i)(hw:∀i,i < m - 1+bG ds->(Mq.rs (m - 1+bG ds) fun j=>eqM m ds (i+1) (j+1)*w j)=r i):∀j,j < m - 1+bG ds->v j=w j:=by
 have:=Gq (u:=fun x=>if x=0 then 0 else v (x - 1) - w (x - 1)) o.m1 o.pt o.pos o.cn o.fr (if_pos rfl) (fun y y1 yn=>by
  have e:∀i,i < m - 1+bG ds->(if i+1=0 then (0:Rat) else v (i+1 - 1) - w (i+1 - 1))*eqM m ds (i+1) y=eqM m ds (y - 1+1) (i+1)*v i + - (eqM m ds (y - 1+1) (i+1)*w i):=fun i _=>by
   rw[if_neg (by lia),Nat.add_sub_cancel,rT ds m (i+1) y,show y - 1+1=y by lia];grind
  rw[aS e,eK,oB,hv (y - 1) (by lia),hw (y - 1) (by lia)];grind)
 intro j hj;have:=this (j+1) (by lia);rw[if_neg (by lia),Nat.add_sub_cancel] at this;grind
theorem Xm {X:List (List Q2)}{Y:List Q2}(e:zV m ds N X Y):X.length=m - 1+bG ds:=e.x.h
theorem Pj {X:List (List Q2)}{Y:List Q2}(e:zV m ds N X Y)(i j:Nat):pU X i j=eqM m ds (i+1) (j+1):=e.vx i j
end
end L2
namespace Shp
open PySem L2
theorem Fn {m w:Nat}{R0:List (List Int)}(hl:R0.length=m)(hw:∀i,i < m->(R0.getD i []).length=w)(hmw:m<=w){Pr:List (List Int)->Prop}(h0:Pr R0)(st:Stp m w (Mq.at2 R0) Pr):∀col,col<=m->∃R r d sg,SI m w (Mq.at2 R0) R r col d sg/\Pr R
 |0,_=>⟨R0,0,1,1,.start hl hw,h0⟩
 |col+1,hc=>by
  obtain⟨R,r,d,sg,S,p⟩:=Fn hl hw hmw h0 st col (by lia)
  by_cases hz:∀i,r<=i->i < m->ent R i col=0
  ·exact⟨R,r,d,sg,S.skip hz,p⟩
  ·obtain⟨i,hi⟩:=Classical.not_forall.mp hz;obtain⟨h1,hi⟩:=Classical.not_imp.mp hi;obtain⟨h2,ne⟩:=Classical.not_imp.mp hi
   by_cases e:i=r
   ·subst e;exact⟨_,_,_,_,S.clear h2 (by lia) ne,st.cl R i col d sg S h2 (by lia) ne p⟩
   ·have hlt:r < i:=by lia
    have S2:=S.swap hlt h2;have p2:=st.sw R r col d sg i S hlt h2 p;have ne2:ent (fP R i r) r col≠0:=by
     have:=zQ (R:=R) (p:=i) (r:=r) (by rw[S.len];lia) (by rw[S.len];lia) r;unfold ent at ne ⊢;rw[this,show Mq.sw i r r=i by unfold Mq.sw;simp];exact ne
    exact⟨_,_,_,_,S2.clear (by lia) (by lia) ne2,st.cl _ r col d (-sg) S2 (by lia) (by lia) ne2 p2⟩
theorem Tf {X:List (List Q2)}(xP:fK X)(hw:∀row∈X,row.length=X.length)(m1:1<=X.length)(hz:wgt X=0):∃v:Nat->Rat,(∃j,j < X.length/\v j≠0)/\∀x,x < X.length->(Mq.rs X.length fun j=>v j*pU X j x)=0:=by
 obtain⟨R,r,d,sg,S,L⟩:=Fn (m:=X.length) (w:=X.length+X.length) (R0:=kB X) (Pz X) (fun i hi=>by rw[tU hi,As,hw _ (mem_of_getElem? (uT hi))]) (by lia) (Sc xP hw) Zd X.length (Nat.le_refl _);have wr:=Mv xP (Rq fun i j hi hj=>vP xP hw hi hj) S;have hr:r < X.length:=by
  rcases wr with z | z
  ·exact z.1
  ·exact absurd hz z.2
 obtain⟨⟨k0,hk0,nk0⟩,hsum⟩:=L.lame S hr;refine⟨fun k=>Mq.at2 R (X.length - 1) (X.length+k),⟨k0,hk0,fun z=>?_⟩,hsum⟩;exact nk0 (Rat.intCast_inj.mp (by unfold Mq.at2 at z;simpa using z))
end Shp
namespace L2
open Shp
theorem Nof.wgt_ne {m N:Nat}{ds:List RD}(o:Nof m ds){X:List (List Q2)}{Y:List Q2}(e:zV m ds N X Y)(xP:fK X)(hw:∀row∈X,row.length=X.length)(m1:1<=X.length):wgt X≠0:=fun hz=>by
 obtain⟨v,⟨j,hj,vj⟩,hs⟩:=Tf xP hw m1 hz;have n:=Xm e;have z:=Gq (u:=fun x=>if x=0 then 0 else v (x - 1)) o.m1 o.pt o.pos o.cn o.fr (if_pos rfl) (fun y y1 yn=>by
  have s:=hs (y - 1) (by lia);rw[n] at s;rw[<- s];refine aS fun i _=>?_;rw[if_neg (by lia),Nat.add_sub_cancel,Pj e,show y - 1+1=y by lia])
 have:=z (j+1) (by lia);rw[if_neg (by lia),Nat.add_sub_cancel] at this;exact vj this
end L2
namespace Mq
theorem Pk {p:Q2}(l:Low p){a L:Int}(hL:1<=L)(h:val p=(a:Rat) / (L:Rat)):p.2 ∣ L/\p.1.natAbs<=a.natAbs:=by
 have h2:((p.2:Int):Rat)≠0:=by have:=l.pos;exact_mod_cast (show p.2≠0 by lia)
 have hl:((L:Int):Rat)≠0:=by exact_mod_cast (show L≠0 by lia)
 have e:p.1*L=a*p.2:=by
  unfold val at h;have:((p.1:Int):Rat)*(L:Rat)=(a:Rat)*((p.2:Int):Rat):=by grind
  exact_mod_cast this
 have d:p.2 ∣ L:=by
  have c:Int.gcd p.2 p.1=1:=by
   have:=l.one;unfold gc at this;rw[Int.gcd_comm];exact_mod_cast this
  have c':Nat.Coprime p.2.natAbs p.1.natAbs:=c;have dv:p.2.natAbs ∣ p.1.natAbs*L.natAbs:=by
   rw[<- Int.natAbs_mul,e,Int.natAbs_mul];exact Nat.dvd_mul_left ..
  exact Int.natAbs_dvd_natAbs.mp (c'.dvd_of_dvd_mul_left dv)
 obtain⟨t,ht⟩:=d;have t1:t≠0:=fun z=>by rw[z,Int.mul_zero] at ht;lia
 have e2:p.1*t=a:=by
  have:p.2*(p.1*t)=p.2*a:=by
   rw[Int.mul_comm p.2 a,<- e,ht,<- Int.mul_assoc,<- Int.mul_assoc,Int.mul_comm p.2 p.1]
  exact Int.eq_of_mul_eq_mul_left (by have:=l.pos;lia) this
 refine⟨⟨t,ht⟩,?_⟩;rw[<- e2,Int.natAbs_mul];exact Nat.le_mul_of_pos_right _ (by lia)
def Fr (L:Int)(M:Nat)(x:Rat):Prop:=∃a:Int,x=(a:Rat) / (L:Rat)/\a.natAbs<=M*L.natAbs
section
variable {L K:Int} {M N:Nat} {x y:Rat}
theorem nH (h:1<=L):((L:Int):Rat)≠0:=by exact_mod_cast (show L≠0 by lia)
theorem Fr.mono (h:Fr L M x)(l:M<=N):Fr L N x:=by
 obtain⟨a,e,b⟩:=h;exact⟨a,e,Nat.le_trans b (Nat.mul_le_mul_right _ l)⟩
theorem Fr.zero:Fr L 0 0:=⟨0,by rw[show ((0:Int):Rat)=0 by rfl,Rat.div_def];grind,by simp⟩
theorem Fr.one (h:1<=L):Fr L 1 1:=⟨L,by have:=nH h;grind,by lia⟩
theorem Fr.add (h:Fr L M x)(g:Fr L N y):Fr L (M+N) (x+y):=by
 obtain⟨a,ea,ba⟩:=h;obtain⟨b,eb,bb⟩:=g;refine⟨a+b,?_,?_⟩
 ·rw[ea,eb,Rat.intCast_add,Rat.div_def,Rat.div_def,Rat.div_def];grind
 ·rw[Nat.add_mul];have:=Int.natAbs_add_le a b;lia
theorem Fr.neg (h:Fr L M x):Fr L M (-x):=by
 obtain⟨a,ea,ba⟩:=h;refine⟨-a,?_,by rw[Int.natAbs_neg];exact ba⟩;rw[ea,Rat.intCast_neg,Rat.div_def,Rat.div_def];grind
theorem Fr.mul (hL:1<=L)(hK:1<=K)(h:Fr L M x)(g:Fr K N y):Fr (L*K) (M*N) (x*y):=by
 obtain⟨a,ea,ba⟩:=h;obtain⟨b,eb,bb⟩:=g;refine⟨a*b,?_,?_⟩
 ·have:=nH hL;have:=nH hK;rw[ea,eb,Rat.intCast_mul,Rat.intCast_mul];grind
 ·rw[Int.natAbs_mul,Int.natAbs_mul];have:=Nat.mul_le_mul ba bb;rw[show M*N*(L.natAbs*K.natAbs)=M*L.natAbs*(N*K.natAbs) by rw[Nat.mul_assoc,Nat.mul_assoc,Nat.mul_left_comm N]];exact this
theorem Fr.lift (hL:1<=L)(hK:1<=K)(h:Fr L M x):Fr (L*K) M x:=by
 have:=Fr.mul hL hK h (Fr.one hK)
 rwa [Nat.mul_one,Rat.mul_one] at this
theorem Fr.of (hL:1<=L){t b:Int}(hb:1<=b)(d:b ∣ L)(ht:t.natAbs<=M):Fr L M ((t:Rat) / (b:Rat)):=by
 obtain⟨k,rfl⟩:=d;have k1:1<=k:=by
  rcases Int.lt_or_le k 1 with z | z
  ·have:=Int.mul_nonpos_of_nonneg_of_nonpos (show 0<=b by lia) (show k<=0 by lia);lia
  ·exact z
 refine⟨t*k,?_,?_⟩
 ·have:=nH hb;have:=nH k1;rw[Rat.intCast_mul,Rat.intCast_mul];grind
 ·rw[Int.natAbs_mul,Int.natAbs_mul];refine Nat.mul_le_mul ht (Nat.le_mul_of_pos_left _ (by lia))
theorem Fr.get (h:Fr L M x){m n b:Nat}(hM:M < 2 ^ m)(hL:B n L)(hb:m+n<=b):∃a:Int,B b a/\x=(a:Rat) / (L:Rat):=by
 obtain⟨a,ea,ba⟩:=h;refine⟨a,?_,ea⟩;refine B.mono (n:=m+n) ?_ hb;show a.natAbs < 2 ^ (m+n);rw[Nat.pow_add];have hL:L.natAbs < 2 ^ n:=hL;exact Nat.lt_of_le_of_lt ba (Nat.mul_lt_mul'' hM hL)
end
theorem Et {L:Int}{p:Q2}{u:Nat}(hL:1<=L)(l:Low p)(d:p.2 ∣ L)(b:Bd u p):Fr L (2 ^ u) (val p):=Fr.of hL l.pos d (Nat.le_of_lt b.a)
def prB:List Int->Int
 | []=>1
 |a :: r=>a*prB r
theorem Gg:∀{l:List Int},(∀a∈l,1<=a)->1<=prB l
 | [],_=>Int.le_refl _
 |a :: r,h=>by
  have h1:=h a (by simp);have h2:=Gg (l:=r) fun b hb=>h b (mem_cons_of_mem _ hb);have:=Int.mul_pos (show 0 < a by lia) (show 0 < prB r by lia);show 1<=a*prB r;lia
theorem Hq:∀{l:List Int} {a:Int},a∈l->a ∣ prB l
 |b :: r,a,h=>by
  rcases mem_cons.mp h with z | z
  ·rw[z];exact Int.dvd_mul_right ..
  ·exact Int.dvd_trans (Hq z) (Int.dvd_mul_left ..)
theorem Vr {u:Nat}:∀{l:List Int},(∀a∈l,B u a)->B (u*l.length+1) (prB l)
 | [],_=>show (1:Nat) < 2 ^ (u*0+1) by rw[Nat.mul_zero];decide
 |a :: r,h=>by
  have h1:=h a (by simp);have h2:=Vr (l:=r) fun b hb=>h b (mem_cons_of_mem _ hb);exact(h1.mul h2).mono (by rw[length_cons,Nat.mul_succ];lia)
end Mq
namespace L2
theorem Qh (s g x:Nat):dl s g x=1\/dl s g x=0\/dl s g x=-1:=by
 unfold dl
 by_cases a:s=x<;>by_cases b:g=x<;>simp only[a,b,if_true,if_false]
 ·exact .inr (.inl (by grind))
 ·exact .inl (by grind)
 ·exact .inr (.inr (by grind))
 ·exact .inr (.inl (by grind))
theorem wH {L:Int}{M:Nat}{y:Rat}(h:Mq.Fr L M y)(s g x:Nat):Mq.Fr L M (dl s g x*y):=by
 rcases Qh s g x with e | e | e
 ·rw[e,Rat.one_mul];exact h
 ·rw[e,Rat.zero_mul];exact Mq.Fr.zero.mono (Nat.zero_le _)
 ·rw[e,show (-1:Rat)*y=-y by grind];exact h.neg
open PySem PySem.Spec PyProof.Rows Shp
abbrev Ent:=Option Nat × RD × Q2
abbrev qk5 (E:List Ent):List Nat:=E.filterMap (·.1)
section
variable {m u j:Nat} {hs:List Q2} {par:Nat->Nat} {E:List Ent}
theorem oW {α:Type}{E:List α}{i:Nat}{e x:α}(h:x∈E.take i++e :: E.drop i):x=e\/x∈E:=by
 rcases mem_append.mp h with z | z
 ·exact .inr (mem_of_mem_take z)
 ·rcases mem_cons.mp z with z | z
  ·exact .inl z
  ·exact .inr (mem_of_mem_drop z)
abbrev qk7 (E:List Ent)(C:List RD):List RD:=E.map (·.2.1)++C
end
theorem Hv {W:Kd->Bool}{sk:List Sk}:∀n,∀e∈(fB W sk n).1,∃k,W k=true/\sk[e.1]?=some (k,e.2.1,e.2.2)/\e.1 < n
 |0,e,h=>by cases h
 |n+1,e,h=>by
  have ih:=Hv (W:=W) (sk:=sk) n
  cases hd:sk[n]? with
  |none=>
   have:fB W sk (n+1)=fB W sk n:=by
    show (match sk[n]? with | none=>fB W sk n | some d=>jB W (fB W sk n) n d)=_;rw[hd]
   rw[this] at h;obtain⟨k,a,b,c⟩:=ih e h;exact⟨k,a,b,by lia⟩
  |some d=>
   rw[iP hd] at h;unfold jB at h;split at h
   ·rename_i w
    split at h
    ·rcases mem_append.mp h with z | z
     ·obtain⟨k,a,b,c⟩:=ih e z;exact⟨k,a,b,by lia⟩
     ·have:e=(n,d.2.1,d.2.2):=by simpa using z
      subst this;exact⟨d.1,w,hd,by show n < n+1;lia⟩
    ·obtain⟨k,a,b,c⟩:=ih e h;exact⟨k,a,b,by lia⟩
   ·obtain⟨k,a,b,c⟩:=ih e h;exact⟨k,a,b,by lia⟩
theorem vX {m:Nat}{ds:List RD}{W:Kd->Bool}(hW:∀k,W k=true↔k=.ho)(pt:∀d∈ds,cO (m:Int) d.2.1 d.2.2.1)(h20:m<=20)(fr:Frs ds):∀n,n<=ds.length->(fB W (skl ds) n).2=[]
 |0,_=>rfl
 |n+1,hn=>by
  have ih:=vX hW pt h20 fr n (by lia);have hd:ds[n]?=some ds[n]:=getElem?_eq_getElem (by lia);generalize ds[n]=d at hd;have sl:(skl ds).length=ds.length:=by unfold skl;rw[length_map]
  have hs:(skl ds)[n]?=some (d.1,d.2.1.toNat,d.2.2.1.toNat):=by unfold skl;rw[getElem?_map,hd];rfl
  rw[iP hs];unfold jB;split
  ·rename_i w
   have hk:d.1=.ho:=(hW _).mp w;obtain⟨a,b,c,f⟩:=pt d (mem_of_getElem? hd);have ri:=uL (W:=W) (sk:=skl ds) (m:=m) (fun x hx=>by
    obtain⟨y,hy,rfl⟩:=mem_map.mp hx;obtain⟨a,b,c,f⟩:=pt y hy;exact⟨by show y.2.1.toNat < m;lia,by show y.2.2.1.toNat < m;lia⟩) n (by lia)
   have wi:=Uh (b:=d.2.2.1.toNat) (e:=d.2.1.toNat) ri.pt h20 (by lia) (by lia)
   cases e:uE (fB W (skl ds) n).1 d.2.2.1.toNat d.2.1.toNat with
   |none=>dsimp only;first | (rw[e];exact ih) | exact ih
   |some st=>
    exfalso
    rw[e] at wi;have eq:=wi.mp rfl;have cn:=(Lu (tI ri.pt) (by lia) (by lia)).mp eq;have ed:ds=ds.take n++d :: ds.drop (n+1):=by
     have hn':n < ds.length:=by lia
     have:ds[n]=d:=by rw[getElem?_eq_getElem hn'] at hd;exact Option.some.inj hd
     rw[<- this,getElem_cons_drop,take_append_drop]
    refine fr _ _ d ed hk ?_;refine Cn.ind (R:=fun p q=>Cn (eT .ho (ds.take n)) p q) (fun p=>.refl p) (fun _ _=>.symm) (fun _ _ _=>.trans) (fun x hx _=>?_) cn;obtain⟨y,hy,rfl⟩:=mem_map.mp hx;obtain⟨k,wk,sk,yn⟩:=Hv n y hy;unfold skl at sk;rw[getElem?_map] at sk;obtain⟨z,hz,ez⟩:=Option.map_eq_some_iff.mp sk;have e1:z.1=k:=congrArg (·.1) ez;have e2:z.2.1.toNat=y.2.1:=congrArg (·.2.1) ez;have e3:z.2.2.1.toNat=y.2.2:=congrArg (·.2.2) ez;have hz':z∈eT .ho (ds.take n):=mem_filter.mpr ⟨mem_of_getElem? (show (ds.take n)[y.1]?=some z by rw[getElem?_take_of_lt yn];exact hz),decide_eq_true (by rw[e1];exact(hW _).mp wk)⟩;have:Cn (eT .ho (ds.take n)) z.2.1.toNat z.2.2.1.toNat:=.row hz' (by rw[e1,(hW _).mp wk];exact fun z=>by cases z);rw[e2,e3] at this;show Cn _ ((y.2.1:Nat):Int).toNat ((y.2.2:Nat):Int).toNat;rw[Int.toNat_natCast,Int.toNat_natCast];exact this
  ·exact ih
end L2
namespace Mq
theorem Rc {p:Q2}{a L l k:Int}(h:1<=p.2)(e:l=k*p.2)(l1:1<=l)(d:l ∣ L)(hL:1<=L)(v:val p=(a:Rat) / (L:Rat)):(zU l p).natAbs<=a.natAbs:=by
 obtain⟨s,rfl⟩:=d;have s1:s≠0:=fun z=>by rw[z,Int.mul_zero] at hL;lia
 have hv:=Lh (L:=l) (k:=k) h e;have h2:=nH l1;have h3:((s:Int):Rat)≠0:=by exact_mod_cast s1
 have e2:zU l p*s=a:=by
  have:((zU l p:Int):Rat)*(s:Rat)=(a:Rat):=by
   rw[hv,v,Rat.intCast_mul];grind
  exact_mod_cast this
 rw[<- e2,Int.natAbs_mul];exact Nat.le_mul_of_pos_right _ (by lia)
end Mq
namespace Shp
open PySem L2
theorem Ul {X:List (List Q2)}{qs:List Q2}{L:Int}{b:Nat}(hX:fK X)(hq:Mq.Pos qs)(hl:qs.length=X.length)(hb:∀row∈X,∀p∈row,p.2 ∣ L/\∃a:Int,Mq.B b a/\Mq.val p=(a:Rat) / (L:Rat))(hqb:∀p∈qs,p.2 ∣ L/\∃a:Int,Mq.B b a/\Mq.val p=(a:Rat) / (L:Rat))(hL:1<=L):BdR b (iF X qs):=fun i x=>by
 unfold ent
 by_cases hi:i < X.length
 ·rw[sZ hl hi];have pos:=qZ hX hq hl hi;have al:∀p∈X.getD i []++[qs.getD i Mq.z0],p.2 ∣ L/\∃a:Int,Mq.B b a/\Mq.val p=(a:Rat) / (L:Rat):=fun p hp=>by
   rcases mem_append.mp hp with z | z
   ·exact hb _ (mem_of_getElem? (uT hi)) p z
   ·have e:p=qs.getD i Mq.z0:=by simpa using z
    rw[e];exact hqb _ (mem_of_getElem? (Mq.Na (show i < qs.length by lia)))
  generalize X.getD i []++[qs.getD i Mq.z0]=row at pos al;obtain⟨dv,l1⟩:=Mq.vQ pos (fun p hp=>(al p hp).1) row.length (Nat.le_refl _);rw[take_length] at dv l1;unfold iw;rw[getD_eq_getElem?_getD,getElem?_map]
  cases e:row[x]? with
  |none=>exact Nat.two_pow_pos _
  |some p=>
   have mem:=mem_of_getElem? e;obtain⟨_,a,ab,ea⟩:=al p mem;obtain⟨k,ek⟩:=Ar pos p mem;exact ab.le (Mq.Rc (pos p mem) ek l1 dv hL ea)
 ·rw[getD_eq_getElem?_getD (l:=iF X qs),getElem?_eq_none (by rw[Cd hl];lia)];exact Nat.two_pow_pos _
structure Ovr (n:Nat) (ps:List Q2):Prop where
 e:∃D:Int,1<=D/\Mq.B n D/\∀p∈ps,∃t:Int,Mq.B n t/\Mq.val p=(t:Rat) / (D:Rat)
theorem Ra {n:Nat}{d:Int}(d0:d≠0)(bd:Mq.B n d){ps:List Q2}(h:∀p∈ps,∃t:Int,Mq.B n t/\p=red t d):Ovr n ps:=by
 refine⟨(d.natAbs:Int),by lia,by show ((d.natAbs:Int)).natAbs < _;rw[Int.natAbs_natCast];exact bd,fun p hp=>?_⟩;obtain⟨t,bt,rfl⟩:=h p hp;rw[jH d0];rcases Int.lt_or_le d 0 with z | z
 ·refine⟨-t,bt.neg,?_⟩;rw[show ((d.natAbs:Nat):Int)=-d by lia,Rat.intCast_neg,Rat.intCast_neg];have:((d:Int):Rat)≠0:=by exact_mod_cast d0
  grind
 ·exact⟨t,bt,by rw[show ((d.natAbs:Nat):Int)=d by lia]⟩
def vU (K:Frag):Sp:=fun vs H Q _=>∃(g b D:Addr) (H0:Hp) (us bs:List V) (X:List (List Q2)) (qs:List Q2) (k n:Nat),vs=[.ref g,.ref b]/\SqL K H g us/\Fmd K H0 D H us X/\SqL K H b bs/\Fqs K H bs qs/\qs.length=X.length/\iZ qs/\(∀p∈qs,Bd k p)/\fK X/\(∀row∈X,(∀p∈row,Bd k p)/\row.length=X.length)/\X.length<=26/\10+k+k*(X.length+1)<=8000/\BdR n (iF X qs)/\1<=n/\bw n X.length<=8900/\wgt X≠0/\
 ∀l zs ps H',aY H H'->H l=none->H' l=some (.lst zs)->Fqs K H' zs ps->qd5 X qs ps->Ovr (bw n X.length) ps->Q (.ref l) H'
end Shp
namespace L2
open PySem PySem.Spec PyProof.Rows Shp
abbrev wd (m:Nat)(ds:List RD):Nat:=m - 1+bG ds
structure Sv (m:Nat) (ds:List RD) (r:Nat->Rat) (v:Nat->Rat):Prop where
 z:v 0=0
 e:∀i,i < wd m ds->(Mq.rs (wd m ds) fun j=>eqM m ds (i+1) (j+1)*v (j+1))=r (i+1)
section
variable {m:Nat} {ds:List RD} {r v:Nat->Rat}
theorem Sv.uni (o:Nof m ds){u:Nat->Rat}(h:Sv m ds r v)(g:Sv m ds r u):∀j,j<=wd m ds->v j=u j:=fun j hj=>by
 by_cases c:j=0
 ·rw[c,h.z,g.z]
 ·have:=o.uni (v:=fun j=>v (j+1)) (w:=fun j=>u (j+1)) (r:=fun i=>r (i+1)) h.e g.e (j - 1) (by unfold wd at hj;lia)
  rwa [show j - 1+1=j by lia] at this
end
theorem cK.seqI {K:Frag}{t a C dx:Addr}{fs:List (Str × V)}{H H':Hp}{xs:List V}(ht:H t=some (.ins C dx fs))(e:cK t H H')(h:SqL K H a xs):SqL K H' a xs:=by
 rcases h with (h | ⟨u,h⟩) | h
 ·exact .inl (.inl (e _ _ h (eY h ht (fun z=>by cases z))))
 ·exact .inl (.inr ⟨u,e _ _ h (eY h ht (fun z=>by cases z))⟩)
 ·exact .inr h
theorem cK.seqTI {K:Frag}{t a C dx:Addr}{fs:List (Str × V)}{H H':Hp}{xs:List V}(ht:H t=some (.ins C dx fs))(e:cK t H H')(h:SqT K H a xs):SqT K H' a xs:=by
 rcases h with (h | ⟨u,h⟩) | h
 ·exact .inl (.inl (e _ _ h (eY h ht (fun z=>by cases z))))
 ·exact .inl (.inr ⟨u,e _ _ h (eY h ht (fun z=>by cases z))⟩)
 ·exact .inr h
theorem cK.fqsI {K:Frag}{t C dx:Addr}{fs:List (Str × V)}{H H':Hp}(ht:H t=some (.ins C dx fs))(e:cK t H H'):∀{xs:List V} {ps:List Q2},Fqs K H xs ps->Fqs K H' xs ps
 |_,_,.nil=>.nil
 |_,_,.cons f q=>.cons (cK.seqTI ht e f) (cK.fqsI ht e q)
theorem glo:¬(("levels":Str) = "flows"):=by decide +kernel
def jZ (p l a:Addr):List (Str × V):=dE "flows" (.ref a) (dE "levels" (.ref l) (dE "lines" (.ref p) []))
theorem Rf (p l a:Addr):(jZ p l a).lookup ("levels":Str)=some (.ref l):=by
 unfold jZ;rw[bK,if_neg glo,bK,if_pos rfl]
theorem Tj (p l a:Addr):(jZ p l a).lookup ("flows":Str)=some (.ref a):=by
 unfold jZ;rw[bK,if_pos rfl]
theorem Bg (p l a:Addr){x:Str}(h1:¬x = "lines")(h2:¬x = "levels")(h3:¬x = "flows"):(jZ p l a).lookup x=none:=by
 unfold jZ;rw[bK,if_neg h3,bK,if_neg h2,bK,if_neg h1];rfl
structure AB (K:Frag) (mg:Str->Option Value) (CA:Addr):Prop where
 cl:Cls K CA
 nI:gV K CA "lines"
 nE:gV K CA "levels"
 nO:gV K CA "flows"
 mA:mg "Answer"=some (.ref CA)
structure vY (CA:Addr) (K:Frag) (H:Hp) (a:Addr) (lv fl:List Q2):Prop where
 e:∃(dx li le fo:Addr) (xs ys:List V),H a=some (.ins CA dx (jZ li le fo))/\SqL K H le xs/\Fqs K H xs lv/\SqL K H fo ys/\Fqs K H ys fl
theorem vY.same {CA:Addr}{K:Frag}{H H':Hp}{a:Addr}{lv fl:List Q2}(s:aY H H')(h:vY CA K H a lv fl):vY CA K H' a lv fl:=by
 obtain⟨dx,li,le,fo,xs,ys,h1,h2,h3,h4,h5⟩:=h.e;exact⟨dx,li,le,fo,xs,ys,s _ _ h1,s.seq h2,h3.same s,s.seq h4,h5.same s⟩
def xD (CA:Addr)(K:Frag):Sp:=fun vs H Q _=>∃(a:Addr) (lv fl:List Q2),vs=[.ref a]/\vY CA K H a lv fl/\∀l xs H',aY H H'->H l=none->H' l=some (.lst xs)->Fqs K H' xs lv->Q (.ref l) H'
def wT (CA:Addr)(K:Frag):Sp:=fun vs H Q _=>∃(a:Addr) (lv fl:List Q2),vs=[.ref a]/\vY CA K H a lv fl/\∀l xs H',aY H H'->H l=none->H' l=some (.lst xs)->Fqs K H' xs fl->Q (.ref l) H'
def jO (lv hs:List Q2)(t:Nat)(d:RD):Q2:=Jd d.1 (flF lv d) (if d.1=.ho then hs.getD t Mq.z0 else (0,1)) d.2.2.2
def gK (lv hs:List Q2):Nat->List RD->List Q2
 |_,[]=>[]
 |t,d :: r=>jO lv hs t d :: gK lv hs (t+bL d.1) r
theorem vZ (lv hs:List Q2)(d:RD):∀(ds:List RD) (t:Nat),gK lv hs t (ds++[d])=gK lv hs t ds++[jO lv hs (t+bG ds) d]
 | [],t=>rfl
 |e :: r,t=>by
  show _ :: gK lv hs (t+bL e.1) (r++[d])=_ :: (gK lv hs (t+bL e.1) r++_);rw[vZ lv hs d r,cY,Nat.add_assoc]
theorem tD (lv hs:List Q2):∀(ds:List RD) (t:Nat),(gK lv hs t ds).length=ds.length
 | [],_=>rfl
 |d :: r,t=>by show (gK lv hs _ r).length+1=r.length+1;rw[tD lv hs r]
def lvS (m:Nat)(sol:List Q2):List Q2:=(0,1) :: sol.take (m - 1)
theorem kC {p:Q2}(l:Low p){a L:Int}{b:Nat}(hL:1<=L)(LB:Mq.B b L)(ab:Mq.B b a)(h:Mq.val p=(a:Rat) / (L:Rat)):Bd b p/\p.2 ∣ L:=by
 obtain⟨d,t⟩:=Mq.Pk l hL h;refine⟨⟨ab.le t,LB.le ?_⟩,d⟩;have:=Int.le_of_dvd (by lia) d;have:=l.pos;lia
structure EqB (m b:Nat) (L:Int) (ds:List RD):Prop where
 o:Nof m ds
 w26:wd m ds<=26
 b1:1<=b
 hb:10+b+b*(wd m ds+1)<=8000
 hbw:bw b (wd m ds)<=4000
 L1:1<=L
 LB:Mq.B b L
 eM:∀i j,∃a:Int,Mq.B b a/\eqM m ds (i+1) (j+1)=(a:Rat) / (L:Rat)
def uP (sol:List Q2)(x:Nat):Rat:=if x=0 then 0 else Mq.val (sol.getD (x - 1) Mq.z0)
section
variable {m b N:Nat} {L:Int} {ds:List RD} {X:List (List Q2)} {Y qs ps:List Q2}
theorem EqB.cell (h:EqB m b L ds)(e:zV m ds N X Y):∀row∈X,(∀p∈row,Bd b p/\p.2 ∣ L/\∃a:Int,Mq.B b a/\Mq.val p=(a:Rat) / (L:Rat))/\row.length=X.length:=fun row hr=>by
 refine⟨fun p hp=>?_,by rw[e.x.w row hr,e.x.h]⟩;obtain⟨i,hi⟩:=getElem?_of_mem hr;obtain⟨j,hj⟩:=getElem?_of_mem hp;have ep:p=jN X i j:=by
  unfold jN;rw[getD_eq_getElem?_getD (l:=X),hi];show p=row.getD j (0,1);rw[getD_eq_getElem?_getD,hj];rfl
 obtain⟨a,ab,ea⟩:=h.eM i j;have ev:Mq.val p=(a:Rat) / (L:Rat):=by rw[ep,e.vx,ea]
 obtain⟨x,y⟩:=kC (e.x.l row hr p hp).1 h.L1 h.LB ab ev;exact⟨x,y,a,ab,ev⟩
theorem EqB.pos (e:zV m ds N X Y):fK X:=fun row hr p hp=>(e.x.l row hr p hp).1.pos
theorem EqB.wgt (h:EqB m b L ds)(e:zV m ds N X Y):wgt X≠0:=by
 by_cases c:1<=X.length
 ·exact h.o.wgt_ne e (EqB.pos e) (fun row hr=>(h.cell e row hr).2) c
 ·have:X=[]:=eq_nil_of_length_eq_zero (by lia);subst this;show (1:Rat)≠0;decide
theorem EqB.sol (e:zV m ds N X Y)(s:qd5 X qs ps){r:Nat->Rat}(vq:∀i,i < wd m ds->Mq.val (qs.getD i Mq.z0)=r (i+1)):Sv m ds r (uP ps):=by
 have lX:X.length=wd m ds:=e.x.h;refine⟨if_pos rfl,fun i hi=>?_⟩;rw[<- vq i hi,<- s.sum i (by lia),lX];refine aS fun j _=>?_;unfold uP;rw[if_neg (by lia),Nat.add_sub_cancel,Pj e]
end
theorem Ovr.minus {n:Nat}{ps:List Q2}(h:Ovr n ps)(low:iZ ps){p q:Q2}(hp:p∈ps)(hq:q∈ps):Bd (n+1) (Mq.minus p q)/\Bd n p/\Bd n q:=by
 obtain⟨D,D1,bD,al⟩:=h.e;obtain⟨t,bt,et⟩:=al p hp;obtain⟨s,bs,es⟩:=al q hq;have lp:=low p hp;have lq:=low q hq;refine⟨?_,(kC lp D1 bD bt et).1,(kC lq D1 bD bs es).1⟩;refine(kC (cT lp.pos lq.pos) D1 (bD.mono (by lia)) (bt.sub bs) ?_).1;rw[eX lp.pos lq.pos,et,es,Rat.intCast_sub,Rat.div_def,Rat.div_def,Rat.div_def];grind
abbrev Hn:=Option (Nat × Nat) × RD
def rot (m t k:Nat):Nat:=(k+t) % m
abbrev tgs (E:List Hn):List (Nat × Nat):=E.filterMap (·.1)
section
variable {m t J:Nat} {E:List Hn}
theorem mH (tm:t < m){j k:Nat}(hj:j < m)(hk:k < m)(h:rot m t j=rot m t k):j=k:=by
 unfold rot at h;have a:(j+t) % m=if j+t < m then j+t else j+t - m:=by
  split
  ·exact Nat.mod_eq_of_lt (by assumption)
  ·rw[Nat.mod_eq_sub_mod (by lia),Nat.mod_eq_of_lt (by lia)]
 have b:(k+t) % m=if k+t < m then k+t else k+t - m:=by
  split
  ·exact Nat.mod_eq_of_lt (by assumption)
  ·rw[Nat.mod_eq_sub_mod (by lia),Nat.mod_eq_of_lt (by lia)]
 rw[a,b] at h;split at h<;>split at h<;>lia
theorem xR (tm:t < m){p:Nat}(hp:p < m):∃k,k < m/\rot m t k=p:=by
 by_cases c:t<=p
 ·exact⟨p - t,by lia,by unfold rot;rw[show p - t+t=p by lia,Nat.mod_eq_of_lt hp]⟩
 ·exact⟨p+m - t,by lia,by unfold rot;rw[show p+m - t+t=p+m by lia,Nat.add_mod_right,Nat.mod_eq_of_lt hp]⟩
inductive qR (T:List (Nat × Nat)) (k:Nat):Nat->Prop where
 |self:qR T k k
 |up {p q:Nat} (h:(p,q)∈T) (u:qR T k q):qR T k p
theorem qR.ge {T:List (Nat × Nat)}{k p:Nat}(d:∀p q,(p,q)∈T->q < p)(h:qR T k p):k<=p:=by
 induction h with
 |self=>exact Nat.le_refl _
 |up h _ ih=>have:=d _ _ h;lia
theorem Rn {T:List (Nat × Nat)}(nd:(T.map (·.1)).Nodup){p q q':Nat}(h:(p,q)∈T)(h':(p,q')∈T):q=q':=by
 induction T with
 |nil=>cases h
 |cons x T ih=>
  rw[map_cons,nodup_cons] at nd;rcases mem_cons.mp h with z | z<;>rcases mem_cons.mp h' with z' | z'
  ·rw[<- z] at z';exact(Prod.ext_iff.mp z').2.symm
  ·exact absurd (mem_map.mpr ⟨_,z',by rw[<- z]⟩) nd.1
  ·exact absurd (mem_map.mpr ⟨_,z,by rw[<- z']⟩) nd.1
  ·exact ih nd.2 z z'
theorem qR.iff {T:List (Nat × Nat)}{k p q:Nat}(nd:(T.map (·.1)).Nodup)(h:(p,q)∈T)(ne:p≠k):qR T k p↔qR T k q:=by
 refine⟨fun u=>?_,fun u=>.up h u⟩
 cases u with
 |self=>exact absurd rfl ne
 |up h' u=>rw[Rn nd h h'];exact u
theorem Lw:∀{E:List Hn},((tgs E).map (·.1)).Nodup->∀{i i':Nat} {e e':Hn} {k j j':Nat},E[i]?=some e->E[i']?=some e'->e.1=some (k,j)->e'.1=some (k,j')->i=i'
 | [],_,i,_,_,_,_,_,_,h,_,_,_=>by simp at h
 |x :: E,nd,i,i',e,e',k,j,j',h,h',t,t'=>by
  have mem:∀{a:Nat} {y:Hn} {b:Nat},E[a]?=some y->y.1=some (k,b)->k∈(tgs E).map (·.1):=fun hy ty=>mem_map.mpr ⟨_,mem_filterMap.mpr ⟨_,mem_of_getElem? hy,ty⟩,rfl⟩;have nd':((tgs E).map (·.1)).Nodup:=by
   unfold tgs at nd;rw[filterMap_cons] at nd;split at nd
   ·exact nd
   ·rw[map_cons] at nd;exact(nodup_cons.mp nd).2
  have no:∀{b:Nat},x.1=some (k,b)->k∉(tgs E).map (·.1):=fun tx=>by
   unfold tgs at nd;rw[filterMap_cons_some tx,map_cons] at nd;exact(nodup_cons.mp nd).1
  match i,i',h,h' with
  |0,0,_,_=>rfl
  |0,a+1,h,h'=>
   have:x=e:=by simpa using h
   subst this;exact absurd (mem (by simpa using h') t') (no t)
  |a+1,0,h,h'=>
   have:x=e':=by simpa using h'
   subst this;exact absurd (mem (by simpa using h) t) (no t')
  |a+1,a' + 1,h,h'=>
   have:=Lw nd' (i:=a) (i':=a') (by simpa using h) (by simpa using h') t t';lia
abbrev rwH (E:List Hn):List RD:=E.map (·.2)
end
abbrev Pr2:=RD × Q2
def ouR (p:Nat):List Pr2->Rat
 | []=>0
 |e :: r=>dl e.1.2.1.toNat e.1.2.2.1.toNat p*Mq.val e.2+ouR p r
theorem rO (p:Nat):∀A B:List Pr2,ouR p (A++B)=ouR p A+ouR p B
 | [],B=>by show ouR p B=0+ouR p B;grind
 |e :: A,B=>by
  show _+ouR p (A++B)=_+ouR p A+ouR p B;rw[rO p A B];grind
section
variable {u:Nat->Rat} {m:Nat}
def Fa (u:Nat->Rat)(e:Pr2)(h:Nat):Prop:=match e.1.1 with
 | .pc=>Mq.val e.2=(u e.1.2.1.toNat - u e.1.2.2.1.toNat)*(1 / Mq.val e.1.2.2.2)
 | .pu=>Mq.val e.2=Mq.val e.1.2.2.2
 | .ho=>Mq.val e.2=u h/\Mq.val e.1.2.2.2=u e.1.2.1.toNat - u e.1.2.2.1.toNat
def Fws (u:Nat->Rat):Nat->List Pr2->Prop
 |_,[]=>True
 |h,e :: r=>Fa u e h/\Fws u (h+bL e.1.1) r
theorem Vx {x:Nat}(hx:x < m):∀(D:List Pr2) (h:Nat),Fws u h D->m<=h->nt u h (D.map (·.1)) x - eqR h (D.map (·.1)) x=ouR x D
 | [],_,_,_=>by show (0:Rat) - 0=0;grind
 |e :: D,h,F,hm=>by
  have ih:=Vx hx D (h+bL e.1.1) F.2 (by lia);have o:=F.1;show (fw u e.1 h*dl e.1.2.1.toNat e.1.2.2.1.toNat x+nt u (h+bL e.1.1) (D.map (·.1)) x) - (cR e.1 h x+eqR (h+bL e.1.1) (D.map (·.1)) x)=dl e.1.2.1.toNat e.1.2.2.1.toNat x*Mq.val e.2+ouR x D;have t:fw u e.1 h*dl e.1.2.1.toNat e.1.2.2.1.toNat x - cR e.1 h x=dl e.1.2.1.toNat e.1.2.2.1.toNat x*Mq.val e.2:=by
   unfold fw cR;unfold Fa at o
   cases hk:e.1.1 with
   |pc=>rw[hk] at o;dsimp only at o ⊢;rw[o];grind
   |pu=>rw[hk] at o;dsimp only at o ⊢;rw[o];grind
   |ho=>rw[hk] at o;dsimp only at o ⊢;rw[if_neg (by lia),o.1];grind
  grind
theorem Vz {y:Nat}(hy:m<=y):∀(D:List Pr2) (h:Nat),Fws u h D->(∀e∈D,cO (m:Int) e.1.2.1 e.1.2.2.1)->hw u h (D.map (·.1)) y=eqR h (D.map (·.1)) y
 | [],_,_,_=>rfl
 |e :: D,h,F,pt=>by
  have ih:=Vz hy D (h+bL e.1.1) F.2 fun x hx=>pt x (mem_cons_of_mem _ hx);have o:=F.1;obtain⟨a,b,c,f⟩:=pt e (by simp);show (if e.1.1=.ho/\h=y then u e.1.2.1.toNat - u e.1.2.2.1.toNat else 0)+hw u (h+bL e.1.1) (D.map (·.1)) y=cR e.1 h y+eqR (h+bL e.1.1) (D.map (·.1)) y;rw[ih];congr 1;unfold cR;unfold Fa at o
  cases hk:e.1.1 with
  |pc=>rw[if_neg (fun z=>by cases z.1)]
  |pu=>
   rw[if_neg (fun z=>by cases z.1)];dsimp only;unfold dl;rw[if_neg (by lia),if_neg (by lia)];grind
  |ho=>
   rw[hk] at o;dsimp only at o ⊢
   by_cases z:h=y
   ·rw[if_pos ⟨rfl,z⟩,if_pos z,o.2]
   ·rw[if_neg (fun q=>z q.2),if_neg z]
end
def hdF:List Pr2->List Q2
 | []=>[]
 |e :: r=>if e.1.1=.ho then e.2 :: hdF r else hdF r
theorem Ga:∀D:List Pr2,(hdF D).length=bG (D.map (·.1))
 | []=>rfl
 |e :: D=>by
  rw[map_cons,cY,<- Ga D];show (if e.1.1=.ho then e.2 :: hdF D else hdF D).length=bL e.1.1+_;unfold bL;split<;>(try simp only[length_cons])<;>lia
theorem qX:∀{D:List Pr2} {p:Q2},p∈hdF D->∃e∈D,e.1.1=.ho/\p=e.2
 |e :: D,p,h=>by
  unfold hdF at h;split at h
  ·rename_i c
   rcases mem_cons.mp h with z | z
   ·exact⟨e,by simp,c,z⟩
   ·obtain⟨x,hx,y⟩:=qX z;exact⟨x,mem_cons_of_mem _ hx,y⟩
  ·obtain⟨x,hx,y⟩:=qX h;exact⟨x,mem_cons_of_mem _ hx,y⟩
structure FwB (u:Nat->Rat) (e:Pr2):Prop where
 pc:e.1.1=.pc->Mq.val e.2=(u e.1.2.1.toNat - u e.1.2.2.1.toNat)*(1 / Mq.val e.1.2.2.2)
 pu:e.1.1=.pu->Mq.val e.2=Mq.val e.1.2.2.2
 ho:e.1.1=.ho->Mq.val e.1.2.2.2=u e.1.2.1.toNat - u e.1.2.2.1.toNat
theorem Eh {u:Nat->Rat}:∀(D:List Pr2) (h:Nat),(∀e∈D,FwB u e)->(∀t,t < (hdF D).length->u (h+t)=Mq.val ((hdF D).getD t Mq.z0))->Fws u h D
 | [],_,_,_=>trivial
 |e :: D,h,b,hu=>by
  have o:=b e (by simp);have r:∀x∈D,FwB u x:=fun x hx=>b x (mem_cons_of_mem _ hx);unfold hdF at hu
  by_cases c:e.1.1=.ho
  ·rw[if_pos c] at hu;refine⟨?_,Eh D _ r fun t ht=>?_⟩
   ·unfold Fa;rw[c];exact⟨by have:=hu 0 (by simp);rw[Nat.add_zero] at this;rw[this];rfl,o.ho c⟩
   ·have:=hu (t+1) (by simp only[length_cons];lia);rw[show bL e.1.1=1 from if_pos c,show h+1+t=h+(t+1) by lia,this];rfl
  ·rw[if_neg c] at hu;refine⟨?_,Eh D _ r fun t ht=>?_⟩
   ·unfold Fa
    cases hk:e.1.1 with
    |pc=>exact o.pc hk
    |pu=>exact o.pu hk
    |ho=>exact absurd hk c
   ·rw[show bL e.1.1=0 from if_neg c,Nat.add_zero];exact hu t ht
theorem Em {lv hs:List Q2}:∀(D:List Pr2) (t:Nat),(∀e∈D,(e.1.1=.pc->e.2=mU (flF lv e.1) e.1.2.2.2)/\(e.1.1=.pu->e.2=e.1.2.2.2))->(∀j,j < (hdF D).length->hs.getD (t+j) Mq.z0=(hdF D).getD j Mq.z0)->gK lv hs t (D.map (·.1))=D.map (·.2)
 | [],_,_,_=>rfl
 |e :: D,t,b,hu=>by
  have o:=b e (by simp);have r:=fun x hx=>b x (mem_cons_of_mem _ hx);unfold hdF at hu;show jO lv hs t e.1 :: gK lv hs (t+bL e.1.1) (D.map (·.1))=e.2 :: D.map (·.2)
  by_cases c:e.1.1=.ho
  ·rw[if_pos c] at hu;rw[Em D (t+bL e.1.1) r fun j hj=>by
    have:=hu (j+1) (by simp only[length_cons];lia);rw[show bL e.1.1=1 from if_pos c,show t+1+j=t+(j+1) by lia,this];rfl]
   congr 1;unfold jO;rw[c,if_pos rfl];have:=hu 0 (by simp);rw[Nat.add_zero] at this;exact this
  ·rw[if_neg c] at hu;rw[Em D (t+bL e.1.1) r fun j hj=>by rw[show bL e.1.1=0 from if_neg c,Nat.add_zero];exact hu j hj];congr 1;unfold jO
   cases hk:e.1.1 with
   |pc=>exact(o.1 hk).symm
   |pu=>exact(o.2 hk).symm
   |ho=>exact absurd hk c
abbrev prE (E:List Ent):List Pr2:=E.map (·.2)
section
variable {m u:Nat} {hs:List Q2} {par:Nat->Nat} {E:List Ent}
abbrev M0 (u:Nat):Nat:=(2 ^ u+2 ^ u)*2 ^ u
theorem Op {L:Int}{M x y:Nat}:∀{ds:List RD} (k:Nat),(∀d∈ds,∀k,Mq.Fr L M (cM d k x y))->Mq.Fr L (ds.length*M) (eqM k ds x y)
 | [],_,_=>Mq.Fr.zero.mono (Nat.zero_le _)
 |d :: ds,k,q=>by
  rw[length_cons,Nat.succ_mul,Nat.add_comm];exact(q d (by simp) k).add (Op _ fun x hx=>q x (mem_cons_of_mem _ hx))
theorem Qk {L:Int}{M x:Nat}:∀{ds:List RD} (k:Nat),(∀d∈ds,∀k,Mq.Fr L M (cR d k x))->Mq.Fr L (ds.length*M) (eqR k ds x)
 | [],_,_=>Mq.Fr.zero.mono (Nat.zero_le _)
 |d :: ds,k,q=>by
  rw[length_cons,Nat.succ_mul,Nat.add_comm];exact(q d (by simp) k).add (Qk _ fun x hx=>q x (mem_cons_of_mem _ hx))
theorem Ek {L:Int}{M:Nat}{y:Rat}{c:Prop}[Decidable c](g:Mq.Fr L M y):Mq.Fr L M (if c then y else 0):=by
 split
 ·exact g
 ·exact Mq.Fr.zero.mono (Nat.zero_le _)
end
abbrev sk3 (d:RD):Kd × Int × Int:=(d.1,d.2.1,d.2.2.1)
theorem Cn.sk {ds es:List RD}(h:ds.map sk3=es.map sk3){p q:Nat}(c:Cn ds p q):Cn es p q:=by
 refine Cn.ind (R:=fun p q=>Cn es p q) (fun p=>.refl p) (fun _ _=>.symm) (fun _ _ _=>.trans) (fun x hx hk=>?_) c;have:sk3 x∈es.map sk3:=by rw[<- h];exact mem_map.mpr ⟨x,hx,rfl⟩
 obtain⟨y,hy,e⟩:=mem_map.mp this;have e1:y.1=x.1:=congrArg (·.1) e;have e2:y.2.1=x.2.1:=congrArg (·.2.1) e;have e3:y.2.2.1=x.2.2.1:=congrArg (·.2.2) e;have:=Cn.row hy (by rw[e1];exact hk);rw[e2,e3] at this;exact this
theorem Zi (k:Kd){ds es:List RD}(h:ds.map sk3=es.map sk3):(eT k ds).map sk3=(eT k es).map sk3:=by
 have:∀l:List RD,(eT k l).map sk3=(l.map sk3).filter fun x=>decide (x.1=k):=fun l=>by
  unfold eT;rw[filter_map];rfl
 rw[this,this,h]
theorem Frs.sk {ds es:List RD}(h:ds.map sk3=es.map sk3)(f:Frs ds):Frs es:=by
 intro A B d e hd cn;have hl:ds.length=es.length:=by have:=congrArg List.length h;rwa [length_map,length_map] at this
 have hn:A.length < ds.length:=by rw[hl,e,List.length_append,length_cons];lia
 have eA:(ds.take A.length).map sk3=A.map sk3:=by rw[map_take,h,<- map_take,e,take_left]
 have ed:sk3 ds[A.length]=sk3 d:=by
  have a1:(ds.map sk3)[A.length]?=some (sk3 ds[A.length]):=by rw[getElem?_map,getElem?_eq_getElem hn];rfl
  have a2:(es.map sk3)[A.length]?=some (sk3 d):=by rw[getElem?_map,e,getElem?_append_right (Nat.le_refl _),Nat.sub_self];rfl
  rw[h,a2] at a1;exact(Option.some.inj a1).symm
 have e1:(ds[A.length]).1=d.1:=congrArg (·.1) ed;have e2:(ds[A.length]).2.1=d.2.1:=congrArg (·.2.1) ed;have e3:(ds[A.length]).2.2.1=d.2.2.1:=congrArg (·.2.2) ed;refine f (ds.take A.length) (ds.drop (A.length+1)) ds[A.length] (by rw[getElem_cons_drop,take_append_drop]) (by rw[e1];exact hd) ?_;rw[e2,e3];exact Cn.sk (Zi .ho eA.symm) cn
theorem Nof.sk {m:Nat}{ds es:List RD}(h:ds.map sk3=es.map sk3)(o:Nof m ds)(pos:∀d∈es,d.1=.pc->0 < Mq.val d.2.2.2):Nof m es:=by
 refine⟨o.m1,fun d hd=>?_,pos,fun p hp=>Cn.sk h (o.cn p hp),Frs.sk h o.fr⟩;have:sk3 d∈ds.map sk3:=by rw[h];exact mem_map.mpr ⟨d,hd,rfl⟩
 obtain⟨y,hy,e⟩:=mem_map.mp this;have e2:y.2.1=d.2.1:=congrArg (·.2.1) e;have e3:y.2.2.1=d.2.2.1:=congrArg (·.2.2) e;have:=o.pt y hy
 rwa [e2,e3] at this
structure StB (K:Frag) (H:Hp) (b:Addr) (ys:List V) (ss:List Q2) (n:Nat):Prop where
 s:SqL K H b ys
 f:Fqs K H ys ss
 l:ss.length=n
 b:∀s∈ss,Low s/\Bd 3900 s
theorem StB.same {K:Frag}{H H':Hp}{b:Addr}{ys:List V}{ss:List Q2}{n:Nat}(e:aY H H')(h:StB K H b ys ss n):StB K H' b ys ss n:=⟨e.seq h.s,h.f.same e,h.l,h.b⟩
def yX (K:Frag)(CK:Kd->Addr):Sp:=fun vs H Q _=>∃(x a:Addr) (d:RD) (z:V) (xs:List V) (hp:List Q2) (n:Nat),vs=[.ref x,.ref a]/\Rw CK H x d.1 (.int d.2.1) (.int d.2.2.1) z/\StB K H a xs hp n/\cO (n:Int) d.2.1 d.2.2.1/\jQ H Q (flF hp d)
theorem Yl {n:Nat}{ps:List Q2}(h:Ovr n ps)(low:iZ ps)(hn:n<=3900):∀p∈ps,Low p/\Bd 3900 p:=fun p hp=>⟨low p hp,(Ovr.minus h low hp hp).2.1.mono hn⟩
theorem qg0 {n:Nat}:Bd (n+1) (0,1):=⟨Nat.two_pow_pos _,Nat.one_lt_two_pow (by lia)⟩
abbrev En:=Nat × Q2 × List Stp
abbrev eks (es:List En):List Nat:=es.map (·.1)
structure qi7 (CA:Addr) (K:Frag) (H0 H:Hp) (a:Addr) (lv fl:List Q2):Prop where
 e:∃(dx li le fo:Addr) (xs ys:List V),H a=some (.ins CA dx (jZ li le fo))/\H le=some (.lst xs)/\Fqs K H xs lv/\H fo=some (.lst ys)/\Fqs K H ys fl/\∀l o,H0 l=some o->l≠a->le≠l/\fo≠l
def yH (CN:Addr)(K:Frag)(CK:Kd->Addr):Sp:=fun vs H Q _=>∃(n l b:Addr) (m:Int) (ds:List RD) (k:Kd) (ys:List V) (ss:List Q2),vs=[.ref n,.str k.wd,.ref b]/\cV CN K H n l m ds/\ds.length<=100/\StB K H b ys ss ds.length/\∀a zs H',aY H H'->H' a=some (.lst zs)->Rss CK K H' zs (fG k (ds.zip ss))->Q (.ref a) H'
def zC (CN:Addr)(K:Frag)(k:Kd)(g:RE->Q2):Sp:=fun vs H Q _=>∃(n l b:Addr) (m:Nat) (ds:List RD) (ys:List V) (ss:List Q2) (w:Nat),vs=[.ref n,.ref b]/\cV CN K H n l (m:Int) ds/\ds.length<=100/\(∀d∈ds,qM (m:Int) d)/\StB K H b ys ss ds.length/\Wt ((fG k (ds.zip ss)).map g) w/\w<=8990/\∀r H',aY H H'->Fq K H' r (tot ((fG k (ds.zip ss)).map g))->Q (.ref r) H'
def Hu (CN:Addr)(K:Frag):Sp:=fun vs H Q _=>∃(n l a:Addr) (m:Nat) (ds:List RD) (xs:List V) (hp:List Q2) (w:Nat),vs=[.ref n,.ref a]/\cV CN K H n l (m:Int) ds/\ds.length<=100/\(∀d∈ds,qM (m:Int) d)/\StB K H a xs hp m/\Wt ((eT .pu ds).map (gP hp)) w/\w<=8900/\jQ H Q (Ly hp ds)
def Ny (hp ss:List Q2)(ds:List RD):Q2:=Mq.minus (Ly hp ds) (Vw (ds.zip ss))
abbrev Bq (p:Q2):Prop:=Mq.B 30 p.1/\p.2.natAbs<=16
structure Qz (m t:Nat) (e:Hn):Prop where
 pt:cO (m:Int) e.2.2.1 e.2.2.2.1
 sl:Low e.2.2.2.2
 bd:Bd 30 e.2.2.2.2
 pc:e.2.1=.pc->0 < e.2.2.2.2.1/\Bq e.2.2.2.2
 ho:e.2.1=.ho->e.1≠none
 tg:∀k j,e.1=some (k,j)->e.2.1≠.pu/\1<=k/\k < m/\j < k/\((e.2.2.1=(rot m t k:Int)/\e.2.2.2.1=(rot m t j:Int))\/(e.2.2.1=(rot m t j:Int)/\e.2.2.2.1=(rot m t k:Int)))
structure Hnk (m t J:Nat) (E:List Hn):Prop where
 m1:1<=m
 tm:t < m
 en:∀e∈E,Qz m t e
 nd:((tgs E).map (·.1)).Nodup
 al:∀k,1<=k->k < J->∃j,(k,j)∈tgs E
 lt:∀p∈tgs E,p.1 < J
 ln:(tgs E).length+1=J
section
variable {m t J:Nat} {E:List Hn}
theorem Hnk.ins (h:Hnk m t J E){e:Hn}(he:Qz m t e)(e0:e.1=none)(i:Nat):Hnk m t J (E.take i++e :: E.drop i):=by
 have et:tgs (E.take i++e :: E.drop i)=tgs E:=by
  unfold tgs;rw[filterMap_append,filterMap_cons_none e0,<- filterMap_append,take_append_drop]
 refine⟨h.m1,h.tm,fun x hx=>?_,by rw[et];exact h.nd,fun k a b=>by rw[et];exact h.al k a b,fun p hp=>h.lt p (by rw[et] at hp;exact hp),by rw[et];exact h.ln⟩;rcases oW hx with z | z
 ·rw[z];exact he
 ·exact h.en x z
theorem Hnk.tree (h:Hnk m t J E){e:Hn}{j:Nat}(he:Qz m t e)(e0:e.1=some (J,j))(i:Nat):Hnk m t (J+1) (E.take i++e :: E.drop i):=by
 have et:(tgs (E.take i++e :: E.drop i)).Perm ((J,j) :: tgs E):=by
  unfold tgs;rw[filterMap_append,filterMap_cons_some e0];refine perm_middle.trans ?_;rw[<- filterMap_append,take_append_drop]
 refine⟨h.m1,h.tm,fun x hx=>?_,?_,fun k a b=>?_,fun p hp=>?_,?_⟩
 ·rcases oW hx with z | z
  ·rw[z];exact he
  ·exact h.en x z
 ·rw[(et.map (·.1)).nodup_iff,map_cons,nodup_cons];refine⟨fun z=>?_,h.nd⟩;obtain⟨p,hp,ep⟩:=mem_map.mp z;have:=h.lt p hp;lia
 ·by_cases c:k=J
  ·exact⟨j,et.mem_iff.mpr (by rw[c];simp)⟩
  ·obtain⟨j',hj'⟩:=h.al k a (by lia);exact⟨j',et.mem_iff.mpr (mem_cons_of_mem _ hj')⟩
 ·rcases mem_cons.mp (et.mem_iff.mp hp) with z | z
  ·rw[z];show J < J+1;lia
  ·have:=h.lt p z;lia
 ·rw[et.length_eq,length_cons,h.ln]
theorem Hnk.pt (h:Hnk m t J E):∀d∈rwH E,cO (m:Int) d.2.1 d.2.2.1:=fun d hd=>by
 obtain⟨e,he,rfl⟩:=mem_map.mp hd;exact(h.en e he).pt
theorem Hnk.cn0 (h:Hnk m t m E):∀n k,k<=n->k < m->Cn (rwH E) (rot m t 0) (rot m t k)
 |n,0,_,_=>.refl _
 |0,k+1,hk,_=>by lia
 |n+1,k+1,hk,hm=>by
  obtain⟨j,hj⟩:=h.al (k+1) (by lia) hm;obtain⟨e,he,te⟩:=mem_filterMap.mp hj;obtain⟨hp,_,_,jk,ends⟩:=(h.en e he).tg _ _ te;have ih:=Hnk.cn0 h n j (by lia) (by lia);have r:Cn (rwH E) e.2.2.1.toNat e.2.2.2.1.toNat:=.row (mem_map.mpr ⟨e,he,rfl⟩) hp;rcases ends with ⟨a,b⟩ | ⟨a,b⟩
  ·rw[a,b,Int.toNat_natCast,Int.toNat_natCast] at r;exact ih.trans r.symm
  ·rw[a,b,Int.toNat_natCast,Int.toNat_natCast] at r;exact ih.trans r
theorem Hnk.cn (h:Hnk m t m E)(p:Nat)(hp:p < m):Cn (rwH E) 0 p:=by
 obtain⟨k,hk,rfl⟩:=xR h.tm hp;obtain⟨k0,hk0,e0⟩:=xR h.tm (show 0 < m by have:=h.m1;lia);have a:=h.cn0 k k (Nat.le_refl _) hk;have b:=h.cn0 k0 k0 (Nat.le_refl _) hk0;rw[e0] at b;exact b.symm.trans a
theorem Hnk.frs (h:Hnk m t J E):Frs (rwH E):=by
 intro A B d e hd cn;have at_:(rwH E)[A.length]?=some d:=by rw[e,getElem?_append_right (Nat.le_refl _),Nat.sub_self];rfl
 have atx:∀i x,i < A.length->A[i]?=some x->∃y:Hn,E[i]?=some y/\y.2=x:=fun i x hi hx=>by
  have:(rwH E)[i]?=some x:=by rw[e,getElem?_append_left hi];exact hx
  rw[getElem?_map] at this;obtain⟨y,hy,ey⟩:=Option.map_eq_some_iff.mp this;exact⟨y,hy,ey⟩
 rw[getElem?_map] at at_;obtain⟨y,hy,rfl⟩:=Option.map_eq_some_iff.mp at_;have oy:=h.en y (mem_of_getElem? hy);obtain⟨⟨k,j⟩,tk⟩:∃p,y.1=some p:=Option.ne_none_iff_exists'.mp (oy.ho hd);obtain⟨_,k1,km,jk,ends⟩:=oy.tg k j tk;have dec:∀p q,(p,q)∈tgs E->q < p:=fun p q hpq=>by
  obtain⟨z,hz,tz⟩:=mem_filterMap.mp hpq;exact((h.en z hz).tg _ _ tz).2.2.2.1
 have r:=Cn.ind (ds:=eT .ho A) (R:=fun p q=>p=q\/(p < m/\q < m/\∀a b,a < m->b < m->rot m t a=p->rot m t b=q->(qR (tgs E) k a↔qR (tgs E) k b))) (fun p=>.inl rfl) (fun p q f=>by
  rcases f with f | ⟨x,y,f⟩
  ·exact .inl f.symm
  ·exact .inr ⟨y,x,fun a b ha hb e1 e2=>(f b a hb ha e2 e1).symm⟩) (fun p q x f g=>by
  rcases f with f | ⟨f1,f2,f⟩
  ·rw[f];exact g
  ·rcases g with g | ⟨g1,g2,g⟩
   ·rw[<- g];exact .inr ⟨f1,f2,f⟩
   ·refine .inr ⟨f1,g2,fun a b ha hb e1 e2=>?_⟩;obtain⟨c,hc,ec⟩:=xR h.tm f2;exact(f a c ha hc e1 ec).trans (g c b hc hb ec e2)) (fun x hx hk=>by
  obtain⟨xA,xk⟩:=mem_filter.mp hx;obtain⟨i,hi⟩:=getElem?_of_mem xA;have il:=(List.getElem?_eq_some_iff.mp hi).1;obtain⟨z,hz,rfl⟩:=atx i x il hi;have oz:=h.en z (mem_of_getElem? hz);obtain⟨⟨k',j'⟩,tk'⟩:∃p,z.1=some p:=Option.ne_none_iff_exists'.mp (oz.ho (of_decide_eq_true xk));obtain⟨_,a1,am,jk',ends'⟩:=oz.tg k' j' tk';have ne:k'≠k:=fun c=>by
   rw[c] at tk';have:=Lw h.nd hz hy tk' tk;lia
  have mem:(k',j')∈tgs E:=mem_filterMap.mpr ⟨z,mem_of_getElem? hz,tk'⟩;have iff:=qR.iff h.nd mem ne;obtain⟨q0,q1,q2,q3⟩:=oz.pt;refine .inr ⟨by lia,by lia,fun a b ha hb e1 e2=>?_⟩;rcases ends' with ⟨x,y⟩ | ⟨x,y⟩
  ·rw[x,Int.toNat_natCast] at e1;rw[y,Int.toNat_natCast] at e2;rw[mH h.tm ha am e1,mH h.tm hb (by lia) e2];exact iff
  ·rw[x,Int.toNat_natCast] at e1;rw[y,Int.toNat_natCast] at e2;rw[mH h.tm ha (by lia) e1,mH h.tm hb am e2];exact iff.symm) cn
 have no:¬qR (tgs E) k j:=fun c=>by
  have:=c.ge dec;lia
 rcases ends with ⟨a,b⟩ | ⟨a,b⟩
 ·rw[a,b,Int.toNat_natCast,Int.toNat_natCast] at r;rcases r with r | ⟨_,_,r⟩
  ·have:=mH h.tm km (by lia) r;lia
  ·exact no ((r k j km (by lia) rfl rfl).mp .self)
 ·rw[a,b,Int.toNat_natCast,Int.toNat_natCast] at r;rcases r with r | ⟨_,_,r⟩
  ·have:=mH h.tm (by lia) km r;lia
  ·exact no ((r j k (by lia) km rfl rfl).mpr .self)
theorem Hnk.hold_le (h:Hnk m t J E):bG (rwH E)+1<=J:=by
 have:∀{E:List Hn},(∀e∈E,e.2.1=.ho->e.1≠none)->bG (rwH E)<=(tgs E).length:=fun {E}=>by
  induction E with
  |nil=>intro _;exact Nat.le_refl _
  |cons e E ih=>
   intro h;have ih:=ih fun x hx=>h x (mem_cons_of_mem _ hx);show bG (e.2 :: rwH E)<=_;rw[cY];unfold tgs at ih ⊢;rw[filterMap_cons]
   by_cases c:e.2.1=.ho
   ·obtain⟨k,tk⟩:∃k,e.1=some k:=Option.ne_none_iff_exists'.mp (h e (by simp) c);rw[tk];have:bL e.2.1=1:=if_pos c;simp only[length_cons];lia
   ·have:bL e.2.1=0:=if_neg c;split<;>(try simp only[length_cons])<;>lia
 have a:=this fun e he hk=>(h.en e he).ho hk;have:=h.ln;lia
theorem Hnk.nof (h:Hnk m t m E):Nof m (rwH E):=by
 refine⟨h.m1,h.pt,fun d hd hk=>?_,h.cn,h.frs⟩;obtain⟨e,he,rfl⟩:=mem_map.mp hd;have p0:=((h.en e he).pc hk).1;have:=(h.en e he).sl.pos;unfold Mq.val;rw[Rat.div_def];exact Rat.mul_pos (by exact_mod_cast p0) (Rat.inv_pos.mpr (by exact_mod_cast (show 0 < e.2.2.2.2.2 by lia)))
end
structure kT (p:Q2):Prop where
 l:Low p
 b:Bd 41 p
 d:p.2 ∣ 27720
structure uS (p:Q2):Prop where
 l:Low p
 p0:0 < p.1
 t:Mq.B 30 p.1
 d:p.2.natAbs<=6
theorem kT.fr {p:Q2}(h:kT p):Mq.Fr 27720 (2 ^ 41) (Mq.val p):=Mq.Et (by decide) h.l h.d h.b
theorem uS.bd {p:Q2}(h:uS p):Bd 30 p:=⟨h.t,Nat.lt_of_le_of_lt h.d (by decide)⟩
theorem uS.pos {p:Q2}(h:uS p):0 < Mq.val p:=by
 have:=h.l.pos;unfold Mq.val;rw[Rat.div_def];exact Rat.mul_pos (by exact_mod_cast h.p0) (Rat.inv_pos.mpr (by exact_mod_cast (show 0 < p.2 by lia)))
theorem uS.inv {p:Q2}{L:Int}(h:uS p)(L1:1<=L)(d:p.1 ∣ L):Mq.Fr L 6 (1 / Mq.val p):=by
 have p1:=h.l.pos;have p0:=h.p0;have:1 / Mq.val p=((p.2:Int):Rat) / ((p.1:Int):Rat):=by
  have:=Mq.nH p1;have:=Mq.nH (show 1<=p.1 by lia);unfold Mq.val;grind
 rw[this];exact Mq.Fr.of L1 (by lia) d h.d
structure HtK (m:Nat) (hs:List Q2):Prop where
 m1:1<=m
 l:hs.length=m
 h0:hs.getD 0 (0,1)=(0,1)
 ok:∀p∈hs,Low p/\Mq.Fr 27720 (2 ^ 42) (Mq.val p)
theorem xK:Mq.B 15 27720:=by show (27720:Nat) < 2 ^ 15;decide
theorem tN {p:Q2}{M b:Nat}(l:Low p)(h:Mq.Fr 27720 M (Mq.val p))(hM:M < 2 ^ b):Bd (b+15) p/\p.2 ∣ 27720:=by
 obtain⟨a,ab,ea⟩:=Mq.Fr.get h hM xK (b:=b+15) (Nat.le_refl _);exact kC l (by decide) (xK.mono (by lia)) ab ea
section
variable {m:Nat} {hs:List Q2} {d:RD}
theorem HtK.at (h:HtK m hs){i:Nat}(hi:i < m):Low (hs.getD i (0,1))/\Mq.Fr 27720 (2 ^ 42) (Mq.val (hs.getD i (0,1))):=by
 have hl:=h.l;exact h.ok _ (mem_of_getElem? (iW (ps:=hs) (j:=i) (by lia)))
theorem HtK.fall (h:HtK m hs)(pt:cO (m:Int) d.2.1 d.2.2.1):Low (flF hs d)/\Mq.Fr 27720 (2 ^ 43) (Mq.val (flF hs d))/\Mq.val (flF hs d)=Mq.val (hs.getD d.2.1.toNat (0,1)) - Mq.val (hs.getD d.2.2.1.toNat (0,1)):=by
 obtain⟨i0,i1,j0,j1⟩:=pt;obtain⟨l1,f1⟩:=h.at (i:=d.2.1.toNat) (by lia);obtain⟨l2,f2⟩:=h.at (i:=d.2.2.1.toNat) (by lia);have v:Mq.val (flF hs d)=Mq.val (hs.getD d.2.1.toNat (0,1)) - Mq.val (hs.getD d.2.2.1.toNat (0,1)):=eX l1.pos l2.pos;refine⟨cT l1.pos l2.pos,?_,v⟩;rw[v,show ∀a b:Rat,a - b=a + -b from fun a b=>by grind];exact(f1.add f2.neg).mono (by decide)
theorem HtK.fbd (h:HtK m hs)(pt:cO (m:Int) d.2.1 d.2.2.1):Bd 60 (flF hs d):=(tN (h.fall pt).1 (h.fall pt).2.1 (b:=44) (by decide)).1.mono (by decide)
end
abbrev Ez:=Option (Nat × Nat) × RD × Q2
abbrev prZ (E:List Ez):List Pr2:=E.map (·.2)
abbrev rwZ (E:List Ez):List RD:=E.map (·.2.1)
def skE (e:Ez):Hn:=(e.1,(e.2.1.1,e.2.1.2.1,e.2.1.2.2.1,(1,1)))
structure jD (m:Nat) (hs:List Q2) (e:Ez):Prop where
 pt:cO (m:Int) e.2.1.2.1 e.2.1.2.2.1
 pc:e.2.1.1=.pc->uS e.2.1.2.2.2/\e.2.2=mU (flF hs e.2.1) e.2.1.2.2.2
 pu:e.2.1.1=.pu->e.2.2=e.2.1.2.2.2/\kT e.2.2
 ho:e.2.1.1=.ho->e.2.1.2.2.2=flF hs e.2.1/\kT e.2.2
structure Drz (m t J:Nat) (hs:List Q2) (E:List Ez):Prop where
 hn:Hnk m t J (E.map skE)
 en:∀e∈E,jD m hs e
theorem uV {α β:Type}(f:α->β)(l:List α)(i:Nat)(e:α):(l.take i++e :: l.drop i).map f=(l.map f).take i++f e :: (l.map f).drop i:=by
 rw[map_append,map_cons,map_take,map_drop]
theorem Yn {α:Type}(l:List α)(i:Nat)(e:α):(l.take i++e :: l.drop i).length=l.length+1:=by
 rw[List.length_append,length_cons,length_take,length_drop];lia
section
variable {m t J:Nat} {hs:List Q2} {E:List Ez} {e:Ez}
theorem Qi {k:Kd}{i j:Int}{g:Option (Nat × Nat)}(pt:cO (m:Int) i j)(ho:k=.ho->g≠none)(tg:∀a b,g=some (a,b)->k≠.pu/\1<=a/\a < m/\b < a/\((i=(rot m t a:Int)/\j=(rot m t b:Int))\/(i=(rot m t b:Int)/\j=(rot m t a:Int)))):Qz m t (g,(k,i,j,(1,1))):=
 ⟨pt,⟨show (1:Int)<=1 by decide,show gc 1 1=1 by decide⟩,⟨show (1:Nat) < 2 ^ 30 by decide,show (1:Nat) < 2 ^ 30 by decide⟩,fun _=>⟨show (0:Int) < 1 by decide,show (1:Nat) < 2 ^ 30 by decide,show (1:Nat)<=16 by decide⟩,ho,tg⟩
theorem Drz.ins (h:Drz m t J hs E)(he:jD m hs e)(e0:e.1=none)(nh:e.2.1.1≠.ho)(i:Nat):Drz m t J hs (E.take i++e :: E.drop i):=by
 refine⟨?_,fun x hx=>?_⟩
 ·rw[uV];exact h.hn.ins (Qi he.pt (fun z=>absurd z nh) (fun a b z=>by have:=e0.symm.trans z;cases this)) e0 i
 ·rcases oW hx with z | z
  ·rw[z];exact he
  ·exact h.en x z
theorem Drz.tree {j:Nat}(h:Drz m t J hs E)(he:jD m hs e)(e0:e.1=some (J,j))(np:e.2.1.1≠.pu)(J1:1<=J)(Jm:J < m)(jJ:j < J)(ends:(e.2.1.2.1=(rot m t J:Int)/\e.2.1.2.2.1=(rot m t j:Int))\/(e.2.1.2.1=(rot m t j:Int)/\e.2.1.2.2.1=(rot m t J:Int)))(i:Nat):Drz m t (J+1) hs (E.take i++e :: E.drop i):=by
 refine⟨?_,fun x hx=>?_⟩
 ·rw[uV];refine h.hn.tree (Qi he.pt (fun _ z=>by have:=e0.symm.trans z;cases this) (fun a b z=>?_)) e0 i;have:=e0.symm.trans z
  cases this
  exact⟨np,J1,Jm,jJ,ends⟩
 ·rcases oW hx with z | z
  ·rw[z];exact he
  ·exact h.en x z
def uU (E:List Ez):List Int:=(E.filter fun e=>decide (e.2.1.1=.pc)).map (·.2.1.2.2.2.1)
def LZ (E:List Ez):Int:=27720*Mq.prB (uU E)
theorem Gu (he:e∈E)(hk:e.2.1.1=.pc):e.2.1.2.2.2.1 ∣ Mq.prB (uU E):=Mq.Hq (mem_map.mpr ⟨e,mem_filter.mpr ⟨he,decide_eq_true hk⟩,rfl⟩)
theorem Lm (h:∀e∈E,jD m hs e):∀a∈uU E,1<=a/\Mq.B 30 a:=fun a ha=>by
 obtain⟨e,he,rfl⟩:=mem_map.mp ha;obtain⟨h1,h2⟩:=mem_filter.mp he;have:=((h e h1).pc (of_decide_eq_true h2)).1;have:=this.p0;exact⟨by show 1<=e.2.1.2.2.2.1;lia,((h e h1).pc (of_decide_eq_true h2)).1.t⟩
theorem pr1 (h:∀e∈E,jD m hs e):1<=Mq.prB (uU E):=Mq.Gg fun a ha=>(Lm h a ha).1
theorem LZ1 (h:∀e∈E,jD m hs e):1<=LZ E:=by
 have:=pr1 h;unfold LZ;lia
theorem LZB (h:∀e∈E,jD m hs e):Mq.B (30*(uU E).length+16) (LZ E):=
 (xK.mul (Mq.Vr fun a ha=>(Lm h a ha).2)).mono (by lia)
theorem jD.low (h:jD m hs e)(hk:HtK m hs):Low e.2.2:=by
 cases k:e.2.1.1 with
 |pc=>
  obtain⟨z,s⟩:=h.pc k;have:=z.p0;rw[s];exact pA (hk.fall h.pt).1.pos (by lia)
 |pu=>exact(h.pu k).2.l
 |ho=>exact(h.ho k).2.l
theorem jD.bd (h:jD m hs e)(hk:HtK m hs):Bd 100 e.2.2:=by
 cases k:e.2.1.1 with
 |pc=>
  obtain⟨z,s⟩:=h.pc k;have:=z.p0;rw[s];exact(rL (hk.fbd h.pt) z.bd (hk.fall h.pt).1.pos (by lia)).mono (by decide)
 |pu=>exact(h.pu k).2.b.mono (by decide)
 |ho=>exact(h.ho k).2.b.mono (by decide)
theorem jD.sv (h:jD m hs e)(hk:HtK m hs)(k:e.2.1.1=.pc):Mq.val e.2.2=Mq.val (flF hs e.2.1)*(1 / Mq.val e.2.1.2.2.2):=by
 obtain⟨z,s⟩:=h.pc k;have:=z.p0;rw[s,sM (hk.fall h.pt).1.pos z.l.pos (by lia),Rat.div_def,Rat.div_def,Rat.one_mul]
theorem jD.fr (h:∀e∈E,jD m hs e)(hk:HtK m hs)(he:e∈E):Mq.Fr (LZ E) (2 ^ 46) (Mq.val e.2.2):=by
 have o:=h e he;have p1:=pr1 h
 cases k:e.2.1.1 with
 |pc=>
  rw[o.sv hk k];exact((hk.fall o.pt).2.1.mul (by decide) p1 ((o.pc k).1.inv p1 (Gu he k))).mono (by decide)
 |pu=>exact((o.pu k).2.fr.lift (by decide) p1).mono (by decide)
 |ho=>exact((o.ho k).2.fr.lift (by decide) p1).mono (by decide)
theorem Gw {x M:Nat}{L:Int}:∀{D:List Pr2},(∀e∈D,Mq.Fr L M (Mq.val e.2))->Mq.Fr L (D.length*M) (ouR x D)
 | [],_=>Mq.Fr.zero.mono (Nat.zero_le _)
 |e :: D,h=>by
  have a:=Gw (x:=x) (D:=D) fun y hy=>h y (mem_cons_of_mem _ hy);show Mq.Fr L _ (dl e.1.2.1.toNat e.1.2.2.1.toNat x*Mq.val e.2+ouR x D);exact((wH (h e (by simp)) _ _ _).add a).mono (by rw[length_cons,Nat.succ_mul];lia)
theorem Drz.ou (h:∀e∈E,jD m hs e)(hk:HtK m hs)(len:E.length<=16)(x:Nat):Mq.Fr (LZ E) (2 ^ 50) (ouR x (prZ E)):=by
 refine(Gw (M:=2 ^ 46) (D:=prZ E) fun e he=>?_).mono ?_
 ·obtain⟨y,hy,rfl⟩:=mem_map.mp he;exact jD.fr h hk hy
 ·rw[length_map]
  calc E.length*2 ^ 46<=16*2 ^ 46:=Nat.mul_le_mul_right _ len
   _<=2 ^ 50:=by decide
end
structure mV (m:Nat) (L:Int) (hs:List Q2) (e:Ez):Prop where
 pt:cO (m:Int) e.2.1.2.1 e.2.1.2.2.1
 pc:e.2.1.1=.pc->uS e.2.1.2.2.2/\e.2.1.2.2.2.1 ∣ L/\e.2.2=mU (flF hs e.2.1) e.2.1.2.2.2
 pu:e.2.1.1=.pu->e.2.2=e.2.1.2.2.2/\Low e.2.2/\Mq.Fr L (2 ^ 50) (Mq.val e.2.2)
 ho:e.2.1.1=.ho->e.2.1.2.2.2=flF hs e.2.1/\kT e.2.2
def fA (n:Nat)(d:RD):Bool:=!(decide (d.2.2.2.1.natAbs < 2 ^ n) && decide (d.2.2.2.2.natAbs < 2 ^ n))
theorem pI {n:Nat}{d:RD}(h:Bd n d.2.2.2):fA n d=false:=by
 unfold fA;rw[decide_eq_true (show d.2.2.2.1.natAbs < 2 ^ n from h.a),decide_eq_true (show d.2.2.2.2.natAbs < 2 ^ n from h.b)];rfl
theorem oI {n:Nat}{d:RD}(h:fA n d=false):Bd n d.2.2.2:=by
 unfold fA at h;have:(decide (d.2.2.2.1.natAbs < 2 ^ n) && decide (d.2.2.2.2.natAbs < 2 ^ n))=true:=by
  cases c:(decide (d.2.2.2.1.natAbs < 2 ^ n) && decide (d.2.2.2.2.natAbs < 2 ^ n)) with
  |true=>rfl
  |false=>rw[c] at h;cases h
 rw[Bool.and_eq_true] at this;exact⟨show d.2.2.2.1.natAbs < 2 ^ n from of_decide_eq_true this.1,show d.2.2.2.2.natAbs < 2 ^ n from of_decide_eq_true this.2⟩
structure Bal (m t:Nat) (L:Int) (hs:List Q2) (h:Nat) (E:List Ez) (j:Nat):Prop where
 hn:Hnk m t m (E.map skE)
 en:∀e∈E,mV m L hs e
 big:(rwZ E).countP (fA 60)<=j
 nh:bG (rwZ E)=h
section
variable {m t j h:Nat} {L:Int} {hs:List Q2} {E:List Ez} {e:Ez}
theorem jD.toB (o:∀e∈E,jD m hs e)(he:e∈E):mV m (LZ E) hs e:=by
 have oe:=o e he;have p1:=pr1 o;refine⟨oe.pt,fun hk=>⟨(oe.pc hk).1,Int.dvd_trans (Gu he hk) (Int.dvd_mul_left ..),(oe.pc hk).2⟩,fun hk=>⟨(oe.pu hk).1,(oe.pu hk).2.l,((oe.pu hk).2.fr.lift (by decide) p1).mono (by decide)⟩,fun hk=>oe.ho hk⟩
theorem Drz.bal (d:Drz m t m hs E)(hk:HtK m hs):Bal m t (LZ E) hs (bG (rwZ E)) E 0:=by
 refine⟨d.hn,fun e he=>jD.toB d.en he,?_,rfl⟩;rw[countP_eq_zero.mpr fun r hr=>?_]
 ·exact Nat.le_refl _
 obtain⟨e,he,rfl⟩:=mem_map.mp hr;have o:=d.en e he;have:Bd 60 e.2.1.2.2.2:=by
  cases k:e.2.1.1 with
  |pc=>exact(o.pc k).1.bd.mono (by decide)
  |pu=>rw[<- (o.pu k).1];exact(o.pu k).2.b.mono (by decide)
  |ho=>rw[(o.ho k).1];exact hk.fbd o.pt
 rw[pI this];decide
theorem Im {α:Type}(p:α->Bool)(l:List α)(i:Nat)(x:α):(l.take i++x :: l.drop i).countP p<=l.countP p+1:=by
 have e:l.countP p=(l.take i).countP p+(l.drop i).countP p:=by rw[<- countP_append,take_append_drop]
 rw[countP_append,countP_cons,e];split<;>lia
theorem Fv (a b:List RD):bG (a++b)=bG a+bG b:=by
 unfold bG eT;rw[filter_append,List.length_append]
theorem Sw (l:List RD)(i:Nat){d:RD}(hd:d.1≠.ho):bG (l.take i++d :: l.drop i)=bG l:=by
 have e:bG l=bG (l.take i)+bG (l.drop i):=by rw[<- Fv,take_append_drop]
 rw[Fv,cY,e];unfold bL;rw[if_neg hd];lia
theorem Bal.ins (b:Bal m t L hs h E j)(he:mV m L hs e)(e0:e.1=none)(hk:e.2.1.1=.pu)(i:Nat):Bal m t L hs h (E.take i++e :: E.drop i) (j+1):=by
 refine⟨?_,fun x hx=>?_,?_,?_⟩
 ·rw[uV];exact b.hn.ins (Qi he.pt (fun z=>by rw[hk] at z;cases z) (fun a b z=>by have:=e0.symm.trans z;cases this)) e0 i
 ·rcases oW hx with z | z
  ·rw[z];exact he
  ·exact b.en x z
 ·show (map (fun e:Ez=>e.2.1) (E.take i++e :: E.drop i)).countP (fA 60)<=j+1;rw[uV];exact Nat.le_trans (Im (fA 60) (rwZ E) i e.2.1) (Nat.succ_le_succ b.big)
 ·show bG (map (fun e:Ez=>e.2.1) (E.take i++e :: E.drop i))=h;rw[uV,Sw _ _ (by rw[hk];exact fun z=>by cases z)];exact b.nh
theorem Bal.up {j':Nat}(b:Bal m t L hs h E j)(hj:j<=j'):Bal m t L hs h E j':=⟨b.hn,b.en,Nat.le_trans b.big hj,b.nh⟩
theorem Bal.nof (b:Bal m t L hs h E j):Nof m (rwZ E):=by
 refine Nof.sk (ds:=rwH (E.map skE)) ?_ b.hn.nof fun d hd hk=>?_
 ·rw[map_map,map_map,map_map];rfl
 ·obtain⟨e,he,rfl⟩:=mem_map.mp hd;exact((b.en e he).pc hk).1.pos
def dF (hs:List Q2)(E:List Ez):List Q2:=hs.drop 1++hdF (prZ E)
theorem Qn (hk:HtK m hs){p:Nat}(hp:p < m):uP (dF hs E) p=Mq.val (hs.getD p (0,1)):=by
 unfold uP dF
 by_cases c:p=0
 ·rw[if_pos c,c,hk.h0,kU]
 ·rw[if_neg c,getD_eq_getElem?_getD,getElem?_append_left (by rw[length_drop,hk.l];lia),getElem?_drop,show 1+(p - 1)=p by lia,<- getD_eq_getElem?_getD]
theorem Zl (hk:HtK m hs)(t:Nat):uP (dF hs E) (m+t)=Mq.val ((hdF (prZ E)).getD t Mq.z0):=by
 have:=hk.m1;unfold uP dF;rw[if_neg (by lia),getD_eq_getElem?_getD,getElem?_append_right (by rw[length_drop,hk.l];lia),length_drop,hk.l,show m+t - 1 - (m - 1)=t by lia,<- getD_eq_getElem?_getD]
theorem mV.fall (o:mV m L hs e)(hk:HtK m hs):Mq.val (flF hs e.2.1)=uP (dF hs E) e.2.1.2.1.toNat - uP (dF hs E) e.2.1.2.2.1.toNat:=by
 obtain⟨a,b,c,d⟩:=o.pt;rw[(hk.fall o.pt).2.2,Qn hk (by lia),Qn hk (by lia)]
theorem mV.sv (o:mV m L hs e)(hk:HtK m hs)(k:e.2.1.1=.pc):Mq.val e.2.2=Mq.val (flF hs e.2.1)*(1 / Mq.val e.2.1.2.2.2):=by
 obtain⟨z,_,s⟩:=o.pc k;have:=z.p0;rw[s,sM (hk.fall o.pt).1.pos z.l.pos (by lia),Rat.div_def,Rat.div_def,Rat.one_mul]
theorem Bal.fwb (b:Bal m t L hs h E j)(hk:HtK m hs):∀e∈prZ E,FwB (uP (dF hs E)) e:=fun e he=>by
 obtain⟨x,hx,rfl⟩:=mem_map.mp he;have o:=b.en x hx;refine⟨fun k=>?_,fun k=>by rw[(o.pu k).1],fun k=>by rw[(o.ho k).1];exact o.fall hk⟩;rw[o.sv hk k,o.fall hk (E:=E)]
theorem Bal.fws (b:Bal m t L hs h E j)(hk:HtK m hs):Fws (uP (dF hs E)) m (prZ E):=Eh _ _ (b.fwb hk) fun t _=>Zl hk t
theorem zY (E:List Ez):(prZ E).map (·.1)=rwZ E:=by rw[map_map];rfl
theorem Bal.sv (b:Bal m t L hs h E j)(hk:HtK m hs)(bal:∀x,1<=x->x < m->ouR x (prZ E)=0):Sv m (rwZ E) (eqR m (rwZ E)) (uP (dF hs E)):=by
 have m1:=hk.m1;have o:=b.nof;refine⟨if_pos rfl,fun i hi=>?_⟩;have F:=b.fws hk;rw[<- zY] at hi o ⊢;have e:∀j,j < wd m ((prZ E).map (·.1))->eqM m ((prZ E).map (·.1)) (i+1) (j+1)*uP (dF hs E) (j+1)=uP (dF hs E) (j+1)*eqM m ((prZ E).map (·.1)) (j+1) (i+1):=fun j _=>by
  rw[rT,Rat.mul_comm]
 rw[aS e,Dp (m:=m) (u:=uP (dF hs E)) (if_pos rfl) (by show m<=m - 1+bG ((prZ E).map (·.1))+1;lia) (i+1) _ m o.pt m1 (by show m+bG ((prZ E).map (·.1))<=m - 1+bG ((prZ E).map (·.1))+1;lia)]
 by_cases c:i+1 < m
 ·have a:=Vx (m:=m) (u:=uP (dF hs E)) c (prZ E) m F (Nat.le_refl _);rw[bal _ (by lia) c] at a;rw[Hh _ _ c];grind
 ·rw[Cf (m:=m) _ _ o.pt (by lia),Vz (m:=m) (u:=uP (dF hs E)) (by lia) (prZ E) m F fun e he=>o.pt e.1 (mem_map.mpr ⟨e,he,rfl⟩)];grind
theorem Ha (hk:HtK m hs):(dF hs E).length=wd m (rwZ E):=by
 unfold dF;rw[List.length_append,length_drop,hk.l,Ga,zY]
theorem Bal.low (b:Bal m t L hs h E j)(hk:HtK m hs):iZ (dF hs E):=fun p hp=>by
 rcases mem_append.mp hp with z | z
 ·exact(hk.ok p (mem_of_mem_drop z)).1
 ·obtain⟨e,he,k,rfl⟩:=qX z;obtain⟨x,hx,rfl⟩:=mem_map.mp he;exact((b.en x hx).ho k).2.l
theorem Xy (hk:HtK m hs):lvS m (dF hs E)=hs:=by
 have m1:=hk.m1;have lh:=hk.l;unfold lvS dF;rw[take_append_of_le_length (by rw[length_drop];lia),take_of_length_le (by rw[length_drop];lia)]
 cases hh:hs with
 |nil=>rw[hh] at lh;simp at lh;lia
 |cons a r=>
  have:=hk.h0;rw[hh] at this;have:a=(0,1):=this;rw[this];rfl
theorem Mw (hk:HtK m hs):(dF hs E).drop (m - 1)=hdF (prZ E):=by
 have lh:=hk.l;unfold dF;rw[drop_append_of_le_length (by rw[length_drop];lia),drop_of_length_le (by rw[length_drop];lia),nil_append]
theorem Bal.flows (b:Bal m t L hs h E j)(hk:HtK m hs):gK (lvS m (dF hs E)) ((dF hs E).drop (m - 1)) 0 (rwZ E)=E.map (·.2.2):=by
 rw[Xy hk,Mw hk,<- zY];have:=Em (lv:=hs) (hs:=hdF (prZ E)) (prZ E) 0 (fun e he=>by
  obtain⟨x,hx,rfl⟩:=mem_map.mp he;exact⟨fun k=>((b.en x hx).pc k).2.2,fun k=>((b.en x hx).pu k).1⟩) (fun j _=>by rw[Nat.zero_add])
 rw[this,map_map];rfl
end
structure lC (m:Nat) (L:Int) (bl:Nat) (ds:List RD):Prop where
 o:Nof m ds
 m5:m<=5
 len:ds.length<=20
 L1:1<=L
 LB:Mq.B bl L
 bits:(bl+67)*(wd m ds+1)+8<=3900
 ok:∀d∈ds,qM (m:Int) d/\Bd (if fA 66 d then 500 else 66) d.2.2.2
 pcs:∀d∈ds,d.1=.pc->Mq.Fr L 6 (1 / Mq.val d.2.2.2)
 ots:∀d∈ds,d.1≠.pc->Mq.Fr L (2 ^ 56) (Mq.val d.2.2.2)
 sm:∀d∈ds,d.1≠.pu->fA 66 d=false
 cnt:ds.countP (fA 66)<=4
section
variable {m bl:Nat} {L:Int} {ds:List RD}
theorem lC.eqb (h:lC m L bl ds):EqB m (bl+61) L ds:=by
 have L1:=h.L1;have bits:=h.bits;have w1:1<=wd m ds+1:=by lia
 have e1:(bl+61+5)*(wd m ds+1)+8<=4000:=by
  have:=Nat.mul_le_mul_right (wd m ds+1) (show bl+61+5<=bl+67 by lia);lia
 have e2:(bl+61)*(wd m ds+1)<=3900:=by
  have:=Nat.mul_le_mul_right (wd m ds+1) (show bl+61<=bl+67 by lia);lia
 have e3:bl+61<=(bl+61)*(wd m ds+1):=Nat.le_mul_of_pos_right _ (by lia);have w26:wd m ds<=26:=by
  have a:bG ds<=ds.length:=length_filter_le _ _;have:=h.len;have:=h.m5;show m - 1+bG ds<=26;lia
 refine⟨h.o,w26,by lia,by lia,e1,L1,h.LB.mono (by lia),fun i j=>?_⟩;have one:=Mq.Fr.one L1;have c:∀d∈ds,∀k,Mq.Fr L 6 (cM d k (i+1) (j+1)):=fun d hd k=>by
  unfold cM
  cases hk:d.1 with
  |pu=>exact Mq.Fr.zero.mono (Nat.zero_le _)
  |ho=>
   dsimp only;refine(Mq.Fr.add (wH (Ek one) _ _ _) (N:=1) ?_).mono (by decide);rw[Rat.mul_comm];exact wH (Ek one) _ _ _
  |pc=>
   dsimp only;rw[Rat.mul_assoc];exact wH (wH (h.pcs d hd hk) _ _ _) _ _ _
 refine Mq.Fr.get (m:=7) (n:=bl) (Op m c) ?_ h.LB (by lia)
 calc ds.length*6<=20*6:=Nat.mul_le_mul_right _ h.len
  _ < 2 ^ 7:=by decide
theorem lC.eR (h:lC m L bl ds)(i:Nat):∃a:Int,Mq.B (bl+61) a/\eqR m ds (i+1)=(a:Rat) / (L:Rat):=by
 have c:∀d∈ds,∀k,Mq.Fr L (2 ^ 56) (cR d k (i+1)):=fun d hd k=>by
  unfold cR
  cases hk:d.1 with
  |pc=>exact Mq.Fr.zero.mono (Nat.zero_le _)
  |pu=>
   dsimp only;rw[Rat.neg_mul];exact(wH (h.ots d hd (by rw[hk];decide)) _ _ _).neg
  |ho=>
   dsimp only;exact Ek (h.ots d hd (by rw[hk];decide))
 refine Mq.Fr.get (m:=61) (n:=bl) (Qk m c) ?_ h.LB (by lia)
 calc ds.length*2 ^ 56<=20*2 ^ 56:=Nat.mul_le_mul_right _ h.len
  _ < 2 ^ 61:=by decide
def kbK (ds:List RD)(i:Nat):Nat:=if fA 66 (ds.getD i (.pc,0,0,(0,1))) then 500 else 66
def wbK (ds:List RD)(i:Nat):Nat:=if fA 66 (ds.getD i (.pc,0,0,(0,1))) then 1010 else 284
theorem Uz {i:Nat}{d:RD}(h:ds[i]?=some d):ds.getD i (.pc,0,0,(0,1))=d:=by
 rw[getD_eq_getElem?_getD,h];rfl
theorem lC.rw (h:lC m L bl ds)(i:Nat)(d:RD)(hd:ds[i]?=some d):RwW m (kbK ds i) (wbK ds i) d:=by
 have hm:=mem_of_getElem? hd;obtain⟨a,b⟩:=h.ok d hm;unfold kbK wbK;rw[Uz hd];refine⟨a,b,fun hk=>?_,fun hk=>?_⟩
 ·cases fA 66 d<;>decide
 ·rw[h.sm d hm hk];decide
theorem Hf (ds:List RD):∀n,n<=ds.length->jT (wbK ds) n<=284*n+726*(ds.take n).countP (fA 66)
 |0,_=>Nat.zero_le _
 |n+1,h=>by
  have ih:=Hf ds n (by lia);have hd:ds[n]?=some ds[n]:=getElem?_eq_getElem (by lia);show jT (wbK ds) n+wbK ds n<=_;rw[take_add_one,hd,countP_append];unfold wbK at *
  rw[Uz hd];show _<=284*(n+1)+726*(countP (fA 66) (ds.take n)+countP (fA 66) [ds[n]])
  rw[countP_singleton]
  cases fA 66 ds[n]
  ·simp only[Bool.false_eq_true,if_false];lia
  ·simp only[if_true];lia
theorem lC.cu (h:lC m L bl ds):jT (wbK ds) ds.length+30<=8900:=by
 have a:=Hf ds ds.length (Nat.le_refl _);rw[take_length] at a;have:=h.cnt;have:=h.len;lia
end
section
variable {m t j h:Nat} {L:Int} {hs:List Q2} {E:List Ez}
theorem Bal.knet {bl:Nat}(b:Bal m t L hs h E j)(hk:HtK m hs)(j4:j<=4)(m5:m<=5)(len:E.length<=20)(L1:1<=L)(d27:(27720:Int) ∣ L)(LB:Mq.B bl L)(bl430:bl<=440)(bits:(bl+67)*(m - 1+h+1)+8<=3900):lC m L bl (rwZ E):=by
 have up:∀{x:Rat} {M:Nat},Mq.Fr 27720 M x->Mq.Fr L M x:=fun {x M} f=>by
  obtain⟨k,rfl⟩:=d27;exact f.lift (by decide) (by lia)
 have fp:∀e∈E,e.2.1.1=.pu->Bd 500 e.2.1.2.2.2:=fun e he k=>by
  obtain⟨s,lo,fr⟩:=(b.en e he).pu k;rw[s] at lo fr;obtain⟨a,ab,ea⟩:=Mq.Fr.get fr (show 2 ^ 50 < 2 ^ 51 by decide) LB (b:=51+bl) (Nat.le_refl _);exact(kC lo L1 (LB.mono (by lia)) ab ea).1.mono (by lia)
 have sm60:∀e∈E,e.2.1.1≠.pu->Bd 60 e.2.1.2.2.2:=fun e he k=>by
  have o:=b.en e he
  cases k':e.2.1.1 with
  |pc=>exact(o.pc k').1.bd.mono (by decide)
  |pu=>exact absurd k' k
  |ho=>rw[(o.ho k').1];exact hk.fbd o.pt
 refine⟨b.nof,m5,by rw[length_map];exact len,L1,LB,by rw[show wd m (rwZ E)=m - 1+h by show m - 1+bG (rwZ E)=_;rw[b.nh]];exact bits,fun d hd=>?_,fun d hd k=>?_,fun d hd k=>?_,fun d hd k=>?_,?_⟩
 ·obtain⟨e,he,rfl⟩:=mem_map.mp hd;have o:=b.en e he;obtain⟨p1,p2,p3,p4⟩:=o.pt;have bd:Bd (if fA 66 e.2.1 then 500 else 66) e.2.1.2.2.2:=by
   cases c:fA 66 e.2.1 with
   |false=>exact oI c
   |true=>
    by_cases k:e.2.1.1=.pu
    ·exact fp e he k
    ·have:=pI ((sm60 e he k).mono (show 60<=66 by decide));rw[c] at this;cases this
  refine⟨⟨p1,p2,p3,p4,?_,fun k=>(o.pc k).1.p0,bd.mono (by split<;>decide)⟩,bd⟩
  cases k:e.2.1.1 with
  |pc=>exact(o.pc k).1.l
  |pu=>rw[<- (o.pu k).1];exact(o.pu k).2.1
  |ho=>rw[(o.ho k).1];exact(hk.fall o.pt).1
 ·obtain⟨e,he,rfl⟩:=mem_map.mp hd;obtain⟨z,dv,_⟩:=(b.en e he).pc k;exact z.inv L1 dv
 ·obtain⟨e,he,rfl⟩:=mem_map.mp hd;have o:=b.en e he
  cases k':e.2.1.1 with
  |pc=>exact absurd k' k
  |pu=>rw[<- (o.pu k').1];exact(o.pu k').2.2.mono (by decide)
  |ho=>rw[(o.ho k').1];exact(up (hk.fall o.pt).2.1).mono (by decide)
 ·obtain⟨e,he,rfl⟩:=mem_map.mp hd;exact pI ((sm60 e he k).mono (by decide))
 ·refine Nat.le_trans (countP_mono_left fun d _ c=>?_) (Nat.le_trans b.big j4)
  cases c':fA 60 d with
  |true=>rfl
  |false=>rw[pI ((oI c').mono (show 60<=66 by decide))] at c;cases c
end
def puR (u:Nat->Rat):List RD->Rat
 | []=>0
 |d :: r=>(if d.1=.pu then Mq.val d.2.2.2*(u d.2.1.toNat - u d.2.2.1.toNat) else 0)+puR u r
def hoR (u:Nat->Rat):Nat->List RD->Rat
 |_,[]=>0
 |h,d :: r=>(if d.1=.ho then Mq.val d.2.2.2*u h else 0)+hoR u (h+bL d.1) r
def pcR:List Pr2->Rat
 | []=>0
 |e :: r=>(if e.1.1=.pc then Mq.val e.1.2.2.2*(Mq.val e.2*Mq.val e.2) else 0)+pcR r
def pwR (u:Nat->Rat):List Pr2->Rat
 | []=>0
 |e :: r=>Mq.val e.2*(u e.1.2.1.toNat - u e.1.2.2.1.toNat)+pwR u r
section
variable {u:Nat->Rat} {m:Nat}
theorem Vd:∀{D:List Pr2},(∀e∈D,cO (m:Int) e.1.2.1 e.1.2.2.1)->Mq.rs m (fun x=>u x*ouR x D)=pwR u D
 | [],_=>by
  show Mq.rs m (fun x=>u x*0)=0;have:=dM m 0 (fun _=>(0:Rat));rw[aS (G:=fun _=>(0:Rat)*0) (fun i _=>by grind),this];grind
 |e :: D,pt=>by
  have ih:=Vd (D:=D) fun x hx=>pt x (mem_cons_of_mem _ hx);obtain⟨a,b,c,d⟩:=pt e (by simp);show Mq.rs m (fun x=>u x*(dl e.1.2.1.toNat e.1.2.2.1.toNat x*Mq.val e.2+ouR x D))=Mq.val e.2*(u e.1.2.1.toNat - u e.1.2.2.1.toNat)+pwR u D;rw[aS (G:=fun x=>Mq.val e.2*(u x*dl e.1.2.1.toNat e.1.2.2.1.toNat x)+u x*ouR x D) (fun i _=>by grind),eK,dM,Bm u (by lia) (by lia),ih]
theorem Ag:∀(D:List Pr2) (h:Nat),Fws u h D->(∀e∈D,e.1.1=.pc->Mq.val e.1.2.2.2≠0)->pwR u D=pcR D+puR u (D.map (·.1))+hoR u h (D.map (·.1))
 | [],_,_,_=>by show (0:Rat)=0+0+0;grind
 |e :: D,h,F,nz=>by
  have ih:=Ag D (h+bL e.1.1) F.2 fun x hx=>nz x (mem_cons_of_mem _ hx);have o:=F.1;have z:=nz e (by simp);show Mq.val e.2*(u e.1.2.1.toNat - u e.1.2.2.1.toNat)+pwR u D=((if e.1.1=.pc then Mq.val e.1.2.2.2*(Mq.val e.2*Mq.val e.2) else 0)+pcR D)+((if e.1.1=.pu then Mq.val e.1.2.2.2*(u e.1.2.1.toNat - u e.1.2.2.1.toNat) else 0)+puR u (D.map (·.1)))+((if e.1.1=.ho then Mq.val e.1.2.2.2*u h else 0)+hoR u (h+bL e.1.1) (D.map (·.1)))
  rw[ih];unfold Fa at o
  cases hk:e.1.1 with
  |pc=>
   rw[hk] at o;dsimp only at o;have z:=z hk;rw[if_pos rfl,if_neg (fun q=>by cases q),if_neg (fun q=>by cases q),o];generalize u e.1.2.1.toNat - u e.1.2.2.1.toNat=F1;generalize Mq.val e.1.2.2.2=S at z;grind
  |pu=>
   rw[hk] at o;dsimp only at o;rw[if_neg (fun q=>by cases q),if_pos rfl,if_neg (fun q=>by cases q),o];grind
  |ho=>
   rw[hk] at o;dsimp only at o;rw[if_neg (fun q=>by cases q),if_neg (fun q=>by cases q),if_pos rfl,o.1,o.2];grind
theorem dB {n:Nat}{F:Nat->Rat}(h:∀i,i < n->F i=0):Mq.rs n F=0:=by
 rw[aS (G:=fun _=>(0:Rat)*0) (fun i hi=>by rw[h i hi];grind),dM n 0 (fun _=>(0:Rat))];grind
end
section
variable {m t j h:Nat} {L:Int} {hs:List Q2} {E:List Ez}
theorem Bal.power (b:Bal m t L hs h E j)(hk:HtK m hs)(bal:∀x,1<=x->x < m->ouR x (prZ E)=0):pcR (prZ E)=- puR (uP (dF hs E)) (rwZ E) - hoR (uP (dF hs E)) m (rwZ E):=by
 have o:=b.nof;have a:=Vd (u:=uP (dF hs E)) (m:=m) (D:=prZ E) fun e he=>by
  obtain⟨x,hx,rfl⟩:=mem_map.mp he;exact(b.en x hx).pt
 have z:Mq.rs m (fun x=>uP (dF hs E) x*ouR x (prZ E))=0:=dB fun i hi=>by
  by_cases c:i=0
  ·rw[c,show uP (dF hs E) 0=0 from if_pos rfl];grind
  ·rw[bal i (by lia) hi];grind
 have s:=Ag (prZ E) m (b.fws hk) fun e he k=>by
  obtain⟨x,hx,rfl⟩:=mem_map.mp he;have:=((b.en x hx).pc k).1.pos;exact fun q=>by rw[q] at this;exact absurd this (by decide)
 rw[zY] at s;rw[z] at a;grind
end
theorem Hb:∀{D:List Pr2},(∀e∈D,1<=e.1.2.2.2.2/\1<=e.2.2)->lH (((fG .pc D).map gW).map Mq.val)=pcR D
 | [],_=>rfl
 |e :: D,h=>by
  have ih:=Hb (D:=D) fun x hx=>h x (mem_cons_of_mem _ hx);obtain⟨a,b⟩:=h e (by simp);show lH (((List.filter _ (e :: D)).map gW).map Mq.val)=(if e.1.1=.pc then _ else 0)+pcR D
  by_cases c:e.1.1=.pc
  ·rw[filter_cons_of_pos (by exact decide_eq_true c),if_pos c];show Mq.val (gW e)+lH (((fG .pc D).map gW).map Mq.val)=_;rw[ih];unfold gW;rw[fH a (cP b b).pos,fH b b]
  ·rw[filter_cons_of_neg (by simpa using c),if_neg c];show lH (((fG .pc D).map gW).map Mq.val)=_;rw[ih];grind
theorem Hj {hp:List Q2}{u:Nat->Rat}{m:Nat}(hl:∀i,i < m->1<=(hp.getD i (0,1)).2/\Mq.val (hp.getD i (0,1))=u i):∀{ds:List RD},(∀d∈ds,cO (m:Int) d.2.1 d.2.2.1/\1<=d.2.2.2.2)->lH (((eT .pu ds).map (gP hp)).map Mq.val)=puR u ds
 | [],_=>rfl
 |d :: ds,h=>by
  have ih:=Hj hl (ds:=ds) fun x hx=>h x (mem_cons_of_mem _ hx);obtain⟨⟨a,b,c,e⟩,p⟩:=h d (by simp);show lH (((List.filter _ (d :: ds)).map (gP hp)).map Mq.val)=(if d.1=.pu then _ else 0)+puR u ds
  by_cases k:d.1=.pu
  ·rw[filter_cons_of_pos (by exact decide_eq_true k),if_pos k];show Mq.val (gP hp d)+lH (((eT .pu ds).map (gP hp)).map Mq.val)=_;rw[ih];obtain⟨l1,v1⟩:=hl d.2.1.toNat (by lia);obtain⟨l2,v2⟩:=hl d.2.2.1.toNat (by lia);unfold gP flF;rw[fH p (cT l1 l2).pos,eX l1 l2,v1,v2]
  ·rw[filter_cons_of_neg (by simpa using k),if_neg k];show lH (((eT .pu ds).map (gP hp)).map Mq.val)=_;rw[ih];grind
theorem Gd {lv hs:List Q2}{u:Nat->Rat}{m:Nat}(hu:∀t,u (m+t)=Mq.val (hs.getD t Mq.z0)):∀{ds:List RD} (t:Nat),(∀d∈ds,1<=d.2.2.2.2)->(∀p∈gK lv hs t ds,1<=p.2)->lH (((fG .ho (ds.zip (gK lv hs t ds))).map gH).map Mq.val)=hoR u (m+t) ds
 | [],_,_,_=>rfl
 |d :: ds,t,h,f=>by
  have ih:=Gd hu (ds:=ds) (t+bL d.1) (fun x hx=>h x (mem_cons_of_mem _ hx)) (fun p hp=>f p (mem_cons_of_mem _ hp));have p:=h d (by simp);have f1:=f (jO lv hs t d) (by show _∈jO lv hs t d :: _;simp);show lH (((List.filter _ ((d,jO lv hs t d) :: ds.zip (gK lv hs (t+bL d.1) ds))).map gH).map Mq.val)=(if d.1=.ho then _ else 0)+hoR u (m+t+bL d.1) ds;rw[show m+t+bL d.1=m+(t+bL d.1) by lia]
  by_cases k:d.1=.ho
  ·rw[filter_cons_of_pos (by exact decide_eq_true k),if_pos k];show Mq.val (gH (d,jO lv hs t d))+lH (((fG .ho (ds.zip (gK lv hs (t+bL d.1) ds))).map gH).map Mq.val)=_;rw[ih];unfold gH;rw[fH p f1];have:jO lv hs t d=hs.getD t Mq.z0:=by
    unfold jO;rw[if_pos k,k];rfl
   rw[this,<- hu t]
  ·rw[filter_cons_of_neg (by simpa using k),if_neg k];show lH (((fG .ho (ds.zip (gK lv hs (t+bL d.1) ds))).map gH).map Mq.val)=_;rw[ih];grind
theorem qh8 {m:Nat}{sol:List Q2}(m1:1<=m)(hl:m - 1<=sol.length){p:Nat}(hp:p < m):Mq.val ((lvS m sol).getD p (0,1))=uP sol p:=by
 unfold lvS uP
 by_cases c:p=0
 ·rw[if_pos c,c];exact kU
 ·rw[if_neg c,getD_eq_getElem?_getD,show p=(p - 1)+1 by lia,getElem?_cons_succ,getElem?_take_of_lt (by lia),Nat.add_sub_cancel,getD_eq_getElem?_getD,getElem?_eq_getElem (by lia)]
theorem Uv {m:Nat}{ds:List RD}{sol:List Q2}(m1:1<=m)(hl:m - 1<=sol.length)(ok:∀d∈ds,qM (m:Int) d)(lv:∀p∈lvS m sol,Low p)(fl:∀p∈gK (lvS m sol) (sol.drop (m - 1)) 0 ds,Low p):Low (Ny (lvS m sol) (gK (lvS m sol) (sol.drop (m - 1)) 0 ds) ds)/\Mq.val (Ny (lvS m sol) (gK (lvS m sol) (sol.drop (m - 1)) 0 ds) ds)=- puR (uP sol) ds - hoR (uP sol) m ds:=by
 have lvl:(lvS m sol).length=m:=by unfold lvS;rw[length_cons,length_take];lia
 have at_:∀i,i < m->1<=((lvS m sol).getD i (0,1)).2/\Mq.val ((lvS m sol).getD i (0,1))=uP sol i:=fun i hi=>⟨(lv _ (mem_of_getElem? (iW (by lia)))).pos,qh8 m1 hl hi⟩
 have PP:Mq.Pos ((eT .pu ds).map (gP (lvS m sol))):=iL fun d hd=>by
  have h:=ok _ (uC hd).1;have f:Low (flF (lvS m sol) d):=by
   have a1:0<=d.2.1:=h.1;have a2:d.2.1 < (m:Int):=h.2.1;have a3:0<=d.2.2.1:=h.2.2.1;have a4:d.2.2.1 < (m:Int):=h.2.2.2.1;exact cT (at_ _ (by lia)).1 (at_ _ (by lia)).1
  exact cP h.2.2.2.2.1.pos f.pos
 have PH:Mq.Pos ((fG .ho (ds.zip (gK (lvS m sol) (sol.drop (m - 1)) 0 ds))).map gH):=iL fun e he=>by
  have hm:=of_mem_zip (jX he).1;exact cP (ok _ hm.1).2.2.2.2.1.pos (fl _ hm.2).pos
 have t1:=(jF PP).pos;have t2:=(jF PH).pos;have hu:∀t,uP sol (m+t)=Mq.val ((sol.drop (m - 1)).getD t Mq.z0):=fun t=>by
  unfold uP;rw[if_neg (by lia),getD_eq_getElem?_getD,getD_eq_getElem?_getD,getElem?_drop,show m - 1+t=m+t - 1 by lia]
 refine⟨cT (cT (by decide) t1).pos t2,?_⟩;unfold Ny Ly Vw;rw[eX (cT (by decide) t1).pos t2,eX (by decide) t1,xQ PP,xQ PH,Hj at_ (fun d hd=>⟨⟨(ok d hd).1,(ok d hd).2.1,(ok d hd).2.2.1,(ok d hd).2.2.2.1⟩,(ok d hd).2.2.2.2.1.pos⟩),Gd hu 0 (fun d hd=>(ok d hd).2.2.2.2.1.pos) (fun p hp=>(fl p hp).pos),kU,Nat.add_zero];grind
def scR (f:Q2)(d:RD):RD:=if d.1=.pc then d else (d.1,d.2.1,d.2.2.1,gB d.2.2.2 f)
section
variable {f:Q2} {u:Nat->Rat}
theorem kR (f:Q2)(d:RD):(scR f d).1=d.1/\(scR f d).2.1=d.2.1/\(scR f d).2.2.1=d.2.2.1:=by
 unfold scR;split<;>exact⟨rfl,rfl,rfl⟩
theorem qD {d:RD}(h:d.1=.pc):scR f d=d:=if_pos h
theorem Ay {d:RD}(f1:1<=f.2)(d1:1<=d.2.2.2.2)(h:d.1≠.pc):Mq.val (scR f d).2.2.2=Mq.val d.2.2.2*Mq.val f:=by
 unfold scR;rw[if_neg h];exact fH d1 f1
theorem qb8 (d:RD)(h x y:Nat):cM (scR f d) h x y=cM d h x y:=by
 obtain⟨a,b,c⟩:=kR f d;unfold cM
 cases hk:d.1 with
 |pc=>rw[qD hk,hk]
 |pu=>rw[a,hk]
 |ho=>rw[a,hk,b,c]
theorem Ms:∀(ds:List RD) (h x y:Nat),eqM h (ds.map (scR f)) x y=eqM h ds x y
 | [],_,_,_=>rfl
 |d :: ds,h,x,y=>by
  show cM (scR f d) h x y+eqM (h+bL (scR f d).1) (ds.map (scR f)) x y=cM d h x y+eqM (h+bL d.1) ds x y;rw[qb8,(kR f d).1,Ms ds]
theorem Oq (f1:1<=f.2):∀(ds:List RD) (h x:Nat),(∀d∈ds,1<=d.2.2.2.2)->eqR h (ds.map (scR f)) x=Mq.val f*eqR h ds x
 | [],_,_,_=>by show (0:Rat)=Mq.val f*0;grind
 |d :: ds,h,x,p=>by
  have ih:=Oq f1 ds (h+bL d.1) x fun y hy=>p y (mem_cons_of_mem _ hy);have d1:=p d (by simp);obtain⟨a,b,c⟩:=kR f d;show cR (scR f d) h x+eqR (h+bL (scR f d).1) (ds.map (scR f)) x=Mq.val f*(cR d h x+eqR (h+bL d.1) ds x)
  rw[a,ih];have e:cR (scR f d) h x=Mq.val f*cR d h x:=by
   unfold cR
   cases hk:d.1 with
   |pc=>rw[qD hk,hk];grind
   |pu=>rw[a,hk,b,c,Ay f1 d1 (by rw[hk];decide)];dsimp only;grind
   |ho=>
    rw[a,hk,Ay f1 d1 (by rw[hk];decide)];dsimp only;split<;>grind
  rw[e];grind
theorem Kp (f1:1<=f.2):∀(ds:List RD),(∀d∈ds,1<=d.2.2.2.2)->puR (fun x=>Mq.val f*u x) (ds.map (scR f))=Mq.val f*Mq.val f*puR u ds
 | [],_=>by show (0:Rat)=_*0;grind
 |d :: ds,p=>by
  have ih:=Kp f1 ds fun y hy=>p y (mem_cons_of_mem _ hy);have d1:=p d (by simp);obtain⟨a,b,c⟩:=kR f d;show (if (scR f d).1=.pu then Mq.val (scR f d).2.2.2*(Mq.val f*u (scR f d).2.1.toNat - Mq.val f*u (scR f d).2.2.1.toNat) else 0)+puR _ (ds.map (scR f))=Mq.val f*Mq.val f*((if d.1=.pu then Mq.val d.2.2.2*(u d.2.1.toNat - u d.2.2.1.toNat) else 0)+puR u ds)
  rw[ih,a,b,c]
  by_cases k:d.1=.pu
  ·rw[if_pos k,if_pos k,Ay f1 d1 (by rw[k];decide)];grind
  ·rw[if_neg k,if_neg k];grind
theorem Pf (f1:1<=f.2):∀(ds:List RD) (h:Nat),(∀d∈ds,1<=d.2.2.2.2)->hoR (fun x=>Mq.val f*u x) h (ds.map (scR f))=Mq.val f*Mq.val f*hoR u h ds
 | [],_,_=>by show (0:Rat)=_*0;grind
 |d :: ds,h,p=>by
  have ih:=Pf f1 ds (h+bL d.1) fun y hy=>p y (mem_cons_of_mem _ hy);have d1:=p d (by simp);obtain⟨a,b,c⟩:=kR f d;show (if (scR f d).1=.ho then Mq.val (scR f d).2.2.2*(Mq.val f*u h) else 0)+hoR _ (h+bL (scR f d).1) (ds.map (scR f))=Mq.val f*Mq.val f*((if d.1=.ho then Mq.val d.2.2.2*u h else 0)+hoR u (h+bL d.1) ds)
  rw[a,ih]
  by_cases k:d.1=.ho
  ·rw[if_pos k,if_pos k,Ay f1 d1 (by rw[k];decide)];grind
  ·rw[if_neg k,if_neg k];grind
theorem Cr (ds:List RD):bG (ds.map (scR f))=bG ds:=by
 induction ds with
 |nil=>rfl
 |cons d ds ih=>rw[map_cons,cY,cY,(kR f d).1,ih]
theorem Vb (f1:1<=f.2){sol:List Q2}(lo:∀p∈sol,1<=p.2):uP (sol.map fun p=>gB p f)=fun x=>Mq.val f*uP sol x:=funext fun x=>by
 unfold uP
 by_cases c:x=0
 ·rw[if_pos c,if_pos c];grind
 ·rw[if_neg c,if_neg c,getD_eq_getElem?_getD,getD_eq_getElem?_getD,getElem?_map]
  cases e:sol[x - 1]? with
  |none=>
   show Mq.val Mq.z0=Mq.val f*Mq.val Mq.z0;rw[show Mq.val Mq.z0=0 from kU];grind
  |some p=>
   show Mq.val (gB p f)=Mq.val f*Mq.val p;rw[fH (lo p (mem_of_getElem? e)) f1];grind
theorem Sv.sc {m:Nat}{ds:List RD}{sol:List Q2}(f1:1<=f.2)(lo:∀p∈sol,1<=p.2)(p1:∀d∈ds,1<=d.2.2.2.2)(h:Sv m ds (eqR m ds) (uP sol)):Sv m (ds.map (scR f)) (eqR m (ds.map (scR f))) (uP (sol.map fun p=>gB p f)):=by
 refine⟨if_pos rfl,fun i hi=>?_⟩;have hw:wd m (ds.map (scR f))=wd m ds:=by show m - 1+_=m - 1+_;rw[Cr]
 rw[hw] at hi ⊢;rw[Oq f1 _ _ _ p1,<- h.e i hi,Vb f1 lo,<- dM];refine aS fun j _=>?_;rw[Ms];grind
theorem Nof.sc {m:Nat}{ds:List RD}(o:Nof m ds):Nof m (ds.map (scR f)):=by
 refine Nof.sk (ds:=ds) ?_ o fun d hd k=>?_
 ·rw[map_map];refine map_congr_left fun d _=>?_;obtain⟨a,b,c⟩:=kR f d;show (d.1,d.2.1,d.2.2.1)=((scR f d).1,(scR f d).2.1,(scR f d).2.2.1)
  rw[a,b,c]
 ·obtain⟨e,he,rfl⟩:=mem_map.mp hd;have k':e.1=.pc:=(kR f e).1.symm.trans k;rw[qD k'];exact o.pos e he k'
end
theorem yE {α:Type}{P q:α->Bool}{g:α->Q2}{A C:Nat}:∀{l:List α},(∀d∈l,P d=true->Bd (if q d then A+C else A) (g d))->∃w,Wt ((l.filter P).map g) w/\w<=(A+1)*l.length+C*l.countP q
 | [],_=>⟨0,.nil,Nat.zero_le _⟩
 |d :: l,h=>by
  obtain⟨w,hw,le⟩:=yE (l:=l) fun x hx=>h x (mem_cons_of_mem _ hx);have e1:(A+1)*(d :: l).length=(A+1)*l.length+(A+1):=by rw[length_cons,Nat.mul_succ]
  have e2:C*(d :: l).countP q=C*l.countP q+if q d then C else 0:=by
   rw[countP_cons];split
   ·rw[Nat.mul_succ]
   ·simp
  rw[e1,e2]
  by_cases hp:P d=true
  ·rw[filter_cons_of_pos hp,map_cons];refine⟨_,.cons (h d (by simp) hp) hw,?_⟩
   cases q d
   ·simp only[Bool.false_eq_true,if_false];lia
   ·simp only[if_true];lia
  ·rw[filter_cons_of_neg hp];exact⟨w,hw,by lia⟩
section
variable {m bl:Nat} {L:Int} {ds:List RD} {sol:List Q2}
structure qk2 (m:Nat) (ds:List RD) (sol:List Q2):Prop where
 lv:∀p∈lvS m sol,Low p/\Bd 3900 p
 fl:∀p∈gK (lvS m sol) (sol.drop (m - 1)) 0 ds,Low p/\Bd 3900 p
 w1:∃w,Wt ((eT .pu ds).map (gP (lvS m sol))) w/\w<=6000
 w2:∃w,Wt ((fG .ho (ds.zip (gK (lvS m sol) (sol.drop (m - 1)) 0 ds))).map gH) w/\w<=2500
theorem Fi {lv hs:List Q2}:∀{ds:List RD} (t:Nat) {e:RD × Q2},e∈ds.zip (gK lv hs t ds)->e.1∈ds/\∃t',e.2=jO lv hs t' e.1
 |d :: ds,t,e,h=>by
  rcases mem_cons.mp (show e∈(d,jO lv hs t d) :: ds.zip (gK lv hs (t+bL d.1) ds) from h) with z | z
  ·rw[z];exact⟨by simp,t,rfl⟩
  ·obtain⟨a,b⟩:=Fi (t+bL d.1) z;exact⟨mem_cons_of_mem _ a,b⟩
theorem Hg {lv hs:List Q2}:∀{ds:List RD} (t:Nat) {p:Q2},p∈gK lv hs t ds->∃d∈ds,∃t',p=jO lv hs t' d
 |d :: ds,t,p,h=>by
  rcases mem_cons.mp (show p∈jO lv hs t d :: gK lv hs (t+bL d.1) ds from h) with z | z
  ·exact⟨d,by simp,t,z⟩
  ·obtain⟨x,hx,y⟩:=Hg (t+bL d.1) z;exact⟨x,mem_cons_of_mem _ hx,y⟩
theorem lC.sumB (h:lC m L bl ds)(lv:∀p∈sol.take (m - 1),Low p/\Bd 61 p)(len:m - 1<=sol.length)(hd:∀p∈sol.drop (m - 1),Low p/\Bd 50 p):qk2 m ds sol:=by
 have m1:=h.o.m1;have l0:Low (0,1)/\Bd 50 (0,1):=⟨⟨by decide,by decide⟩,⟨show (0:Nat) < 2 ^ 50 by decide,show (1:Nat) < 2 ^ 50 by decide⟩⟩
 have lvA:∀p∈lvS m sol,Low p/\Bd 61 p:=fun p hp=>by
  rcases mem_cons.mp hp with z | z
  ·rw[z];exact⟨l0.1,l0.2.mono (by decide)⟩
  ·exact lv p z
 have lvl:(lvS m sol).length=m:=by unfold lvS;rw[length_cons,length_take];lia
 have fa:∀d∈ds,Low (flF (lvS m sol) d)/\Bd 123 (flF (lvS m sol) d):=fun d hd=>Ev lvA lvl ⟨(h.ok d hd).1.1,(h.ok d hd).1.2.1,(h.ok d hd).1.2.2.1,(h.ok d hd).1.2.2.2.1⟩;have hg:∀t,Low ((sol.drop (m - 1)).getD t Mq.z0)/\Bd 50 ((sol.drop (m - 1)).getD t Mq.z0):=fun t=>by
  rw[getD_eq_getElem?_getD]
  cases e:(sol.drop (m - 1))[t]? with
  |none=>exact l0
  |some p=>exact hd p (mem_of_getElem? e)
 have fl:∀d∈ds,∀t,Low (jO (lvS m sol) (sol.drop (m - 1)) t d)/\Bd 500 (jO (lvS m sol) (sol.drop (m - 1)) t d)/\(d.1=.ho->Bd 50 (jO (lvS m sol) (sol.drop (m - 1)) t d)):=fun d hd t=>by
  obtain⟨r,b⟩:=h.ok d hd;obtain⟨f1,f2⟩:=fa d hd;unfold jO
  cases k:d.1 with
  |pc=>
   have p0:=r.2.2.2.2.2.1 k;rw[h.sm d hd (by rw[k];decide)] at b;exact⟨pA f1.pos (by lia),(rL f2 b f1.pos (by lia)).mono (by simp),fun z=>by cases z⟩
  |pu=>exact⟨r.2.2.2.2.1,b.mono (by split<;>decide),fun z=>by cases z⟩
  |ho=>
   rw[if_pos rfl];exact⟨(hg t).1,(hg t).2.mono (by decide),fun _=>(hg t).2⟩
 have cnt:=h.cnt;have len':=h.len;refine⟨fun p hp=>⟨(lvA p hp).1,(lvA p hp).2.mono (by decide)⟩,fun p hp=>?_,?_,?_⟩
 ·obtain⟨d,hd',t,rfl⟩:=Hg 0 hp;exact⟨(fl d hd' t).1,(fl d hd' t).2.1.mono (by decide)⟩
 ·obtain⟨w,hw,le⟩:=yE (P:=fun d=>decide (d.1=Kd.pu)) (q:=fA 66) (g:=gP (lvS m sol)) (A:=189) (C:=434) (l:=ds) fun d hd' _=>by
   obtain⟨r,b⟩:=h.ok d hd';have:=(Qp (hp:=lvS m sol) r.2.2.2.2.1 b (fa d hd').1 (fa d hd').2).2;refine this.mono ?_
   cases fA 66 d<;>simp
  exact⟨w,hw,by lia⟩
 ·obtain⟨w,hw,le⟩:=yE (P:=fun e:RE=>decide (e.1.1=Kd.ho)) (q:=fun _=>false) (g:=gH) (A:=116) (C:=0) (l:=ds.zip (gK (lvS m sol) (sol.drop (m - 1)) 0 ds)) fun e he k=>by
   obtain⟨a,t,e2⟩:=Fi 0 he;obtain⟨r,b⟩:=h.ok e.1 a;have k':e.1.1=.ho:=of_decide_eq_true k;rw[h.sm e.1 a (by rw[k'];decide)] at b;obtain⟨f1,_,f3⟩:=fl e.1 a t;rw[<- e2] at f1 f3;exact(Lj r.2.2.2.2.1 b f1 (f3 k')).2.mono (by simp)
  have lz:(ds.zip (gK (lvS m sol) (sol.drop (m - 1)) 0 ds)).length<=ds.length:=by rw[length_zip];lia
  refine⟨w,hw,?_⟩;rw[Nat.zero_mul] at le;lia
end
structure Gy (f:Q2):Prop where
 l:Low f
 b:Bd 4 f
 fr:Mq.Fr 60 9 (Mq.val f)
section
variable {m t j h bl:Nat} {L:Int} {hs:List Q2} {E:List Ez} {f:Q2}
theorem Bal.sizes (b:Bal m t L hs h E j)(hk:HtK m hs)(L1:1<=L)(LB:Mq.B bl L)(e:Ez)(he:e∈E):Low e.2.1.2.2.2/\(e.2.1.1=.pu->Bd (51+bl) e.2.1.2.2.2)/\(e.2.1.1≠.pu->Bd 60 e.2.1.2.2.2):=by
 have o:=b.en e he;refine⟨?_,fun k=>?_,fun k=>?_⟩
 ·cases k:e.2.1.1 with
  |pc=>exact(o.pc k).1.l
  |pu=>rw[<- (o.pu k).1];exact(o.pu k).2.1
  |ho=>rw[(o.ho k).1];exact(hk.fall o.pt).1
 ·obtain⟨s,lo,fr⟩:=o.pu k;rw[s] at lo fr;obtain⟨a,ab,ea⟩:=Mq.Fr.get fr (show 2 ^ 50 < 2 ^ 51 by decide) LB (b:=51+bl) (Nat.le_refl _);exact(kC lo L1 (LB.mono (by lia)) ab ea).1
 ·cases k':e.2.1.1 with
  |pc=>exact(o.pc k').1.bd.mono (by decide)
  |pu=>exact absurd k' k
  |ho=>rw[(o.ho k').1];exact hk.fbd o.pt
theorem Bal.knetS (b:Bal m t L hs h E j)(hk:HtK m hs)(kn:lC m L bl (rwZ E))(F:Gy f)(j4:j<=4)(bl430:bl<=440)(bits:(bl+6+67)*(m - 1+h+1)+8<=3900):lC m (L*60) (bl+6) ((rwZ E).map (scR f)):=by
 have L1:=kn.L1;have f1:=F.l.pos;have up:∀{x:Rat} {M:Nat},Mq.Fr L M x->Mq.Fr (L*60) M x:=fun g=>g.lift L1 (by decide);have sz:∀e∈E,Low (scR f e.2.1).2.2.2/\(e.2.1.1=.pu->Bd 500 (scR f e.2.1).2.2.2)/\(Bd 60 e.2.1.2.2.2->Bd 66 (scR f e.2.1).2.2.2):=fun e he=>by
  obtain⟨lo,p,q⟩:=b.sizes hk L1 kn.LB e he;unfold scR
  by_cases k:e.2.1.1=.pc
  ·rw[if_pos k];exact⟨lo,(fun z=>by rw[k] at z;cases z),fun z=>z.mono (by decide)⟩
  ·rw[if_neg k];exact⟨cP lo.pos f1,fun z=>(eE (p z) F.b lo.pos f1).mono (by lia),fun z=>(eE z F.b lo.pos f1).mono (by decide)⟩
 have no66:∀e∈E,Bd 60 e.2.1.2.2.2->fA 66 (scR f e.2.1)=false:=fun e he z=>pI ((sz e he).2.2 z);have mem:∀d∈(rwZ E).map (scR f),∃e∈E,d=scR f e.2.1:=fun d hd=>by
  obtain⟨x,hx,rfl⟩:=mem_map.mp hd;obtain⟨e,he,rfl⟩:=mem_map.mp hx;exact⟨e,he,rfl⟩
 refine⟨kn.o.sc,kn.m5,by rw[length_map];exact kn.len,by lia,(kn.LB.mul (show Mq.B 6 60 by show (60:Nat) < 2 ^ 6;decide)).mono (by lia),?_,fun d hd=>?_,fun d hd k=>?_,fun d hd k=>?_,fun d hd k=>?_,?_⟩
 ·rw[show wd m ((rwZ E).map (scR f))=m - 1+h by show m - 1+bG _=_;rw[Cr,b.nh]];exact bits
 ·obtain⟨e,he,rfl⟩:=mem d hd;have o:=b.en e he;obtain⟨a1,a2,a3⟩:=kR f e.2.1;obtain⟨p1,p2,p3,p4⟩:=o.pt;have bd:Bd (if fA 66 (scR f e.2.1) then 500 else 66) (scR f e.2.1).2.2.2:=by
   cases c:fA 66 (scR f e.2.1) with
   |false=>exact oI c
   |true=>
    by_cases k:e.2.1.1=.pu
    ·exact(sz e he).2.1 k
    ·rw[no66 e he ((b.sizes hk L1 kn.LB e he).2.2 k)] at c;cases c
  refine⟨⟨by rw[a2];exact p1,by rw[a2];exact p2,by rw[a3];exact p3,by rw[a3];exact p4,(sz e he).1,fun k=>?_,bd.mono (by split<;>decide)⟩,bd⟩;rw[a1] at k;rw[qD k];exact(o.pc k).1.p0
 ·obtain⟨e,he,rfl⟩:=mem d hd;rw[(kR f e.2.1).1] at k;rw[qD k];exact up (kn.pcs _ (mem_map.mpr ⟨e,he,rfl⟩) k)
 ·obtain⟨e,he,rfl⟩:=mem d hd;rw[(kR f e.2.1).1] at k;have o:=b.en e he;rw[Ay f1 (b.sizes hk L1 kn.LB e he).1.pos k];have g:Mq.Fr L (2 ^ 52) (Mq.val e.2.1.2.2.2):=by
   cases k':e.2.1.1 with
   |pc=>exact absurd k' k
   |pu=>rw[<- (o.pu k').1];exact(o.pu k').2.2.mono (by decide)
   |ho=>
    have:=(hk.fall o.pt).2.1;rw[(o.ho k').1];have d27:=kn.ots _ (mem_map.mpr ⟨e,he,rfl⟩) k;obtain⟨a,ea,ba⟩:=d27;obtain⟨a',ea',ba'⟩:=this;rw[(o.ho k').1] at ea;refine⟨a,ea,?_⟩;have nz:=Mq.nH L1;have e1:(a:Rat)*((27720:Int):Rat)=(a':Rat)*(L:Rat):=by
     have h2:((27720:Int):Rat)≠0:=Mq.nH (by decide);rw[ea] at ea';generalize ((27720:Int):Rat)=Z at ea' h2;grind
    have e2:a*27720=a' * L:=by
     rw[<- Rat.intCast_mul,<- Rat.intCast_mul] at e1;exact Rat.intCast_inj.mp e1
    have e3:a.natAbs*27720=a'.natAbs*L.natAbs:=by
     have:=congrArg Int.natAbs e2
     rwa [Int.natAbs_mul,Int.natAbs_mul] at this
    have e4:=Nat.mul_le_mul_right L.natAbs ba';rw[<- e3,show (27720:Int).natAbs=27720 by rfl] at e4;have e5:2 ^ 43*27720*L.natAbs=2 ^ 43*L.natAbs*27720:=by rw[Nat.mul_assoc,Nat.mul_comm 27720,<- Nat.mul_assoc]
    rw[e5] at e4;have e6:=Nat.le_of_mul_le_mul_right e4 (by decide);exact Nat.le_trans e6 (Nat.mul_le_mul_right _ (by decide))
  exact(g.mul L1 (by decide) F.fr).mono (by decide)
 ·obtain⟨e,he,rfl⟩:=mem d hd;rw[(kR f e.2.1).1] at k;exact no66 e he ((b.sizes hk L1 kn.LB e he).2.2 k)
 ·rw[countP_map];refine Nat.le_trans (countP_mono_left fun d hd c=>?_) (Nat.le_trans b.big j4);obtain⟨e,he,rfl⟩:=mem_map.mp hd
  cases c':fA 60 e.2.1 with
  |true=>rfl
  |false=>
   have c:fA 66 (scR f e.2.1)=true:=c;rw[no66 e he (oI c')] at c;cases c
end
def Bj (ls:List Q2)(e:Pr2):List Q2:=
 (ls.set e.1.2.1.toNat (gY (ls.getD e.1.2.1.toNat (0,1)) e.2)).set e.1.2.2.1.toNat (Mq.minus ((ls.set e.1.2.1.toNat (gY (ls.getD e.1.2.1.toNat (0,1)) e.2)).getD e.1.2.2.1.toNat (0,1)) e.2)
def jI (m:Nat)(D:List Pr2):List Q2:=D.foldl Bj (replicate m (0,1))
theorem uG (m:Nat)(D:List Pr2)(e:Pr2):jI m (D++[e])=Bj (jI m D) e:=by unfold jI;rw[foldl_append];rfl
structure oH (m n:Nat) (acc:Nat->Rat) (ls:List Q2):Prop where
 l:ls.length=m
 o:∀p,p < m->Low (ls.getD p (0,1))/\Bd n (ls.getD p (0,1))/\Mq.val (ls.getD p (0,1))=acc p
theorem Ir {ls:List Q2}{s p:Nat}{v:Q2}(hs:s < ls.length):(ls.set s v).getD p (0,1)=if s=p then v else ls.getD p (0,1):=by
 rw[getD_eq_getElem?_getD,getElem?_set]
 by_cases c:s=p
 ·rw[if_pos c,if_pos hs,if_pos c];rfl
 ·rw[if_neg c,if_neg c,getD_eq_getElem?_getD]
theorem oH.one {m n k s:Nat}{acc:Nat->Rat}{ls:List Q2}{v:Q2}{x:Rat}(h:oH m n acc ls)(hs:s < m)(lv:Low v)(bv:Bd (n+k) v)(vv:Mq.val v=acc s+x):oH m (n+k) (fun p=>acc p+(if s=p then x else 0)) (ls.set s v):=by
 refine⟨by rw[length_set];exact h.l,fun p hp=>?_⟩;rw[Ir (by rw[h.l];exact hs)]
 by_cases c:s=p
 ·subst c;rw[if_pos rfl,if_pos rfl];exact⟨lv,bv,vv⟩
 ·rw[if_neg c,if_neg c];obtain⟨a,b,d⟩:=h.o p hp;exact⟨a,b.mono (by lia),by rw[d];grind⟩
theorem oH.step {m n:Nat}{acc:Nat->Rat}{ls:List Q2}{e:Pr2}(h:oH m n acc ls)(pt:cO (m:Int) e.1.2.1 e.1.2.2.1)(lo:Low e.2)(bd:Bd 100 e.2):oH m (n+101) (fun p=>acc p+(if e.1.2.1.toNat=p then Mq.val e.2 else 0)) (ls.set e.1.2.1.toNat (gY (ls.getD e.1.2.1.toNat (0,1)) e.2))/\oH m (n+202) (fun p=>acc p+dl e.1.2.1.toNat e.1.2.2.1.toNat p*Mq.val e.2) (Bj ls e):=by
 obtain⟨i0,i1,j0,j1⟩:=pt;obtain⟨a,b,c⟩:=h.o e.1.2.1.toNat (by lia);have h1:=h.one (k:=101) (s:=e.1.2.1.toNat) (v:=gY (ls.getD e.1.2.1.toNat (0,1)) e.2) (x:=Mq.val e.2) (by lia) (jW a.pos lo.pos) ((rK b bd a.pos lo.pos).mono (by lia)) (by rw[oN a.pos lo.pos,c]);refine⟨h1,?_⟩;obtain⟨a',b',c'⟩:=h1.o e.1.2.2.1.toNat (by lia);have h2:=h1.one (k:=101) (s:=e.1.2.2.1.toNat) (v:=Mq.minus ((ls.set e.1.2.1.toNat (gY (ls.getD e.1.2.1.toNat (0,1)) e.2)).getD e.1.2.2.1.toNat (0,1)) e.2) (x:=- Mq.val e.2) (by lia) (cT a'.pos lo.pos) ((iN b' bd a'.pos lo.pos).mono (by lia)) (by rw[eX a'.pos lo.pos,c'];grind);refine⟨h2.l,fun p hp=>?_⟩;obtain⟨x,y,z⟩:=h2.o p hp;refine⟨x,y.mono (by lia),?_⟩;refine Eq.trans z ?_;unfold dl
 by_cases c1:e.1.2.1.toNat=p<;>by_cases c2:e.1.2.2.1.toNat=p<;>simp only[c1,c2,if_true,if_false]<;>grind
theorem oH.start (m:Nat):oH m 1 (fun _=>0) (replicate m (0,1)):=by
 refine⟨length_replicate,fun p hp=>?_⟩;rw[getD_eq_getElem?_getD,getElem?_replicate,if_pos hp];exact⟨⟨by decide,by decide⟩,⟨show (0:Nat) < 2 ^ 1 by decide,show (1:Nat) < 2 ^ 1 by decide⟩,kU⟩
theorem Kz (p:Nat)(D:List Pr2)(e:Pr2):ouR p (D++[e])=ouR p D+dl e.1.2.1.toNat e.1.2.2.1.toNat p*Mq.val e.2:=by
 rw[rO];show ouR p D+(dl e.1.2.1.toNat e.1.2.2.1.toNat p*Mq.val e.2+0)=_;grind
theorem oH.congr {m n n':Nat}{a b:Nat->Rat}{ls:List Q2}(h:oH m n a ls)(e:∀p,a p=b p)(le:n<=n'):oH m n' b ls:=⟨h.l,fun p hp=>let ⟨x,y,z⟩:=h.o p hp;⟨x,y.mono le,by rw[z,e]⟩⟩
theorem yY {m:Nat}{D:List Pr2}(h:∀e∈D,cO (m:Int) e.1.2.1 e.1.2.2.1/\Low e.2/\Bd 100 e.2):∀i,i<=D.length->oH m (1+202*i) (fun p=>ouR p (D.take i)) (jI m (D.take i))
 |0,_=>(oH.start m).congr (fun _=>rfl) (Nat.le_refl _)
 |i+1,hi=>by
  have ih:=yY h i (by lia);have hd:D[i]?=some D[i]:=getElem?_eq_getElem (by lia);obtain⟨a,b,c⟩:=h D[i] (getElem_mem _);rw[take_add_one,hd];show oH m _ (fun p=>ouR p (D.take i++[D[i]])) (jI m (D.take i++[D[i]]));rw[uG];exact(ih.step a b c).2.congr (fun p=>(Kz p _ _).symm) (by lia)
theorem Ta (p:Nat)(D:List Pr2)(i:Nat)(e:Pr2):ouR p (D.take i++e :: D.drop i)=ouR p D+dl e.1.2.1.toNat e.1.2.2.1.toNat p*Mq.val e.2:=by
 have a:ouR p D=ouR p (D.take i)+ouR p (D.drop i):=by rw[<- rO,take_append_drop]
 rw[rO,a];show ouR p (D.take i)+(dl e.1.2.1.toNat e.1.2.2.1.toNat p*Mq.val e.2+ouR p (D.drop i))=_;grind
def hoD:List Pr2->Rat
 | []=>0
 |e :: r=>(if e.1.1=.ho then Mq.val e.1.2.2.2*Mq.val e.2 else 0)+hoD r
theorem Oz {u:Nat->Rat}:∀(D:List Pr2) (h:Nat),Fws u h D->hoD D=hoR u h (D.map (·.1))
 | [],_,_=>rfl
 |e :: D,h,F=>by
  have ih:=Oz D (h+bL e.1.1) F.2;have o:=F.1;show (if e.1.1=.ho then Mq.val e.1.2.2.2*Mq.val e.2 else 0)+hoD D=(if e.1.1=.ho then Mq.val e.1.2.2.2*u h else 0)+hoR u (h+bL e.1.1) (D.map (·.1));rw[ih]
  by_cases k:e.1.1=.ho
  ·unfold Fa at o;rw[k] at o;rw[if_pos k,if_pos k,o.1]
  ·rw[if_neg k,if_neg k]
theorem Kv (D:List Pr2)(e:Pr2):hoD (D++[e])=hoD D+if e.1.1=.ho then Mq.val e.1.2.2.2*Mq.val e.2 else 0:=by
 induction D with
 |nil=>show _+(0:Rat)=0+_;grind
 |cons x D ih=>
  show _+hoD (D++[e])=_+hoD D+_;rw[ih];grind
theorem Mi (u:Nat->Rat)(D:List RD)(d:RD):puR u (D++[d])=puR u D+if d.1=.pu then Mq.val d.2.2.2*(u d.2.1.toNat - u d.2.2.1.toNat) else 0:=by
 induction D with
 |nil=>show _+(0:Rat)=0+_;grind
 |cons x D ih=>
  show _+puR u (D++[d])=_+puR u D+_;rw[ih];grind
section
variable {m t j h bl:Nat} {L:Int} {hs:List Q2} {E:List Ez} {e:Ez}
theorem mV.slow (o:mV m L hs e)(hk:HtK m hs):Low e.2.2:=by
 cases k:e.2.1.1 with
 |pc=>
  obtain⟨z,_,s⟩:=o.pc k;have:=z.p0;rw[s];exact pA (hk.fall o.pt).1.pos (by lia)
 |pu=>exact(o.pu k).2.1
 |ho=>exact(o.ho k).2.l
theorem mV.zlow (o:mV m L hs e)(hk:HtK m hs):Low e.2.1.2.2.2:=by
 cases k:e.2.1.1 with
 |pc=>exact(o.pc k).1.l
 |pu=>rw[<- (o.pu k).1];exact(o.pu k).2.1
 |ho=>rw[(o.ho k).1];exact(hk.fall o.pt).1
theorem mV.pbd (o:mV m L hs e)(hk:HtK m hs)(k:e.2.1.1=.pc):Bd 100 e.2.2:=by
 obtain⟨z,_,s⟩:=o.pc k;have:=z.p0;rw[s];exact(rL (hk.fbd o.pt) z.bd (hk.fall o.pt).1.pos (by lia)).mono (by decide)
theorem mV.gw (o:mV m L hs e)(hk:HtK m hs)(k:e.2.1.1=.pc):Low (gW e.2)/\Bd 230 (gW e.2):=by
 obtain⟨z,_,_⟩:=o.pc k;have:=Vc (e:=e.2) z.l z.bd (o.slow hk) (o.pbd hk k);exact⟨this.1,this.2.mono (by decide)⟩
theorem qb6 {α:Type}{P:α->Bool}{g:α->Q2}{A:Nat}{l:List α}(h:∀d∈l,P d=true->Bd A (g d)):∃w,Wt ((l.filter P).map g) w/\w<=(A+1)*l.length:=by
 obtain⟨w,a,b⟩:=yE (q:=fun _=>false) (C:=0) (A:=A) (P:=P) (g:=g) (l:=l) fun d hd hp=>by simpa using h d hd hp
 exact⟨w,a,by lia⟩
theorem Bal.waste (b:Bal m t L hs h E j)(hk:HtK m hs):Mq.Pos ((fG .pc (prZ E)).map gW)/\Low (iY (prZ E))/\Mq.val (iY (prZ E))=pcR (prZ E)/\∃w,Wt ((fG .pc (prZ E)).map gW) w/\w<=231*E.length:=by
 have P:Mq.Pos ((fG .pc (prZ E)).map gW):=iL fun x hx=>by
  obtain⟨a,k⟩:=jX hx;obtain⟨e,he,rfl⟩:=mem_map.mp a;exact((b.en e he).gw hk k).1
 refine⟨P,jF P,?_,?_⟩
 ·unfold iY;rw[xQ P,Hb fun x hx=>?_];obtain⟨e,he,rfl⟩:=mem_map.mp hx;exact⟨((b.en e he).zlow hk).pos,((b.en e he).slow hk).pos⟩
 ·obtain⟨w,a,c⟩:=qb6 (P:=fun e:RE=>decide (e.1.1=Kd.pc)) (g:=gW) (A:=230) (l:=prZ E) fun x hx k=>by
   obtain⟨e,he,rfl⟩:=mem_map.mp hx;exact((b.en e he).gw hk (of_decide_eq_true k)).2
  rw[length_map] at c;exact⟨w,a,c⟩
def zB (E:List Ez)(i:Nat):Nat:=122*i+440*((rwZ E).take i).countP (fA 60)
theorem Js {i:Nat}(he:E[i]?=some e):zB E (i+1)=zB E i+(if fA 60 e.2.1 then 562 else 122):=by
 unfold zB;have:(rwZ E)[i]?=some e.2.1:=by show (map _ E)[i]?=_;rw[getElem?_map,he];rfl
 rw[take_add_one,this,countP_append];show 122*(i+1)+440*(countP (fA 60) ((rwZ E).take i)+countP (fA 60) [e.2.1])=_;rw[countP_singleton]
 cases fA 60 e.2.1
 ·simp only[Bool.false_eq_true,if_false];lia
 ·simp only[if_true];lia
theorem Fp (b:Bal m t L hs h E 4)(len:E.length<=20){i:Nat}(hi:i<=E.length):zB E i<=4200:=by
 unfold zB;have a:((rwZ E).take i).countP (fA 60)<=(rwZ E).countP (fA 60):=Sublist.countP_le (take_sublist ..);have:=b.big;lia
theorem Ws {np hh mm:Nat}(h1:np+hh<=14)(h2:hh+1<=mm)(h3:mm<=5):(30*np+16+6+67)*(mm - 1+hh+1)+8<=3900:=by
 have a:30*np+16+6+67<=30*(14 - hh)+89:=by lia
 have c:mm - 1+hh+1<=5+hh:=by lia
 refine Nat.le_trans (Nat.add_le_add_right (Nat.mul_le_mul a c) 8) ?_;have:hh=0\/hh=1\/hh=2\/hh=3\/hh=4:=by lia
 rcases this with rfl | rfl | rfl | rfl | rfl<;>decide
end
open PySem.W
theorem Mb {q:Program}{loose:List Str}{XP:(Str->Option Value)->Heap->Prop}{K:Params->Frag}{bs:List Addr}{n t:Nat}{r:RowW}{d:DefRec}{kwd:List (Str × Expr)}{run:Value->List Value->Sem Value}(e:∀P,bs=(K P).map (·.1))(h:WalkO q loose XP (fun w h=>(K w.params).In h) r d kwd run):WalkX q loose XP (W.X.obsZ bs) (W.X.valZ K n t) r d kwd run:=
 fun w s₀ s₁ mg mb G y a o pm cd doc dV kV h1 h2 h3 h4 h5 h6 args vals as' L=>h w s₀ s₁ mg mb G (InK.keeps w _ _ (W.X.z_facts e y).2.1 L.keeps) a o pm cd doc dV kV h1 h2 h3 h4 h5 h6 args vals as'
section
variable {K:Frag} {x qual:Str} {st:Stmt} {dV:Value} {f:Addr} {fd:FuncData}
theorem aV.b1 (a:Str)(F:aV K x qual st dV f fd)(h:∀(kV doc pm:Value) (an:Option Addr) (cdv ct u:Value),bindArgs (W.fnOf x qual (eU st) (cQ st) (aH st) dV kV doc pm an cdv ct) ⟨[u],[]⟩=pure [(a,u)]):aM K fd [a] []:=
 F.binds fun k d p n c t us hl=>match us,hl with | [_],_=>h k d p n c t _
theorem aV.b2 (a b:Str)(F:aV K x qual st dV f fd)(h:∀(kV doc pm:Value) (an:Option Addr) (cdv ct u v:Value),bindArgs (W.fnOf x qual (eU st) (cQ st) (aH st) dV kV doc pm an cdv ct) ⟨[u,v],[]⟩=pure [(a,u),(b,v)]):aM K fd [a,b] []:=
 F.binds fun k d p n c t us hl=>match us,hl with | [_,_],_=>h k d p n c t _ _
theorem aV.b3 (a b c:Str)(F:aV K x qual st dV f fd)(h:∀(kV doc pm:Value) (an:Option Addr) (cdv ct u v w:Value),bindArgs (W.fnOf x qual (eU st) (cQ st) (aH st) dV kV doc pm an cdv ct) ⟨[u,v,w],[]⟩=pure [(a,u),(b,v),(c,w)]):aM K fd [a,b,c] []:=
 F.binds fun k d p n c t us hl=>match us,hl with | [_,_,_],_=>h k d p n c t _ _ _
theorem aV.b4 (a b c e:Str)(F:aV K x qual st dV f fd)(h:∀(kV doc pm:Value) (an:Option Addr) (cdv ct u v w z:Value),bindArgs (W.fnOf x qual (eU st) (cQ st) (aH st) dV kV doc pm an cdv ct) ⟨[u,v,w,z],[]⟩=pure [(a,u),(b,v),(c,w),(e,z)]):aM K fd [a,b,c,e] []:=
 F.binds fun k d p n c t us hl=>match us,hl with | [_,_,_,_],_=>h k d p n c t _ _ _ _
end
end L2
namespace K47
open PySem L2
def top (i:Nat):Stmt:=PySem.Challenge.pw_ohmyard_k47_supplied.main.body.getD i (.Pass ⟨0,0,0,0⟩)
section
variable {P:Program} {w:World} {K:Frag} {mg:Str->Option Value} {base:Heap} {f g1 g2 g3 g4 g5 g6 g7 g8:Addr} {fd gd1 gd2 gd3 gd4 gd5 gd6 gd7 gd8:FuncData} {CX:CXT}
abbrev Dv:Stmt:=top 15
theorem Rm:aP ["thing"] ["thing"] (aH Dv):=sK9 rfl rfl rfl rfl (by decide +kernel)
theorem Qq {dV:Value}(F:aV K "is_whole" "is_whole" Dv dV f fd)(b:Bl mg):aL P w K mg base CX 1 f fd ["thing"] (oJ K):=by
 refine F.ok Rm (fun vs H Q E h=>?_) fun cdv A outer s H vs Q E hr h=>?_
 ·obtain⟨_,rfl,_⟩:=h;rfl
 obtain⟨x,rfl,h⟩:=h;refine⟨_,aF (aX (uF (iM (i:=0) rfl (Or.inl rfl) b.isi b.int rfl rfl PyProof.Rows.boot_int) (xL (Wd (iM (i:=0) rfl (Or.inl rfl) b.isi b.bool rfl rfl PyProof.Rows.boot_bool))))),?_⟩;rcases h with ⟨i,rfl,q⟩ | ⟨t,ty,nw,q⟩
 ·exact⟨_,_,_,rfl,.of (.int i),rfl,_,rfl,gL ⟨_,_,false,rfl,.of (.int i),(by with_unfolding_all rfl),_,rfl,q⟩⟩
 ·rcases nw with rfl | rfl | rfl | rfl | rfl
  ·exact⟨_,_,true,rfl,.of ty,(by with_unfolding_all rfl),_,rfl,gL ⟨_,_,_,rfl,.of ty,rfl,_,rfl,q⟩⟩
  all_goals exact⟨_,_,false,rfl,.of ty,(by with_unfolding_all rfl),_,rfl,fU q⟩
abbrev sGc:Stmt:=top 17
theorem Tp:aP ["one","other","rest"] ["one","other"] (aH sGc):=sK9 rfl rfl rfl rfl (by decide +kernel)
theorem qb1 {dV:Value}(F:aV K "greatest_common" "greatest_common" sGc dV f fd)(b:Bl mg):aL P w K mg base CX 1 f fd ["one","other"] Sq:=by
 refine F.ok Tp (fun vs H Q E h=>?_) fun cdv A outer s H vs Q E hr h=>?_
 ·obtain⟨_,_,rfl,_⟩:=h;rfl
 obtain⟨x,y,rfl,q⟩:=h;refine⟨_,aC (uQ PassesOwn.never (bF qH (pv 1) aD (bM _)) (aC (aR (i:=2) Tp.nd rfl (Or.inl rfl) (aU kQ (pv 0) (pv 1)))
  (aC (aR (i:=0) Tp.nd rfl (Or.inl rfl) (pv 1)) (aF (aR (i:=1) Tp.nd rfl (Or.inl rfl) (pv 2))))))
  (aF (aX (cN sU rfl b.abs PyProof.Rows.boot_abs (aA (pv 0) aB)))),?_⟩
 refine rY (fun σ H'=>H'=H/\∃u v z,σ=[some (.int u),some (.int v),z]/\gc u v=gc x y) (fun σ _=>match σ with | [_,some (.int v),_]=>v.natAbs | _=>0) ⟨rfl,x,y,none,rfl,rfl⟩ ?_ ?_
 ·rintro σ H' ⟨rfl,u,v,z,rfl,e⟩;refine⟨_,rfl,rfl,_,rfl,?_⟩;refine oP (fun c=>?_) (fun c=>?_)
  ·have hv:v≠0:=by intro q;subst q;simp at c
   refine⟨_,rfl,_,rfl,_,_,rfl,rfl,hv,_,rfl,_,rfl,⟨rfl,v,Int.fmod u v,_,rfl,(Hm u v).trans e⟩,vT hv⟩
  ·have hv:v=0:=by
    simp at c;exact c
   subst hv;refine⟨_,rfl,_,rfl,?_⟩;rw[<- Gc,e];exact q
 ·rintro σ H Q Q' m ⟨v,h1,h2,k,h3,h4⟩;exact⟨v,h1,h2,k,h3,m _ _ h4⟩
abbrev Cw:Stmt:=top 23
theorem Tq:aP ["one","other"] ["one","other"] (aH Cw):=sK9 rfl rfl rfl rfl (by decide +kernel)
theorem Mt {dV:Value}(F:aV K "under" "under" Cw dV f fd):aL P w K mg base CX 1 f fd ["one","other"] (Gr K):=by
 refine F.ok Tq (fun vs H Q E h=>?_) fun cdv A outer s H vs Q E hr h=>?_
 ·obtain⟨_,_,_,_,_,_,rfl,_⟩:=h;rfl
 obtain⟨a,b,p,q,n,m,rfl,ha,hb,bp,bq,hn,z⟩:=h;refine⟨_,aF (aX (mO xE (aU cB (aQ aT (pv 0) aD (fun _ _=>rfl)) (aQ aT (pv 1) aD (fun _ _=>rfl))) (aU cB (aQ aT (pv 1) aD (fun _ _=>rfl)) (aQ aT (pv 0) aD (fun _ _=>rfl))) (bM _))),?_⟩;exact dA rfl ha (cG rfl hb (cA bp.a bq.b (by lia) (by lia) (dA rfl hb (cG rfl ha (cA bq.a bp.b (by lia) (by lia) ⟨_,_,rfl,rfl,z⟩)))))
abbrev kX:Stmt:=top 18
theorem Dq:aP ["top","bottom","shared"] ["top","bottom"] (aH kX):=sK9 rfl rfl rfl rfl (by decide +kernel)
theorem Tl {dV:Value}(F:aV K "fraction" "fraction" kX dV f fd)(G1:aL P w K mg base CX0 1 g1 gd1 ["thing"] (oJ K))(b1:aM K gd1 ["thing"] [])(k1:kI9 K g1)(m1:mI9 mg "is_whole" g1)(G2:aL P w K mg base CX0 1 g2 gd2 ["one","other"] Sq)(b2:aM K gd2 ["one","other"] [])(k2:kI9 K g2)(m2:mI9 mg "greatest_common" g2) :
  aL P w K mg base CX 2 f fd ["top","bottom"] gD:=by
 refine F.ok Dq (fun vs H Q E h=>?_) fun cdv A outer s H vs Q E hr h=>?_
 ·obtain⟨_,_,_,rfl,_⟩:=h;rfl
 obtain⟨t,b,n,rfl,hb,hB,hn,q⟩:=h;refine⟨_,aC (cC (PW.pt (oZ (gG (eZ (aG G1 hr rfl m1 k1 b1 .nil aK (aA (pv 0) aB)))) (oZ (gG (eZ (aG G1 hr rfl m1 k1 b1 .nil aK (aA (pv 1) aB)))) (nV (bF dZ (pv 1) aD (bM _)))))) Iw bH)
  (aC (aR (i:=2) Dq.nd rfl (Or.inl rfl) (aG G2 hr rfl m2 k2 b2 .nil aK (aA (pv 0) (aA (pv 1) aB))))
  (aC (cC (bF xE (pv 1) aD (bM _)) (aF (aR (i:=2) Dq.nd rfl (Or.inl rfl) (Oy Ef (pv 2)))) bH)
  (aF (aX (dP (aA (aU iQ (pv 0) (pv 2)) (aA (aU iQ (pv 1) (pv 2)) aB))))))),?_⟩
 have hd:=pZ (t:=t) hb;have hdB:Mq.B n (dvr t b):=hB.le (Cg hb);have c0:decide (V.int b=V.int 0)=false:=decide_eq_false (fun z=>hb (by cases z;rfl));refine⟨_,rfl,_,rfl,.inl ⟨t,rfl,_,rfl,fU ⟨_,rfl,_,rfl,.inl ⟨b,rfl,_,rfl,fU ⟨_,rfl,rfl,_,rfl,?_⟩⟩⟩⟩⟩;rw[c0];refine fU ⟨_,rfl,_,rfl,t,b,rfl,?_⟩;refine⟨_,rfl,_,_,rfl,rfl,_,rfl,?_⟩;refine oP (fun c=>?_) (fun c=>?_)
 ·have hlt:b < 0:=of_decide_eq_true c;have e:dvr t b=-gc t b:=by unfold dvr;rw[if_pos hlt]
  rw[e] at hd hdB;have q':jQ H Q (t.fdiv (-gc t b),b.fdiv (-gc t b)):=by
   have z:=q;unfold red at z;rw[e] at z;exact z
  refine⟨_,rfl,_,rfl,?_⟩;refine⟨_,rfl,_,rfl,?_⟩;refine fZ hd hdB hn ⟨_,rfl,_,rfl,fZ hd hdB hn ⟨zl9 2,fun p hp=>?_⟩⟩;exact q' p _ (aI hp _) aE
 ·have hlt:¬b < 0:=fun z=>c (decide_eq_true z);have e:dvr t b=gc t b:=by unfold dvr;rw[if_neg hlt]
  rw[e] at hd hdB;have q':jQ H Q (t.fdiv (gc t b),b.fdiv (gc t b)):=by
   have z:=q;unfold red at z;rw[e] at z;exact z
  refine⟨_,rfl,_,rfl,?_⟩;refine fZ hd hdB hn ⟨_,rfl,_,rfl,fZ hd hdB hn ⟨zl9 2,fun p hp=>?_⟩⟩;exact q' p _ (aI hp _) aE
abbrev Ex:Stmt:=top 20
theorem Tx:aP ["one","other"] ["one","other"] (aH Ex):=sK9 rfl rfl rfl rfl (by decide +kernel)
theorem Qs {dV:Value}(F:aV K "minus" "minus" Ex dV f fd)(G1:aL P w K mg base CX0 2 g1 gd1 ["top","bottom"] gD)(b1:aM K gd1 ["top","bottom"] [])(k1:kI9 K g1)(m1:mI9 mg "fraction" g1) :
  aL P w K mg base CX 3 f fd ["one","other"] (eP K Mq.minus):=by
 refine F.ok Tx (fun vs H Q E h=>?_) fun cdv A outer s H vs Q E hr h=>?_
 ·obtain⟨_,_,_,_,_,_,rfl,_⟩:=h;rfl
 obtain⟨a,b,p,q,n,m,rfl,ha,hb,lp,lq,bp,bq,hn,z⟩:=h;refine⟨_,aF (aX (aG G1 hr rfl m1 k1 b1 .nil aK (aA
  (aU jR (aU cB (aQ aT (pv 0) aD (fun _ _=>rfl)) (aQ aT (pv 1) aD (fun _ _=>rfl))) (aU cB (aQ aT (pv 1) aD (fun _ _=>rfl)) (aQ aT (pv 0) aD (fun _ _=>rfl))))
  (aA (aU cB (aQ aT (pv 0) aD (fun _ _=>rfl)) (aQ aT (pv 1) aD (fun _ _=>rfl))) aB)))),?_⟩
 refine dA rfl ha (cG rfl hb (cA bp.a bq.b (by lia) (by lia) (dA rfl hb (cG rfl ha (cA bq.a bp.b (by lia) (by lia) ⟨_,_,rfl,rfl,?_⟩)))));refine cG rfl ha (cG rfl hb (cA bp.b bq.b (by lia) (by lia) ⟨_,_,n+m,rfl,gF lp lq,bp.b.mul bq.b,by lia,z⟩))
abbrev Ku:Stmt:=top 19
theorem Zj:aP ["one","other"] ["one","other"] (aH Ku):=sK9 rfl rfl rfl rfl (by decide +kernel)
theorem Rz {dV:Value}(F:aV K "plus" "plus" Ku dV f fd)(G1:aL P w K mg base CX0 2 g1 gd1 ["top","bottom"] gD)(b1:aM K gd1 ["top","bottom"] [])(k1:kI9 K g1)(m1:mI9 mg "fraction" g1) :
  aL P w K mg base CX 3 f fd ["one","other"] (eP K gY):=by
 refine F.ok Zj (fun vs H Q E h=>?_) fun cdv A outer s H vs Q E hr h=>?_
 ·obtain⟨_,_,_,_,_,_,rfl,_⟩:=h;rfl
 obtain⟨a,b,p,q,n,m,rfl,ha,hb,lp,lq,bp,bq,hn,z⟩:=h;refine⟨_,aF (aX (aG G1 hr rfl m1 k1 b1 .nil aK (aA
  (aU cZ (aU cB (aQ aT (pv 0) aD (fun _ _=>rfl)) (aQ aT (pv 1) aD (fun _ _=>rfl))) (aU cB (aQ aT (pv 1) aD (fun _ _=>rfl)) (aQ aT (pv 0) aD (fun _ _=>rfl))))
  (aA (aU cB (aQ aT (pv 0) aD (fun _ _=>rfl)) (aQ aT (pv 1) aD (fun _ _=>rfl))) aB)))),?_⟩
 refine dA rfl ha (cG rfl hb (cA bp.a bq.b (by lia) (by lia) (dA rfl hb (cG rfl ha (cA bq.a bp.b (by lia) (by lia) ⟨_,_,rfl,rfl,?_⟩)))));refine cG rfl ha (cG rfl hb (cA bp.b bq.b (by lia) (by lia) ⟨_,_,n+m,rfl,gF lp lq,bp.b.mul bq.b,by lia,z⟩))
variable {CR:Addr} {CK:Kd->Addr} {fW fJ fT fS:Kd->Addr} {fdW fdJ fdT fdS:Kd->FuncData}
abbrev Ci:Stmt:=cU (top 35) 0
theorem Uk:aP ["self","start","goal","size"] ["self","start","goal","size"] (aH Ci):=sK9 rfl rfl rfl rfl (by decide +kernel)
theorem Ks {dV:Value}(F:aV K "__init__" "Row.__init__" Ci dV f fd)(T:RT K mg CR CK):aL P w K mg base CX 1 f fd ["self","start","goal","size"] (Hl CK):=by
 refine F.ok Uk (fun vs H Q E h=>?_) fun cdv A outer s H vs Q E hr h=>?_
 ·obtain⟨_,_,_,_,_,_,rfl,_⟩:=h;rfl
 obtain⟨x,dx,k,s,g,z,rfl,hx,q⟩:=h;refine⟨_,(aC (kL (pv 0) (pv 1) rfl) (aC (kL (pv 0) (pv 2) rfl) (aF (kL (pv 0) (pv 3) rfl)))),?_⟩;have l1:=dD ("start":Str) s [];have l2:=dD ("goal":Str) g (dE "start" s []);simp only[length_nil] at l1;refine⟨_,rfl,_,rfl,x,CK k,dx,[],rfl,hx,T.cl k,T.nS k,(by show 0 < 1000;decide),?_⟩;refine⟨_,rfl,_,rfl,x,CK k,dx,_,rfl,aE,T.cl k,T.nG k,by lia,?_⟩;refine⟨_,rfl,_,rfl,x,CK k,dx,_,rfl,aE,T.cl k,T.nZ k,by lia,?_⟩;rw[oY,oY];exact q
abbrev tZ:Stmt:=cU (top 36) 0
theorem Kc:aP ["self"] ["self"] (aH tZ):=sK9 rfl rfl rfl rfl (by decide +kernel)
theorem Ej {dV:Value}(F:aV K "word" "Piece.word" tZ dV f fd):aL P w K mg base CX 1 f fd ["self"] (jL .pc):=by
 refine F.ok Kc (fun vs H Q E h=>?_) fun cdv A outer s H vs Q E hr h=>?_
 ·obtain⟨_,rfl,_⟩:=h;rfl
 obtain⟨x,rfl,q⟩:=h;exact⟨_,(aF (aX cH)),q⟩
abbrev tV:Stmt:=cU (top 37) 0
theorem Iu:aP ["self"] ["self"] (aH tV):=sK9 rfl rfl rfl rfl (by decide +kernel)
theorem Ew {dV:Value}(F:aV K "word" "Push.word" tV dV f fd):aL P w K mg base CX 1 f fd ["self"] (jL .pu):=by
 refine F.ok Iu (fun vs H Q E h=>?_) fun cdv A outer s H vs Q E hr h=>?_
 ·obtain⟨_,rfl,_⟩:=h;rfl
 obtain⟨x,rfl,q⟩:=h;exact⟨_,(aF (aX cH)),q⟩
abbrev sX:Stmt:=cU (top 38) 0
theorem Jv:aP ["self"] ["self"] (aH sX):=sK9 rfl rfl rfl rfl (by decide +kernel)
theorem Eo {dV:Value}(F:aV K "word" "Hold.word" sX dV f fd):aL P w K mg base CX 1 f fd ["self"] (jL .ho):=by
 refine F.ok Jv (fun vs H Q E h=>?_) fun cdv A outer s H vs Q E hr h=>?_
 ·obtain⟨_,rfl,_⟩:=h;rfl
 obtain⟨x,rfl,q⟩:=h;exact⟨_,(aF (aX cH)),q⟩
abbrev Cl:Stmt:=cU (top 35) 1
theorem Ug:aP ["self"] ["self"] (aH Cl):=sK9 rfl rfl rfl rfl (by decide +kernel)
theorem Pq {dV:Value}(F:aV K "told" "Row.told" Cl dV f fd)(T:RT K mg CR CK)(GW:∀k,aL P w K mg base CX0 1 (fW k) (fdW k) ["self"] (jL k))(bW:∀k,aM K (fdW k) ["self"] [])(mW:∀k,gE K (CK k) "word" (fW k)):aL P w K mg base CX 2 f fd ["self"] (yI CK):=by
 refine F.ok Ug (fun vs H Q E h=>?_) fun cdv A outer s H vs Q E hr h=>?_
 ·obtain⟨_,_,_,_,_,rfl,_⟩:=h;rfl
 obtain⟨x,k,s,g,z,rfl,⟨dx,hx⟩,q⟩:=h;refine⟨_,(aF (aX (dP (aA (fI (pv 0) T.cl mW GW hr bW .nil aK) (aA (bU (pv 0) rfl) (aA (bU (pv 0) rfl) (aA (bU (pv 0) rfl) aB))))))),?_⟩;refine⟨_,rfl,k,x,dx,_,rfl,hx,(dG _ _ _ (by decide +kernel) (by decide +kernel) (by decide +kernel)),_,rfl,?_⟩;refine⟨_,rfl,x,CK k,dx,_,_,rfl,hx,T.cl k,T.nS k,dC _ _ _,?_⟩;refine⟨_,rfl,x,CK k,dx,_,_,rfl,hx,T.cl k,T.nG k,eO _ _ _,?_⟩;refine⟨_,rfl,x,CK k,dx,_,_,rfl,hx,T.cl k,T.nZ k,eJ _ _ _,?_⟩;exact⟨zl9 4,q⟩
abbrev Fc:Stmt:=top 39
theorem Ht:aP ["told","word"] ["told"] (aH Fc):=sK9 rfl rfl rfl rfl (by decide +kernel)
theorem Ql {dV:Value}{gI:Addr}{gdI:FuncData}(F:aV K "row_of" "row_of" Fc dV f fd)(T:RT K mg CR CK)(b:Bl mg)(ms:mg "str"=none)(GI:aL P w K mg base CX0 1 gI gdI ["self","start","goal","size"] (Hl CK))(bI:aM K gdI ["self","start","goal","size"] [])(MK:∀k,Mk K (CK k) gI):aL P w K mg base CX 3 f fd ["told"] (tE K CK):=by
 refine F.ok Ht (fun vs H Q E h=>?_) fun cdv A outer s H vs Q E hr h=>?_
 ·obtain⟨_,_,_,_,_,rfl,_⟩:=h;rfl
 obtain⟨t,v,s,g,z,rfl,hT,k,rfl,q⟩:=h;refine⟨_,(aC (aR (i:=1) Ht.nd rfl (Or.inl rfl) (aQ aT (pv 0) aD (fun _ _=>rfl)))
  (aC (cC (PW.pt (zL (eZ (iM (i:=1) rfl (Or.inl rfl) b.isi ms rfl rfl PyProof.Rows.boot_str)) (qW (bF dZ (pv 1) cH (bM _))))) (aF (aX (mF (MK .pc) GI hr rfl (T.mK .pc) bI .nil aK (aA (aQ aT (pv 0) aD (fun _ _=>rfl)) (aA (aQ aT (pv 0) aD (fun _ _=>rfl)) (aA (aQ aT (pv 0) aD (fun _ _=>rfl)) aB)))))) bH)
  (aC (cC (PW.pt (zL (eZ (iM (i:=1) rfl (Or.inl rfl) b.isi ms rfl rfl PyProof.Rows.boot_str)) (qW (bF dZ (pv 1) cH (bM _))))) (aF (aX (mF (MK .pu) GI hr rfl (T.mK .pu) bI .nil aK (aA (aQ aT (pv 0) aD (fun _ _=>rfl)) (aA (aQ aT (pv 0) aD (fun _ _=>rfl)) (aA (aQ aT (pv 0) aD (fun _ _=>rfl)) aB)))))) bH)
  (aC (cC (PW.pt (zL (eZ (iM (i:=1) rfl (Or.inl rfl) b.isi ms rfl rfl PyProof.Rows.boot_str)) (qW (bF dZ (pv 1) cH (bM _))))) (aF (aX (mF (MK .ho) GI hr rfl (T.mK .ho) bI .nil aK (aA (aQ aT (pv 0) aD (fun _ _=>rfl)) (aA (aQ aT (pv 0) aD (fun _ _=>rfl)) (aA (aQ aT (pv 0) aD (fun _ _=>rfl)) aB)))))) bH)
  (aF gA))))),?_⟩
 cases k
 ·refine qh3 (fun _ _=>False) (fun X _=>?_) (fun _ _ h=>h.elim);refine⟨_,rfl,t,_,0,_,rfl,rfl,hT,rfl,?_⟩;exact⟨_,_,true,rfl,.of (.str _),rfl,_,rfl,gL ⟨_,rfl,rfl,_,rfl,ifT (bY .pc .pc) ⟨_,rfl,t,_,1,s,rfl,rfl,hT,rfl,_,rfl,t,_,2,g,rfl,rfl,hT,rfl,_,rfl,t,_,3,z,rfl,rfl,hT,rfl,fun x dx h1 h2 ne=>⟨x,dx,.pc,s,g,z,rfl,aE,rfl,by rw[oY];exact q x _ (Rw.new h1 h2 ne) h1 ⟨dx,aE⟩⟩⟩⟩⟩
 ·refine qd8 (fun _ _=>False) (fun X _=>?_) (fun _ _ h=>h.elim);refine⟨_,rfl,t,_,0,_,rfl,rfl,hT,rfl,?_⟩;exact⟨_,_,true,rfl,.of (.str _),rfl,_,rfl,gL ⟨_,rfl,rfl,_,rfl,ifF (bY .pu .pc) (⟨_,_,true,rfl,.of (.str _),rfl,_,rfl,gL ⟨_,rfl,rfl,_,rfl,ifT (bY .pu .pu) ⟨_,rfl,t,_,1,s,rfl,rfl,hT,rfl,_,rfl,t,_,2,g,rfl,rfl,hT,rfl,_,rfl,t,_,3,z,rfl,rfl,hT,rfl,fun x dx h1 h2 ne=>⟨x,dx,.pu,s,g,z,rfl,aE,rfl,by rw[oY];exact q x _ (Rw.new h1 h2 ne) h1 ⟨dx,aE⟩⟩⟩⟩⟩)⟩⟩
 ·refine qi0 (fun _ _=>False) (fun X _=>?_) (fun _ _ h=>h.elim);refine⟨_,rfl,t,_,0,_,rfl,rfl,hT,rfl,?_⟩;exact⟨_,_,true,rfl,.of (.str _),rfl,_,rfl,gL ⟨_,rfl,rfl,_,rfl,ifF (bY .ho .pc) (⟨_,_,true,rfl,.of (.str _),rfl,_,rfl,gL ⟨_,rfl,rfl,_,rfl,ifF (bY .ho .pu) (⟨_,_,true,rfl,.of (.str _),rfl,_,rfl,gL ⟨_,rfl,rfl,_,rfl,ifT (bY .ho .ho) ⟨_,rfl,t,_,1,s,rfl,rfl,hT,rfl,_,rfl,t,_,2,g,rfl,rfl,hT,rfl,_,rfl,t,_,3,z,rfl,rfl,hT,rfl,fun x dx h1 h2 ne=>⟨x,dx,.ho,s,g,z,rfl,aE,rfl,by rw[oY];exact q x _ (Rw.new h1 h2 ne) h1 ⟨dx,aE⟩⟩⟩⟩⟩)⟩⟩)⟩⟩
abbrev Xb:Stmt:=top 16
theorem qf0:aP ["thing"] ["thing"] (aH Xb):=sK9 rfl rfl rfl rfl (by decide +kernel)
theorem Xe {dV:Value}(F:aV K "is_fraction" "is_fraction" Xb dV f fd)(b:Bl mg)(ml:mg "len"=none)(mt:mg "tuple"=none)(G1:aL P w K mg base CX0 1 g1 gd1 ["thing"] (oJ K))(b1:aM K gd1 ["thing"] [])(k1:kI9 K g1)(m1:mI9 mg "is_whole" g1)(G2:aL P w K mg base CX0 1 g2 gd2 ["one","other"] Sq)(b2:aM K gd2 ["one","other"] [])(k2:kI9 K g2)(m2:mI9 mg "greatest_common" g2) :
  aL P w K mg base CX 2 f fd ["thing"] (Li K):=by
 refine F.ok qf0 (fun vs H Q E h=>?_) fun cdv A outer s H vs Q E hr h=>?_
 ·obtain⟨_,_,rfl,_⟩:=h;rfl
 obtain⟨v,o,rfl,hz,q⟩:=h;refine⟨_,(aC (cC (PW.pt (oZ (gG (eZ (iM (i:=0) rfl (Or.inl rfl) b.isi mt rfl rfl PyProof.Rows.boot_tuple))) (nV (bF qH (cN bX rfl ml PySem.boot_len (aA (pv 0) aB)) aD (bM _))))) (aF (aX mZ)) bH)
  (aC (cC (PW.pt (oZ (gG (eZ (aG G1 hr rfl m1 k1 b1 .nil aK (aA (aQ aT (pv 0) aD (fun _ _=>rfl)) aB)))) (nV (gG (eZ (aG G1 hr rfl m1 k1 b1 .nil aK (aA (aQ aT (pv 0) aD (fun _ _=>rfl)) aB))))))) (aF (aX mZ)) bH)
  (aF (aX (uF (mO Mc (aQ aT (pv 0) aD (fun _ _=>rfl)) aD (bM _)) (xL (mO dZ (aG G2 hr rfl m2 k2 b2 .nil aK (aA (aQ aT (pv 0) aD (fun _ _=>rfl)) (aA (aQ aT (pv 0) aD (fun _ _=>rfl)) aB))) aD (bM _)))))))),?_⟩
 cases hz with
 |fr fa hp=>
  refine⟨_,_,true,rfl,.tup fa,rfl,_,rfl,fU ⟨_,rfl,_,_,rfl,.inr fa,rfl,_,rfl,fU ?_⟩⟩;refine dA rfl fa ⟨_,rfl,.inl ⟨_,rfl,_,rfl,fU (cG rfl fa ⟨_,rfl,.inl ⟨_,rfl,_,rfl,fU ?_⟩⟩)⟩⟩;have h1:=hp.pos;refine cG rfl fa ⟨_,_,rfl,rfl,_,rfl,ifT (decide_eq_true (by lia)) (dA rfl fa (cG rfl fa ⟨_,_,rfl,rfl,?_⟩))⟩;rw[hp.one];exact q
 |ty h n=>exact⟨_,_,false,rfl,h,n,_,rfl,gL q⟩
 |len h=>exact⟨_,_,true,rfl,.tup h,rfl,_,rfl,fU ⟨_,rfl,_,_,rfl,.inr h,rfl,_,rfl,gL q⟩⟩
 |n0 h ty n=>
  refine⟨_,_,true,rfl,.tup h,rfl,_,rfl,fU ⟨_,rfl,_,_,rfl,.inr h,rfl,_,rfl,fU ?_⟩⟩;exact⟨_,rfl,_,_,0,_,rfl,rfl,h,rfl,_,rfl,.inr ⟨_,ty,n,_,rfl,gL q⟩⟩
 |n1 h ty n=>
  refine⟨_,_,true,rfl,.tup h,rfl,_,rfl,fU ⟨_,rfl,_,_,rfl,.inr h,rfl,_,rfl,fU ?_⟩⟩;exact⟨_,rfl,_,_,0,_,rfl,rfl,h,rfl,_,rfl,.inl ⟨_,rfl,_,rfl,fU ⟨_,rfl,_,_,1,_,rfl,rfl,h,rfl,_,rfl,.inr ⟨_,ty,n,_,rfl,gL q⟩⟩⟩⟩
 |fb fa c=>
  refine⟨_,_,true,rfl,.tup fa,rfl,_,rfl,fU ⟨_,rfl,_,_,rfl,.inr fa,rfl,_,rfl,fU ?_⟩⟩;refine dA rfl fa ⟨_,rfl,.inl ⟨_,rfl,_,rfl,fU (cG rfl fa ⟨_,rfl,.inl ⟨_,rfl,_,rfl,fU ?_⟩⟩)⟩⟩;rcases c with c | ⟨c,d⟩
  ·exact cG rfl fa ⟨_,_,rfl,rfl,_,rfl,ifF (decide_eq_false (by lia)) q⟩
  ·refine cG rfl fa ⟨_,_,rfl,rfl,_,rfl,ifT (decide_eq_true c) (dA rfl fa (cG rfl fa ⟨_,_,rfl,rfl,?_⟩))⟩;rw[decide_eq_false (fun e=>d (by injection e))];exact q
abbrev sPS:Stmt:=top 41
theorem qh2:aP ["thing"] ["thing"] (aH sPS):=sK9 rfl rfl rfl rfl (by decide +kernel)
theorem Zu {dV:Value}(F:aV K "is_piece_size" "is_piece_size" sPS dV f fd){aN:Addr}(fN:∀H,Fq K H aN (0,1))(mNO:mI9 mg "NOUGHT" aN)(G1:aL P w K mg base CX0 2 g1 gd1 ["thing"] (Lg K))(b1:aM K gd1 ["thing"] [])(k1:kI9 K g1)(m1:mI9 mg "is_fraction" g1)(G2:aL P w K mg base CX0 1 g2 gd2 ["one","other"] (Gr K))(b2:aM K gd2 ["one","other"] [])(k2:kI9 K g2)(m2:mI9 mg "under" g2) :
  aL P w K mg base CX 3 f fd ["thing"] (qd0 K):=by
 refine F.ok qh2 (fun vs H Q E h=>?_) fun cdv A outer s H vs Q E hr h=>?_
 ·obtain⟨_,_,_,rfl,_⟩:=h;rfl
 obtain⟨a,p,n,rfl,fa,hp,h0,hb,hn,q⟩:=h;have r1:=hr.mono (show 1<=2 by lia);refine⟨_,(aF (aX (uF (aG G1 hr rfl m1 k1 b1 .nil aK (aA (pv 0) aB)) (xL (aG G2 r1 rfl m2 k2 b2 .nil aK (aA (dI (v:=.ref aN) rfl mNO rfl) (aA (pv 0) aB))))))),?_⟩;refine⟨_,rfl,a,p,rfl,fa,hp,_,rfl,gL ⟨_,rfl,aN,a,_,p,1,n,rfl,fN _,fa,⟨show (0:Nat) < 2 ^ 1 by decide,show (1:Nat) < 2 ^ 1 by decide⟩,hb,by lia,?_⟩⟩;rw[decide_eq_true (show (0:Int)*p.2 < p.1*1 by lia)];exact q
abbrev sNB:Stmt:=top 46
theorem qg8:aP ["thing","bound"] ["thing","bound"] (aH sNB):=sK9 rfl rfl rfl rfl (by decide +kernel)
theorem qe5 {dV:Value}(F:aV K "is_number_below" "is_number_below" sNB dV f fd)(G1:aL P w K mg base CX0 1 g1 gd1 ["thing"] (oJ K))(b1:aM K gd1 ["thing"] [])(k1:kI9 K g1)(m1:mI9 mg "is_whole" g1) :
  aL P w K mg base CX 2 f fd ["thing","bound"] Wm:=by
 refine F.ok qg8 (fun vs H Q E h=>?_) fun cdv A outer s H vs Q E hr h=>?_
 ·obtain⟨_,_,rfl,_⟩:=h;rfl
 obtain⟨i,b',rfl,h0,h1,q⟩:=h;refine⟨_,(aF (aX (uF (aG G1 hr rfl m1 k1 b1 .nil aK (aA (pv 0) aB)) (uF (mO Mc (pv 0) aD (bM _)) (xL (mO xE (pv 0) (pv 1) (bM _))))))),?_⟩;refine⟨_,rfl,_,rfl,.inl ⟨i,rfl,_,rfl,gL ⟨_,rfl,_,_,rfl,rfl,_,rfl,ifT (decide_eq_true h0) ⟨_,rfl,_,rfl,_,_,rfl,rfl,?_⟩⟩⟩⟩;show Q (.bl (decide (i < b'))) H;rw[decide_eq_true h1];exact q
abbrev sRS:Stmt:=top 49
theorem qi9:aP ["word","size"] ["word","size"] (aH sRS):=sK9 rfl rfl rfl rfl (by decide +kernel)
theorem qd9 {dV:Value}(F:aV K "refuse_size" "refuse_size" sRS dV f fd)(G1:aL P w K mg base CX0 2 g1 gd1 ["thing"] (Lg K))(b1:aM K gd1 ["thing"] [])(k1:kI9 K g1)(m1:mI9 mg "is_fraction" g1)(G2:aL P w K mg base CX0 3 g2 gd2 ["thing"] (qd0 K))(b2:aM K gd2 ["thing"] [])(k2:kI9 K g2)(m2:mI9 mg "is_piece_size" g2) :
  aL P w K mg base CX 4 f fd ["word","size"] (Xo K):=by
 refine F.ok qi9 (fun vs H Q E h=>?_) fun cdv A outer s H vs Q E hr h=>?_
 ·obtain⟨_,_,_,rfl,_⟩:=h;rfl
 obtain⟨k,z,p,rfl,fz,hp,h0,hb,q⟩:=h;have r2:=hr.mono (show 2<=3 by lia);refine⟨_,(aC (cC (gG (eZ (aG G1 r2 rfl m1 k1 b1 .nil aK (aA (pv 1) aB)))) (aF gA) bH)
  (aF (cC (PW.pt (zL (bF dZ (pv 0) cH (bM _)) (qW (gG (eZ (aG G2 hr rfl m2 k2 b2 .nil aK (aA (pv 1) aB))))))) (aF gA) bH))),?_⟩
 refine⟨_,rfl,z,p,rfl,fz,hp,_,rfl,fU ?_⟩
 cases k
 ·exact⟨_,rfl,rfl,_,rfl,ifT (bY .pc .pc) ⟨_,rfl,z,p,_,rfl,fz,hp,h0 rfl,hb,by lia,_,rfl,fU q⟩⟩
 ·exact⟨_,rfl,rfl,_,rfl,ifF (bY .pu .pc) (fU q)⟩
 ·exact⟨_,rfl,rfl,_,rfl,ifF (bY .ho .pc) (fU q)⟩
theorem uR:(["point","many"]:List Str).Nodup:=by decide +kernel
def qa9 (K:Frag):Sp:=fun vs H Q _=>∃(l:Addr) (i j m:Int),vs=[.ref l,.int m]/\SqL K H l [.int i,.int j]/\0<=i/\i < m/\0<=j/\j < m/\∀H',aY H H'->Q .non H'
def Zx:Sp:=fun vs H Q _=>∃k c:Int,vs=[.int k,.int c]/\0<=k/\k < c/\Q .non H
abbrev sRP:Stmt:=top 47
theorem qj4:aP ["some","many"] ["some","many"] (aH sRP):=sK9 rfl rfl rfl rfl (by decide +kernel)
theorem qc8 {dV:Value}(F:aV K "refuse_points" "refuse_points" sRP dV f fd)(ma:mg "all"=none)(G1:aL P w K mg base CX0 2 g1 gd1 ["thing","bound"] Wm)(b1:aM K gd1 ["thing","bound"] [])(k1:kI9 K g1)(m1:mI9 mg "is_number_below" g1) :
  aL P w K mg base CX 3 f fd ["some","many"] (qa9 K):=by
 refine F.ok qj4 (fun vs H Q E h=>?_) fun cdv A outer s H vs Q E hr h=>?_
 ·obtain⟨_,_,_,_,rfl,_⟩:=h;rfl
 obtain⟨l,i,j,m,rfl,hl,i0,i1,j0,j1,q⟩:=h;refine⟨_,(aF (cC (gG (eZ (cN (Ov rfl) rfl ma PyProof.Rows.boot_all (aA (dW (nl:=1) (fr:=[1]) (Nc:=["point","many"]) (cl:=[("many",s.heap.objs.size+1)]) rfl ⟨rfl,rfl,by decide +kernel,by decide +kernel,fun x c h=>h,fD rfl,rfl,fun i n h=>match i,h with | 0,h=>by cases h;exact⟨1,rfl,rfl,rfl,rfl,.inl rfl⟩ | k+1,h=>by rw[show 1+(k+1)=k+2 by lia] at h;cases h⟩
    (cW (pv 0)) (fun C s3 H3 fp pins=>(aZ (i:=0) uR rfl (Or.inl rfl))) (fun C s3 H3 fp pins=>fC)
    (fun C s3 H3 fp pins=>(aG G1 hr rfl m1 k1 b1 .nil aK (aA (pv 0) (aA (pv 1) aB))))) aB)))) (aF gA) bH)),?_⟩
 refine⟨_,rfl,l,rfl,⟨_,hl⟩,fun D hD=>?_⟩;have sD:=aI hD (.lst []);refine dR (xs:=[.int i,.int j]) (fun k zs H'=>aY H H'/\H' D=some (.lst zs)/\zs=(replicate k true).map V.bl) ⟨sD,aE,rfl⟩ (fun k zs H' h=>h.2.1) (fun k zs H' _ h=>h.1.seq hl) ?_ ?_
 ·rintro k zs x H1 hx ⟨s1,e1,rfl⟩ C hC;have hk:k < 2:=(List.getElem?_eq_some_iff.mp hx).1;obtain⟨y,rfl,y0,y1⟩:∃y,x=.int y/\0<=y/\y < m:=by
   rcases mem_cons.mp (mem_of_getElem? hx) with z | z
   ·exact⟨i,z,i0,i1⟩
   ·exact⟨j,by simpa using z,j0,j1⟩
  refine⟨fQ.1,fQ.2,gL ?_⟩;refine⟨_,rfl,_,rfl,y,m,rfl,y0,y1,e1,bC (by rw[length_map,length_replicate];lia),hC _ _ ⟨s1.change hD,aE,?_⟩⟩;rw[replicate_succ',map_append];rfl
 ·rintro zs H1 ⟨s1,e1,rfl⟩;refine⟨D,_,rfl,SqL.of e1,_,rfl,ifF ?_ ?_⟩
  ·simp
  ·exact q _ s1
abbrev sRN:Stmt:=top 48
theorem qj5:aP ["k","count"] ["k","count"] (aH sRN):=sK9 rfl rfl rfl rfl (by decide +kernel)
theorem qd6 {dV:Value}(F:aV K "refuse_number" "refuse_number" sRN dV f fd)(G1:aL P w K mg base CX0 2 g1 gd1 ["thing","bound"] Wm)(b1:aM K gd1 ["thing","bound"] [])(k1:kI9 K g1)(m1:mI9 mg "is_number_below" g1) :
  aL P w K mg base CX 3 f fd ["k","count"] Zx:=by
 refine F.ok qj5 (fun vs H Q E h=>?_) fun cdv A outer s H vs Q E hr h=>?_
 ·obtain⟨_,_,rfl,_⟩:=h;rfl
 obtain⟨k,c,rfl,u0,u1,q⟩:=h;refine⟨_,(aF (cC (gG (eZ (aG G1 hr rfl m1 k1 b1 .nil aK (aA (pv 0) (aA (pv 1) aB))))) (aF gA) bH)),?_⟩;exact⟨_,rfl,_,rfl,k,c,rfl,u0,u1,_,rfl,fU q⟩
abbrev Db:Stmt:=cU (top 45) 0
theorem Tu:aP ["self","many"] ["self","many"] (aH Db):=sK9 rfl rfl rfl rfl (by decide +kernel)
theorem Oi {dV:Value}{CN:Addr}(F:aV K "__init__" "Net.__init__" Db dV f fd)(NTx:NT K mg CN){tM:Tok}(mMP:mg "MOST_POINTS"=some (.int 20 tM))(G1:aL P w K mg base CX0 1 g1 gd1 ["thing"] (oJ K))(b1:aM K gd1 ["thing"] [])(k1:kI9 K g1)(m1:mI9 mg "is_whole" g1):aL P w K mg base CX 2 f fd ["self","many"] (zJ CN):=by
 refine F.ok Tu (fun vs H Q E h=>?_) fun cdv A outer s H vs Q E hr h=>?_
 ·obtain⟨_,_,_,rfl,_⟩:=h;rfl
 obtain⟨n,dx,m,rfl,hn,h1,h20,q⟩:=h;refine⟨_,(aC (cC (PW.pt (oZ (gG (eZ (aG G1 hr rfl m1 k1 b1 .nil aK (aA (pv 1) aB)))) (oZ (bF xE (pv 1) aD (bM _)) (nV (bF Hw (pv 1) (dI (v:=.int 20) rfl mMP ⟨_,rfl⟩) (bM _)))))) (aF gA) bH)
  (aC (kL (pv 0) (pv 1) rfl)
  (aF (kL (pv 0) (dH aB) rfl)))),?_⟩
 refine⟨_,rfl,_,rfl,.inl ⟨m,rfl,_,rfl,fU ⟨_,rfl,_,_,rfl,rfl,_,rfl,ifF (decide_eq_false (by lia)) ⟨_,rfl,_,_,rfl,rfl,_,rfl,ifF (decide_eq_false (by lia)) ?_⟩⟩⟩⟩;refine⟨_,rfl,_,rfl,n,CN,dx,[],rfl,hn,NTx.cl,NTx.nP,(by show 0 < 1000;decide),?_⟩;refine⟨zl9 0,fun l hl=>?_⟩;have nl:n≠l:=fun z=>by subst z;rw[aE] at hl;cases hl
 have hl0:H l=none:=by rw[aW (Ne.symm nl)] at hl;exact hl
 have l1:=dD ("point_count":Str) (.int m) [];simp only[length_nil] at l1;refine⟨_,rfl,n,CN,dx,dE "point_count" (.int m) [],rfl,by rw[aW nl];exact aE,NTx.cl,NTx.nK,by lia,?_⟩;refine q l _ hl0 (fun b o e hb=>?_) aE (by rw[aW (Ne.symm nl)];exact aE);rw[aW hb,aW (bA e hl0),aW hb];exact e
abbrev Oo:Stmt:=cU (top 45) 1
theorem Xd:aP ["self"] ["self"] (aH Oo):=sK9 rfl rfl rfl rfl (by decide +kernel)
theorem Ui {dV:Value}{CN:Addr}(F:aV K "many" "Net.many" Oo dV f fd)(NTx:NT K mg CN):aL P w K mg base CX 1 f fd ["self"] (zK CN K):=by
 refine F.ok Xd (fun vs H Q E h=>?_) fun cdv A outer s H vs Q E hr h=>?_
 ·obtain⟨_,_,_,_,rfl,_⟩:=h;rfl
 obtain⟨n,l,m,ds,rfl,⟨⟨dx,hn⟩,ts,hl,hr'⟩,q⟩:=h;exact⟨_,(aF (aX (bU (pv 0) rfl))),_,rfl,n,CN,dx,_,_,rfl,hn,NTx.cl,NTx.nP,tK _ _,q⟩
abbrev qf9:Stmt:=cU (top 45) 2
abbrev qh5:Stmt:=cU (top 45) 6
abbrev Ze:Stmt:=cU (top 45) 3
theorem Vg:aP ["self","row","told"] ["self","row"] (aH Ze):=sK9 rfl rfl rfl rfl (by decide +kernel)
theorem Yz {dV:Value}{CN:Addr}(F:aV K "add" "Net.add" Ze dV f fd)(NTx:NT K mg CN){tR:Tok}(mMR:mg "MOST_ROWS"=some (.int 40 tR))(ml:mg "len"=none){gT:Addr}{gdT:FuncData}(T:RT K mg CR CK)(GT:aL P w K mg base CX0 2 gT gdT ["self"] (yI CK))(bT:aM K gdT ["self"] [])(mT:∀k,gE K (CK k) "told" gT)(G1:aL P w K mg base CX0 3 g1 gd1 ["some","many"] (qa9 K))(b1:aM K gd1 ["some","many"] [])(k1:kI9 K g1)(m1:mI9 mg "refuse_points" g1)(G2:aL P w K mg base CX0 4 g2 gd2 ["word","size"] (Xo K))(b2:aM K gd2 ["word","size"] [])(k2:kI9 K g2)(m2:mI9 mg "refuse_size" g2):aL P w K mg base CX 5 f fd ["self","row"] (Vt CN K CK):=by
 refine F.ok Vg (fun vs H Q E h=>?_) fun cdv A outer s H vs Q E hr h=>?_
 ·obtain⟨_,_,_,_,_,_,_,_,_,_,rfl,_⟩:=h;rfl
 obtain⟨n,l,x,z,m,ds,k,i,j,p,rfl,⟨⟨dx,hn⟩,ts,hl,hR⟩,rw,fz,⟨i0,i1,j0,j1,lp,h0,bp⟩,h40,q⟩:=h;have r2:=hr.mono (show 2<=4 by lia);have r3:=hr.mono (show 3<=4 by lia);refine⟨_,(aC (aR (i:=2) Vg.nd rfl (Or.inl rfl) (fI (f:=fun _=>gT) (fd:=fun _=>gdT) (sp:=fun _=>yI CK) (pv 1) T.cl mT (fun _=>GT) r2 (fun _=>bT) .nil aK))
  (aC (bQ (aG G1 r3 rfl m1 k1 b1 .nil aK (aA (dH (aA (aQ aT (pv 2) aD (fun _ _=>rfl)) (aA (aQ aT (pv 2) aD (fun _ _=>rfl)) aB))) (aA (bU (pv 0) rfl) aB))))
  (aC (bQ (aG G2 hr rfl m2 k2 b2 .nil aK (aA (aQ aT (pv 2) aD (fun _ _=>rfl)) (aA (aQ aT (pv 2) aD (fun _ _=>rfl)) aB))))
  (aC (cC (bF Mc (cN bX rfl ml PySem.boot_len (aA (bU (pv 0) rfl) aB)) (dI (v:=.int 40) rfl mMR ⟨_,rfl⟩) (bM _)) (aF gA) bH)
  (aC (bQ (kY PySem.F.plainAttrs_list PySem.F.slot_list_append PySem.F.type_list_append gC (bU (pv 0) rfl) (aA (pv 2) aB)))
  (aF (aX (aU jR (cN bX rfl ml PySem.boot_len (aA (bU (pv 0) rfl) aB)) aD)))))))),?_⟩
 obtain⟨dr,hx⟩:=id rw;have len:=hR.length;refine⟨_,rfl,k,x,dr,_,rfl,hx,(dG _ _ _ (by decide +kernel) (by decide +kernel) (by decide +kernel)),x,k,_,_,_,rfl,rw,fun t ht=>?_⟩;have st:=aI ht (.tup [.str k.wd,.int i,.int j,.ref z]);have et:SqT K (upd H t (.tup [.str k.wd,.int i,.int j,.ref z])) t [.str k.wd,.int i,.int j,.ref z]:=SqT.of aE;generalize upd H t (.tup [.str k.wd,.int i,.int j,.ref z])=H1a at st et ⊢;have hn1:=st _ _ hn;have hl1:=st _ _ hl;refine⟨_,rfl,t,_,1,_,rfl,rfl,et,rfl,_,rfl,t,_,2,_,rfl,rfl,et,rfl,zl9 2,fun lq hlq=>?_⟩;have sq:=aI hlq (.lst [.int i,.int j]);have eq:upd H1a lq (.lst [.int i,.int j]) lq=some (.lst [.int i,.int j]):=aE;generalize upd H1a lq (.lst [.int i,.int j])=H1b at sq eq ⊢;have hnb:=sq _ _ hn1;refine⟨_,rfl,n,CN,dx,_,_,rfl,hnb,NTx.cl,NTx.nP,tK _ _,lq,i,j,m,rfl,SqL.of eq,i0,i1,j0,j1,fun H1 sc=>?_⟩;have sqc:=sq.trans sc;have st:=st.trans sqc;have et:=sqc.seqT et;have hn1:=sqc _ _ hn1;have hl1:=sqc _ _ hl1;refine⟨_,rfl,t,_,0,_,rfl,rfl,et,rfl,_,rfl,t,_,3,_,rfl,rfl,et,rfl,k,z,p,rfl,st.fq fz,lp,h0,bp,?_⟩;refine⟨_,rfl,n,CN,dx,_,_,rfl,hn1,NTx.cl,NTx.nK,fX _ _,l,ts,rfl,.inl (SqL.of hl1),_,_,rfl,rfl,_,rfl,ifF (decide_eq_false (by lia)) ?_⟩;refine⟨_,rfl,n,CN,dx,_,_,rfl,hn1,NTx.cl,NTx.nK,fX _ _,.inl ⟨rfl,_,SqL.of hl1⟩,_,rfl,l,ts,.ref t,rfl,rfl,hl1,bC (by lia),?_⟩;have nn:n≠l:=eY hn1 hl1 (fun z=>by cases z);have hn2:upd H1 l (.lst (ts++[.ref t])) n=some (.ins CN dx (iJ m l)):=by rw[aW nn];exact hn1
 have hl2:upd H1 l (.lst (ts++[.ref t])) l=some (.lst (ts++[.ref t])):=aE;refine⟨_,rfl,n,CN,dx,_,_,rfl,hn2,NTx.cl,NTx.nK,fX _ _,l,_,rfl,.inl (SqL.of hl2),_,_,rfl,rfl,?_⟩;show Q (.int (((ts++[V.ref t]).length:Int) - 1)) _;rw[List.length_append,length_singleton,len,show (((ds.length+1:Nat):Int) - 1)=(ds.length:Int) by lia];refine q _ (st.x.write) ⟨⟨dx,hn2⟩,_,hl2,Rts.upd hl1 ((hR.same st).app (.cons et (st.fq fz) .nil))⟩
abbrev zO:Stmt:=cU (top 45) 4
theorem Ca:aP ["self","k","size","old"] ["self","k","size"] (aH zO):=sK9 rfl rfl rfl rfl (by decide +kernel)
theorem Jz {dV:Value}{CN:Addr}(F:aV K "change" "Net.change" zO dV f fd)(NTx:NT K mg CN)(ml:mg "len"=none)(G1:aL P w K mg base CX0 3 g1 gd1 ["k","count"] Zx)(b1:aM K gd1 ["k","count"] [])(k1:kI9 K g1)(m1:mI9 mg "refuse_number" g1)(G2:aL P w K mg base CX0 4 g2 gd2 ["word","size"] (Xo K))(b2:aM K gd2 ["word","size"] [])(k2:kI9 K g2)(m2:mI9 mg "refuse_size" g2):aL P w K mg base CX 5 f fd ["self","k","size"] (Av CN K):=by
 refine F.ok Ca (fun vs H Q E h=>?_) fun cdv A outer s H vs Q E hr h=>?_
 ·obtain⟨_,_,_,_,_,_,_,_,_,_,_,rfl,_⟩:=h;rfl
 obtain⟨n,l,z,m,q',ds,k,i,j,p0,p,rfl,⟨⟨dx,hn⟩,ts,hl,hR⟩,q0,hq,fz,lp,h0,bp,q⟩:=h;have r2:=hr.mono (show 3<=4 by lia);refine⟨_,(aC (bQ (aG G1 r2 rfl m1 k1 b1 .nil aK (aA (pv 1) (aA (cN bX rfl ml PySem.boot_len (aA (bU (pv 0) rfl) aB)) aB))))
  (aC (aR (i:=3) Ca.nd rfl (Or.inl rfl) (aQ bN (bU (pv 0) rfl) (pv 1) (fun _ _=>rfl)))
  (aC (bQ (aG G2 hr rfl m2 k2 b2 .nil aK (aA (aQ aT (pv 3) aD (fun _ _=>rfl)) (aA (pv 2) aB))))
  (aF (jU (dP (aA (aQ aT (pv 3) aD (fun _ _=>rfl)) (aA (aQ aT (pv 3) aD (fun _ _=>rfl)) (aA (aQ aT (pv 3) aD (fun _ _=>rfl)) (aA (pv 2) aB))))) (oE (bU (pv 0) rfl) (pv 1) iT)))))),?_⟩
 have len:=hR.length;have lt:q'.toNat < ds.length:=(List.getElem?_eq_some_iff.mp hq).1;obtain⟨t,z0,et,ht,_⟩:=hR.at hq;have at_:atI ts q'=some (.ref t):=by
  have:=bV et
  rwa [show ((q'.toNat:Nat):Int)=q' by lia] at this
 have ix_:ixN ts.length q'=some q'.toNat:=by
  have:=kN (n:=ts.length) (k:=q'.toNat) (by lia)
  rwa [show ((q'.toNat:Nat):Int)=q' by lia] at this
 refine⟨_,rfl,_,rfl,n,CN,dx,_,_,rfl,hn,NTx.cl,NTx.nK,fX _ _,l,ts,rfl,.inl (SqL.of hl),q',_,rfl,q0,by lia,?_⟩;refine⟨_,rfl,n,CN,dx,_,_,rfl,hn,NTx.cl,NTx.nK,fX _ _,_,rfl,l,ts,q',_,rfl,rfl,SqL.of hl,at_,?_⟩;refine⟨_,rfl,t,_,0,_,rfl,rfl,ht,rfl,_,rfl,k,z,p,rfl,fz,lp,h0,bp,?_⟩;refine⟨_,rfl,t,_,0,_,rfl,rfl,ht,rfl,_,rfl,t,_,1,_,rfl,rfl,ht,rfl,_,rfl,t,_,2,_,rfl,rfl,ht,rfl,_,rfl,zl9 4,fun u hu=>?_⟩;have su:=aI hu (.tup [.str k.wd,.int i,.int j,.ref z]);have eu:SqT K (upd H u (.tup [.str k.wd,.int i,.int j,.ref z])) u [.str k.wd,.int i,.int j,.ref z]:=SqT.of aE;generalize upd H u (.tup [.str k.wd,.int i,.int j,.ref z])=H1 at su eu ⊢;have hn1:=su _ _ hn;have hl1:=su _ _ hl;refine⟨_,rfl,n,CN,dx,_,_,rfl,hn1,NTx.cl,NTx.nK,fX _ _,_,rfl,l,ts,q',q'.toNat,rfl,rfl,hl1,ix_,?_⟩;have nn:n≠l:=eY hn1 hl1 (fun z=>by cases z);refine q _ (su.x.write) ⟨⟨dx,by rw[aW nn];exact hn1⟩,_,aE,Rts.upd hl1 (Rts.set eu (su.fq fz) _ (hR.same su))⟩
theorem Rh:(["told"]:List Str).Nodup:=by decide +kernel
abbrev Of:Stmt:=cU (top 45) 5
theorem Zo:aP ["self"] ["self"] (aH Of):=sK9 rfl rfl rfl rfl (by decide +kernel)
theorem Rl {dV:Value}{CN:Addr}(F:aV K "rows" "Net.rows" Of dV f fd)(NTx:NT K mg CN)(G1:aL P w K mg base CX0 3 g1 gd1 ["told"] (tE K CK))(b1:aM K gd1 ["told"] [])(k1:kI9 K g1)(m1:mI9 mg "row_of" g1):aL P w K mg base CX 4 f fd ["self"] (nU CN K CK):=by
 refine F.ok Zo (fun vs H Q E h=>?_) fun cdv A outer s H vs Q E hr h=>?_
 ·obtain⟨_,_,_,_,rfl,_⟩:=h;rfl
 obtain⟨n,l,m,ds,rfl,⟨⟨dx,hn⟩,ts,hl,hR⟩,h100,q⟩:=h;refine⟨_,(aF (aX (dW (nl:=1) (fr:=[]) (Nc:=["told"]) (cl:=[]) rfl ⟨rfl,rfl,by decide +kernel,by decide +kernel,fun x c h=>(by cases h),fD rfl,rfl,fun i n h=>(by simp at h)⟩
    (cW (bU (pv 0) rfl)) (fun C s3 H3 fp pins=>(aZ (i:=0) Rh rfl (Or.inl rfl))) (fun C s3 H3 fp pins=>fC)
    (fun C s3 H3 fp pins=>(aG G1 hr rfl m1 k1 b1 .nil aK (aA (pv 0) aB)))))),?_⟩
 have len:=hR.length;refine⟨_,rfl,n,CN,dx,_,_,rfl,hn,NTx.cl,NTx.nK,fX _ _,l,rfl,⟨_,SqL.of hl⟩,fun D hD=>?_⟩;have sD:=aI hD (.lst []);refine dR (xs:=ts) (fun i zs H'=>aY H H'/\H' D=some (.lst zs)/\gJ CK K H' zs (ds.take i)) ⟨sD,aE,.nil⟩ (fun i zs H' h=>h.2.1) (fun i zs H' _ h=>h.1.seq (SqL.of hl)) ?_ ?_
 ·rintro i zs x H1 hx ⟨s1,e1,R1⟩ C hC;have hi:i < ds.length:=by
   have:=(List.getElem?_eq_some_iff.mp hx).1;lia
  obtain⟨⟨k,u,v,p⟩,hd⟩:∃d,ds[i]?=some d:=⟨_,getElem?_eq_getElem hi⟩
  obtain⟨t,z,et,ht,fz⟩:=hR.at hd;have ex:x=.ref t:=by rw[et] at hx;exact(Option.some.inj hx).symm
  subst ex;have lz:=R1.length;rw[length_take] at lz;refine⟨fQ.1,fQ.2,gL ?_⟩;refine⟨_,rfl,t,_,_,_,_,rfl,s1.seqT ht,k,rfl,fun y H2 s2 ny rw=>?_⟩;have e2:=s2 _ _ e1;refine⟨e2,bC (by lia),hC _ _ ⟨(s1.trans s2).change hD,aE,?_⟩⟩;rw[take_add_one,hd];exact gJ.upd e2 ((R1.same s2).app (.cons rw ((s1.trans s2).fq fz) .nil))
 ·rintro zs H1 ⟨s1,e1,R1⟩;rw[len,take_length] at R1;exact q D zs H1 s1 hD e1 R1
theorem Bk {g:Addr}{gd:FuncData}(F:aL P w K mg base CX0 2 g gd ["thing"] (Li K)):aL P w K mg base CX0 2 g gd ["thing"] (Lg K):=
 F.weak fun vs H Q E h=>by
  obtain⟨a,p,rfl,f,l,q⟩:=h;exact⟨_,some p,rfl,.fr f l,q⟩
theorem yP {X:Cx}{K:Frag}{e:Expr}{f:Str}{pos:Pos}{ta:TE}(h:X.K=K)(he:PE X e ta)(hb:attributeBase e f X.env (eval e X.env)=eval e X.env):PE X (.Attribute e f pos) (qc0 K ta f):=by subst h;exact bU he hb
abbrev Fd:Stmt:=top 21
theorem Tw:aP ["one","other"] ["one","other"] (aH Fd):=sK9 rfl rfl rfl rfl (by decide +kernel)
theorem Lb {dV:Value}(F:aV K "times" "times" Fd dV f fd)(G1:aL P w K mg base CX0 2 g1 gd1 ["top","bottom"] gD)(b1:aM K gd1 ["top","bottom"] [])(k1:kI9 K g1)(m1:mI9 mg "fraction" g1) :
  aL P w K mg base CX 3 f fd ["one","other"] (eP K gB):=by
 refine F.ok Tw (fun vs H Q E h=>?_) fun cdv A outer s H vs Q E hr h=>?_
 ·obtain⟨_,_,_,_,_,_,rfl,_⟩:=h;rfl
 obtain⟨a,b,p,q,n,m,rfl,ha,hb,lp,lq,bp,bq,hn,z⟩:=h;refine⟨_,aF (aX (aG G1 hr rfl m1 k1 b1 .nil aK (aA
  (aU cB (aQ aT (pv 0) aD (fun _ _=>rfl)) (aQ aT (pv 1) aD (fun _ _=>rfl)))
  (aA (aU cB (aQ aT (pv 0) aD (fun _ _=>rfl)) (aQ aT (pv 1) aD (fun _ _=>rfl))) aB)))),?_⟩
 refine dA rfl ha (dA rfl hb (cA bp.a bq.a (by lia) (by lia) ?_));refine cG rfl ha (cG rfl hb (cA bp.b bq.b (by lia) (by lia) ⟨_,_,n+m,rfl,gF lp lq,bp.b.mul bq.b,by lia,z⟩))
abbrev Md:Stmt:=top 22
theorem Wr:aP ["one","other"] ["one","other"] (aH Md):=sK9 rfl rfl rfl rfl (by decide +kernel)
theorem Uj {dV:Value}(F:aV K "over" "over" Md dV f fd)(G1:aL P w K mg base CX0 2 g1 gd1 ["top","bottom"] gD)(b1:aM K gd1 ["top","bottom"] [])(k1:kI9 K g1)(m1:mI9 mg "fraction" g1) :
  aL P w K mg base CX 3 f fd ["one","other"] (tX K):=by
 refine F.ok Wr (fun vs H Q E h=>?_) fun cdv A outer s H vs Q E hr h=>?_
 ·obtain⟨_,_,_,_,_,_,rfl,_⟩:=h;rfl
 obtain⟨a,b,p,q,n,m,rfl,ha,hb,lp,lq,h0,bp,bq,hn,z⟩:=h;refine⟨_,(aC (cC (bF dZ (aQ aT (pv 1) aD (fun _ _=>rfl)) aD (bM _)) (aF gA) bH)
  (aF (aX (aG G1 hr rfl m1 k1 b1 .nil aK (aA (aU cB (aQ aT (pv 0) aD (fun _ _=>rfl)) (aQ aT (pv 1) aD (fun _ _=>rfl))) (aA (aU cB (aQ aT (pv 0) aD (fun _ _=>rfl)) (aQ aT (pv 1) aD (fun _ _=>rfl))) aB)))))),?_⟩
 refine dA rfl hb ⟨rfl,_,rfl,?_⟩;rw[decide_eq_false (fun e=>absurd (show q.1=0 by injection e) (by lia))];refine fU ?_;refine dA rfl ha (cG rfl hb (cA bp.a bq.b (by lia) (by lia) ?_));exact cG rfl ha (dA rfl hb (cA bp.b bq.a (by lia) (by lia) ⟨_,_,n+m,rfl,pK lp (by lia),bp.b.mul bq.a,by lia,z⟩))
end
section
variable {P:Program} {w:World} {K:Frag} {mg:Str->Option Value} {base:Heap} {f g1 g2 g3 g4 g5 g6 g7 g8:Addr} {fd gd1 gd2 gd3 gd4 gd5 gd6 gd7 gd8:FuncData} {CX:CXT}
variable {CR:Addr} {CK:Kd->Addr} {fW fJ fT fS:Kd->Addr} {fdW fdJ fdT fdS:Kd->FuncData}
abbrev Cu:Stmt:=top 66
theorem Uf:aP ["line","column","amount"] ["line","column","amount"] (aH Cu):=sK9 rfl rfl rfl rfl (by decide +kernel)
theorem Qy {dV:Value}(F:aV K "raise_at" "raise_at" Cu dV f fd)(G1:aL P w K mg base CX0 3 g1 gd1 ["one","other"] (eP K gY))(b1:aM K gd1 ["one","other"] [])(k1:kI9 K g1)(m1:mI9 mg "plus" g1) :
  aL P w K mg base CX 4 f fd ["line","column","amount"] (qU K):=by
 refine F.ok Uf (fun vs H Q E h=>?_) fun cdv A outer s H vs Q E hr h=>?_
 ·obtain⟨_,_,_,_,_,_,_,_,rfl,_⟩:=h;rfl
 obtain⟨l,z,j,xs,ps,a,n,m,rfl,hl,hF,hj,p1,bp,fz,a1,ba,hn,q⟩:=h;refine⟨_,(aF (jU (aG G1 hr rfl m1 k1 b1 .nil aK (aA (aQ bN (pv 0) (pv 1) (fun _ _=>rfl)) (aA (pv 2) aB))) (oE (pv 0) (pv 1) iT))),?_⟩;have lx:=hF.length;obtain⟨u,eu,fu⟩:=hF.at (iW hj);refine⟨_,rfl,_,rfl,l,xs,_,_,rfl,rfl,SqL.of hl,bV eu,_,rfl,u,z,_,a,n,m,rfl,fu,fz,p1,a1,bp,ba,hn,fun v H1 s1 e1=>?_⟩;exact⟨_,rfl,_,rfl,l,xs,_,j,rfl,rfl,s1 _ _ hl,kN (by lia),q v H1 s1 (Fq.of e1)⟩
abbrev Do:Stmt:=top 65
theorem To:aP ["matrix","row","column","amount"] ["matrix","row","column","amount"] (aH Do):=sK9 rfl rfl rfl rfl (by decide +kernel)
theorem Pd {dV:Value}(F:aV K "enter_stream" "enter_stream" Do dV f fd)(T:RT K mg CR CK){aN:Addr}(fN:∀H,Fq K H aN (0,1))(mNO:mI9 mg "NOUGHT" aN)(G1:aL P w K mg base CX0 4 g1 gd1 ["line","column","amount"] (qU K))(b1:aM K gd1 ["line","column","amount"] [])(k1:kI9 K g1)(m1:mI9 mg "raise_at" g1)(G2:aL P w K mg base CX0 3 g2 gd2 ["one","other"] (eP K Mq.minus))(b2:aM K gd2 ["one","other"] [])(k2:kI9 K g2)(m2:mI9 mg "minus" g2) :
  aL P w K mg base CX 5 f fd ["matrix","row","column","amount"] (xU K CK):=by
 refine F.ok To (fun vs H Q E h=>?_) fun cdv A outer s H vs Q E hr h=>?_
 ·obtain⟨_,_,_,_,_,_,_,_,_,_,_,_,rfl,_⟩:=h;rfl
 obtain⟨D,x,z,zz,as,M,⟨k0,u,v,p⟩,w,n,k,c,a,rfl,mx,mb,rw,pt,hc,fz,la,ba,hn,q⟩:=h;have r3:=hr.mono (show 3<=4 by lia);refine⟨_,(aC (bQ (aG G1 hr rfl m1 k1 b1 .nil aK (aA (aQ bN (pv 0) (bU (pv 1) rfl) (fun _ _=>rfl)) (aA (pv 2) (aA (pv 3) aB)))))
  (aF (bQ (aG G1 hr rfl m1 k1 b1 .nil aK (aA (aQ bN (pv 0) (bU (pv 1) rfl) (fun _ _=>rfl)) (aA (pv 2) (aA (aG G2 r3 rfl m2 k2 b2 .nil aK (aA (dI (v:=.ref aN) rfl mNO rfl) (aA (pv 3) aB))) aB))))))),?_⟩
 obtain⟨i0,i1,j0,j1⟩:cO (w:Int) u v:=pt;obtain⟨uN,rfl⟩:∃uN:Nat,u=(uN:Int):=⟨u.toNat,by lia⟩
 obtain⟨vN,rfl⟩:∃vN:Nat,v=(vN:Int):=⟨v.toNat,by lia⟩
 have hu':uN < w:=by lia
 have hv':vN < w:=by lia
 obtain⟨ln,bn,_⟩:=kK la ba;obtain⟨dx,hx⟩:=id rw;obtain⟨e1,m1,w1⟩:=mb.row hu';obtain⟨e2,l2,b2⟩:=mb.at hu' hc;have lam:=mx.la;obtain⟨a1,ha1⟩:∃a1,as[uN]?=some a1:=⟨_,getElem?_eq_getElem (by rw[lam,mb.h];exact hu')⟩
 obtain⟨xs,hxs,hF⟩:=mx.r uN a1 _ ha1 e1;have at1:atI (as.map V.ref) (uN:Int)=some (.ref a1):=bV (by rw[getElem?_map,ha1];rfl);refine⟨_,rfl,_,rfl,x,CK _,_,_,_,rfl,hx,T.cl _,T.nS _,dC _ _ _,D,_,_,_,rfl,rfl,SqL.of mx.d,at1,_,rfl,_,rfl,a1,z,c,xs,_,a,n,k,rfl,hxs,hF,by rw[w1];exact hc,l2.pos,b2,fz,la.pos,ba,by lia,fun v1 H1 s1 f1=>?_⟩;obtain⟨mx2,sx2⟩:=mx.set (j:=c) ha1 e1 hxs hF s1 f1;have mb2:=mb.rz hu' hc la ba;generalize upd H1 a1 (.lst (xs.set c (.ref v1)))=H2 at mx2 sx2 ⊢;have mx2:Mx K H2 D as (rz M uN c a):=mx2;have ls:=mx.lsts;have fz2:Fq K H2 z a:=sx2.seqT ls fz;obtain⟨dx2,hx2⟩:=id (sx2.rw ls rw);obtain⟨e3,m3,w3⟩:=mb2.row hv';obtain⟨e4,l4,b4⟩:=mb2.at hv' hc;obtain⟨a2,ha2⟩:∃a2,as[vN]?=some a2:=⟨_,getElem?_eq_getElem (by rw[lam,mb.h];exact hv')⟩
 obtain⟨xs2,hxs2,hF2⟩:=mx2.r vN a2 _ ha2 e3;have at2:atI (as.map V.ref) (vN:Int)=some (.ref a2):=bV (by rw[getElem?_map,ha2];rfl);have b01:Bd 1 (0,1):=⟨show (0:Nat) < 2 ^ 1 by decide,show (1:Nat) < 2 ^ 1 by decide⟩
 refine⟨_,rfl,_,rfl,x,CK _,_,_,_,rfl,hx2,T.cl _,T.nG _,eO _ _ _,D,_,_,_,rfl,rfl,SqL.of mx2.d,at2,_,rfl,_,rfl,aN,z,(0,1),a,1,k,rfl,fN _,fz2,by decide,la.pos,b01,ba,by lia,fun v3 H3 s3 e5=>?_⟩;refine⟨a2,v3,c,xs2,_,_,n+k+1,k+2,rfl,s3 _ _ hxs2,hF2.same s3,by rw[w3];exact hc,l4.pos,b4,Fq.of e5,ln.pos,bn,by lia,fun v4 H4 s4 f4=>?_⟩;obtain⟨mx3,sx3⟩:=(mx2.same s3).set (j:=c) ha2 e3 (s3 _ _ hxs2) (hF2.same s3) s4 f4;exact q _ (sx2.trans (s3.sx.trans sx3)) mx3
abbrev yJ:Stmt:=top 62
theorem Cc:aP ["matrix","row","share"] ["matrix","row"] (aH yJ):=sK9 rfl rfl rfl rfl (by decide +kernel)
theorem Jh {dV:Value}(F:aV K "enter_piece" "enter_piece" yJ dV f fd)(T:RT K mg CR CK){aN aO:Addr}(fN:∀H,Fq K H aN (0,1))(mNO:mI9 mg "NOUGHT" aN)(fO:∀H,Fq K H aO (1,1))(mON:mI9 mg "ONE" aO)(G1:aL P w K mg base CX0 3 g1 gd1 ["one","other"] (tX K))(b1:aM K gd1 ["one","other"] [])(k1:kI9 K g1)(m1:mI9 mg "over" g1)(G2:aL P w K mg base CX0 5 g2 gd2 ["matrix","row","column","amount"] (xU K CK))(b2:aM K gd2 ["matrix","row","column","amount"] [])(k2:kI9 K g2)(m2:mI9 mg "enter_stream" g2)(G3:aL P w K mg base CX0 3 g3 gd3 ["one","other"] (eP K Mq.minus))(b3:aM K gd3 ["one","other"] [])(k3:kI9 K g3)(m3:mI9 mg "minus" g3) :
  aL P w K mg base CX 6 f fd ["matrix","row"] (Bu K CK):=by
 refine F.ok Cc (fun vs H Q E h=>?_) fun cdv A outer s H vs Q E hr h=>?_
 ·obtain⟨_,_,_,_,_,_,_,_,_,rfl,_⟩:=h;rfl
 obtain⟨D,x,zz,as,M,⟨k0,u,v,p⟩,w,n,k,rfl,mx,mb,rw,fp,pt,lp,p0,bp,hn,q⟩:=h;have r3:=hr.mono (show 3<=5 by lia);refine⟨_,(aC (aR (i:=2) Cc.nd rfl (Or.inl rfl) (aG G1 r3 rfl m1 k1 b1 .nil aK (aA (dI (v:=.ref aO) rfl mON rfl) (aA (bU (pv 1) rfl) aB))))
  (aC (bQ (aG G2 hr rfl m2 k2 b2 .nil aK (aA (pv 0) (aA (pv 1) (aA (bU (pv 1) rfl) (aA (pv 2) aB))))))
  (aF (bQ (aG G2 hr rfl m2 k2 b2 .nil aK (aA (pv 0) (aA (pv 1) (aA (bU (pv 1) rfl) (aA (aG G3 r3 rfl m3 k3 b3 .nil aK (aA (dI (v:=.ref aN) rfl mNO rfl) (aA (pv 2) aB))) aB))))))))),?_⟩
 have lp:Low p:=lp;have p0:0 < p.1:=p0;have bp:Bd k p:=bp;have fp:Fq K H zz p:=fp;obtain⟨i0,i1,j0,j1⟩:cO (w:Int) u v:=pt;obtain⟨uN,rfl⟩:∃uN:Nat,u=(uN:Int):=⟨u.toNat,by lia⟩
 obtain⟨vN,rfl⟩:∃vN:Nat,v=(vN:Int):=⟨v.toNat,by lia⟩
 obtain⟨ls,bs,_⟩:=Ax lp p0 bp;obtain⟨ln,bn,_⟩:=kK ls bs;have pt':cO (w:Int) (uN:Int) (vN:Int):=⟨i0,i1,j0,j1⟩
 obtain⟨dx,hx⟩:=id rw;refine⟨_,rfl,x,CK _,_,_,_,rfl,hx,T.cl _,T.nZ _,eJ _ _ _,aO,zz,(1,1),p,1,k,rfl,fO _,fp,h11,lp.pos,p0,iX,bp,by lia,fun s' H1 s1 e1=>?_⟩;have fs:Fq K H1 s' (mU (1,1) p):=Fq.of e1;have rw1:=rw.same s1;obtain⟨dx1,hx1⟩:=id rw1;have mx1:=mx.same s1;refine⟨_,rfl,_,rfl,_,rfl,x,CK _,_,_,_,rfl,hx1,T.cl _,T.nS _,dC _ _ _,_,rfl,D,x,s',_,as,M,(k0,(uN:Int),(vN:Int),p),w,n,k+1,uN,_,rfl,mx1,mb,rw1,pt',by lia,fs,ls,bs,by lia,fun H2 sx2 mx2=>?_⟩;have lst:=mx1.lsts;have fs2:Fq K H2 s' (mU (1,1) p):=sx2.seqT lst fs;have rw2:=sx2.rw lst rw1;obtain⟨dx2,hx2⟩:=id rw2;obtain⟨mb2,_⟩:=Bp (d:=(k0,(uN:Int),(vN:Int),p)) mb pt' (c:=uN) (by lia) ls bs;have b01:Bd 1 (0,1):=⟨show (0:Nat) < 2 ^ 1 by decide,show (1:Nat) < 2 ^ 1 by decide⟩
 refine⟨_,rfl,_,rfl,_,rfl,x,CK _,_,_,_,rfl,hx2,T.cl _,T.nG _,eO _ _ _,_,rfl,aN,s',(0,1),_,1,k+1,rfl,fN _,fs2,by decide,ls.pos,b01,bs,by lia,fun v3 H3 s3 e3=>?_⟩;refine⟨D,x,v3,_,as,_,(k0,(uN:Int),(vN:Int),p),w,n+2*(k+1)+4,k+3,vN,_,rfl,mx2.same s3,mb2,rw2.same s3,pt',by lia,Fq.of e3,ln,bn,by lia,fun H4 sx4 mx4=>?_⟩;exact q H4 (s1.sx.trans (sx2.trans (s3.sx.trans sx4))) mx4
abbrev yC:Stmt:=top 63
theorem Lk:aP ["right","row"] ["right","row"] (aH yC):=sK9 rfl rfl rfl rfl (by decide +kernel)
theorem Jw {dV:Value}(F:aV K "enter_push" "enter_push" yC dV f fd)(T:RT K mg CR CK){aN:Addr}(fN:∀H,Fq K H aN (0,1))(mNO:mI9 mg "NOUGHT" aN)(G1:aL P w K mg base CX0 4 g1 gd1 ["line","column","amount"] (qU K))(b1:aM K gd1 ["line","column","amount"] [])(k1:kI9 K g1)(m1:mI9 mg "raise_at" g1)(G2:aL P w K mg base CX0 3 g2 gd2 ["one","other"] (eP K Mq.minus))(b2:aM K gd2 ["one","other"] [])(k2:kI9 K g2)(m2:mI9 mg "minus" g2) :
  aL P w K mg base CX 5 f fd ["right","row"] (vK K CK):=by
 refine F.ok Lk (fun vs H Q E h=>?_) fun cdv A outer s H vs Q E hr h=>?_
 ·obtain⟨_,_,_,_,_,_,_,_,_,rfl,_⟩:=h;rfl
 obtain⟨R,x,zz,ys,rs,⟨k0,u,v,p⟩,w,n,k,rfl,eR,hF,lb,rw,fp,pt,lp,bp,hn,q⟩:=h;have r3:=hr.mono (show 3<=4 by lia);refine⟨_,(aC (bQ (aG G1 hr rfl m1 k1 b1 .nil aK (aA (pv 0) (aA (bU (pv 1) rfl) (aA (aG G2 r3 rfl m2 k2 b2 .nil aK (aA (dI (v:=.ref aN) rfl mNO rfl) (aA (bU (pv 1) rfl) aB))) aB)))))
  (aF (bQ (aG G1 hr rfl m1 k1 b1 .nil aK (aA (pv 0) (aA (bU (pv 1) rfl) (aA (bU (pv 1) rfl) aB))))))),?_⟩
 have lp:Low p:=lp;have bp:Bd k p:=bp;have fp:Fq K H zz p:=fp;obtain⟨i0,i1,j0,j1⟩:cO (w:Int) u v:=pt;obtain⟨uN,rfl⟩:∃uN:Nat,u=(uN:Int):=⟨u.toNat,by lia⟩
 obtain⟨vN,rfl⟩:∃vN:Nat,v=(vN:Int):=⟨v.toNat,by lia⟩
 obtain⟨ln,bn,_⟩:=kK lp bp;obtain⟨dx,hx⟩:=id rw;obtain⟨_,l1,b1⟩:=lb.at (j:=uN) (by lia);have b01:Bd 1 (0,1):=⟨show (0:Nat) < 2 ^ 1 by decide,show (1:Nat) < 2 ^ 1 by decide⟩
 refine⟨_,rfl,_,rfl,x,CK _,_,_,_,rfl,hx,T.cl _,T.nS _,dC _ _ _,_,rfl,x,CK _,_,_,_,rfl,hx,T.cl _,T.nZ _,eJ _ _ _,aN,zz,(0,1),p,1,k,rfl,fN _,fp,by decide,lp.pos,b01,bp,by lia,fun v1 H1 s1 e1=>?_⟩;refine⟨R,v1,uN,ys,rs,_,n,k+2,rfl,s1 _ _ eR,hF.same s1,by rw[lb.w];lia,l1.pos,b1,Fq.of e1,ln.pos,bn,by lia,fun v2 H2 s2 f2=>?_⟩;have s12:=s1.trans s2;have eR2:=s12 _ _ eR;have F3:=(Fqs.set f2 uN (hF.same s12)).upd (o:=.lst (ys.set uN (.ref v2))) eR2;have e3:upd H2 R (.lst (ys.set uN (.ref v2))) R=some (.lst (ys.set uN (.ref v2))):=aE;have sx3:SX [R] H (upd H2 R (.lst (ys.set uN (.ref v2)))):=s12.sx.write (by simp);have fp3:Fq K (upd H2 R (.lst (ys.set uN (.ref v2)))) zz p:=SqT.upd (s12.fq fp) eR2;have rw3:=(rw.same s12).upd (o:=.lst (ys.set uN (.ref v2))) eR2;generalize upd H2 R (.lst (ys.set uN (.ref v2)))=H3 at F3 e3 sx3 fp3 rw3 ⊢;have lb3:=lb.rz (j:=uN) (by lia) ln bn;have F3:Fqs K H3 (ys.set uN (.ref v2)) (rzl rs uN (Mq.minus (0,1) p)):=F3;obtain⟨_,l4,b4⟩:=lb3.at (j:=vN) (by lia);obtain⟨dx3,hx3⟩:=id rw3;refine⟨_,rfl,_,rfl,x,CK _,_,_,_,rfl,hx3,T.cl _,T.nG _,eO _ _ _,_,rfl,x,CK _,_,_,_,rfl,hx3,T.cl _,T.nZ _,eJ _ _ _,R,zz,vN,_,_,p,n+(k+2)+1,k,rfl,e3,F3,by rw[lb3.w];lia,l4.pos,b4,fp3,lp.pos,bp,by lia,fun v5 H5 s5 f5=>?_⟩;refine q _ _ (sx3.trans (s5.sx.write (by simp))) aE ?_;exact(Fqs.set f5 vN (F3.same s5)).upd (s5 _ _ e3)
abbrev xH:Stmt:=top 64
theorem Ni:aP ["matrix","right","row","column"] ["matrix","right","row","column"] (aH xH):=sK9 rfl rfl rfl rfl (by decide +kernel)
theorem Jr {dV:Value}(F:aV K "enter_hold" "enter_hold" xH dV f fd)(T:RT K mg CR CK){aN aO:Addr}(fN:∀H,Fq K H aN (0,1))(mNO:mI9 mg "NOUGHT" aN)(fO:∀H,Fq K H aO (1,1))(mON:mI9 mg "ONE" aO)(G1:aL P w K mg base CX0 5 g1 gd1 ["matrix","row","column","amount"] (xU K CK))(b1:aM K gd1 ["matrix","row","column","amount"] [])(k1:kI9 K g1)(m1:mI9 mg "enter_stream" g1)(G2:aL P w K mg base CX0 4 g2 gd2 ["line","column","amount"] (qU K))(b2:aM K gd2 ["line","column","amount"] [])(k2:kI9 K g2)(m2:mI9 mg "raise_at" g2)(G3:aL P w K mg base CX0 3 g3 gd3 ["one","other"] (eP K Mq.minus))(b3:aM K gd3 ["one","other"] [])(k3:kI9 K g3)(m3:mI9 mg "minus" g3) :
  aL P w K mg base CX 6 f fd ["matrix","right","row","column"] (zX K CK):=by
 refine F.ok Ni (fun vs H Q E h=>?_) fun cdv A outer s H vs Q E hr h=>?_
 ·obtain⟨_,_,_,_,_,_,_,_,_,_,_,_,rfl,_⟩:=h;rfl
 obtain⟨D,R,x,zz,as,M,ys,rs,⟨k0,u,v,p⟩,w,n,c,rfl,mx,mb,eR,hFR,lr,nRD,nRa,rw,fp,pt,hc,hn,q⟩:=h;have r3:=hr.mono (show 3<=5 by lia);have r4:=hr.mono (show 4<=5 by lia);refine⟨_,(aC (bQ (aG G1 hr rfl m1 k1 b1 .nil aK (aA (pv 0) (aA (pv 2) (aA (pv 3) (aA (dI (v:=.ref aO) rfl mON rfl) aB))))))
  (aC (bQ (aG G2 r4 rfl m2 k2 b2 .nil aK (aA (aQ bN (pv 0) (pv 3) (fun _ _=>rfl)) (aA (bU (pv 2) rfl) (aA (dI (v:=.ref aO) rfl mON rfl) aB)))))
  (aC (bQ (aG G2 r4 rfl m2 k2 b2 .nil aK (aA (aQ bN (pv 0) (pv 3) (fun _ _=>rfl)) (aA (bU (pv 2) rfl) (aA (aG G3 r3 rfl m3 k3 b3 .nil aK (aA (dI (v:=.ref aN) rfl mNO rfl) (aA (dI (v:=.ref aO) rfl mON rfl) aB))) aB)))))
  (aF (jU (bU (pv 2) rfl) (oE (pv 1) (pv 3) iT)))))),?_⟩
 have fp:Fq K H zz p:=fp;obtain⟨i0,i1,j0,j1⟩:cO (w:Int) u v:=pt;obtain⟨uN,rfl⟩:∃uN:Nat,u=(uN:Int):=⟨u.toNat,by lia⟩
 obtain⟨vN,rfl⟩:∃vN:Nat,v=(vN:Int):=⟨v.toNat,by lia⟩
 have pt':cO (w:Int) (uN:Int) (vN:Int):=⟨i0,i1,j0,j1⟩
 obtain⟨ln,bn,_⟩:=kK jK iX;have lam:=mx.la;refine⟨_,rfl,_,rfl,_,rfl,D,x,aO,_,as,M,(k0,(uN:Int),(vN:Int),p),w,n,1,c,(1,1),rfl,mx,mb,rw,pt',hc,fO _,jK,iX,by lia,fun H1 sx1 mx1=>?_⟩;have lst:=mx.lsts;have rw1:=sx1.rw lst rw;have fp1:Fq K H1 zz p:=sx1.seqT lst fp;have eR1:=sx1 _ _ eR nRa;have FR1:=SX.fqs lst sx1 hFR;obtain⟨mb1,_⟩:=Bp (d:=(k0,(uN:Int),(vN:Int),p)) mb pt' hc jK iX;generalize hM1:en M (k0,(uN:Int),(vN:Int),p) c (1,1)=M1 at mx1 mb1;obtain⟨ac,hac⟩:∃ac,as[c]?=some ac:=⟨_,getElem?_eq_getElem (by rw[lam,mb.h];exact hc)⟩
 have atc:atI (as.map V.ref) (c:Int)=some (.ref ac):=bV (by rw[getElem?_map,hac];rfl);obtain⟨e1,m1,w1⟩:=mb1.row hc;obtain⟨_,l2,b2⟩:=mb1.at hc (j:=uN) (by lia);obtain⟨xs,hxs,hF⟩:=mx1.r c ac _ hac e1;obtain⟨dx1,hx1⟩:=id rw1;refine⟨_,rfl,_,rfl,D,_,_,_,rfl,rfl,SqL.of mx1.d,atc,_,rfl,x,CK _,_,_,_,rfl,hx1,T.cl _,T.nS _,dC _ _ _,ac,aO,uN,xs,_,(1,1),n+2*1+4,1,rfl,hxs,hF,by rw[w1];lia,l2.pos,b2,fO _,h11,iX,by lia,fun v1 H2 s2 f2=>?_⟩;obtain⟨mx3,sx3⟩:=mx1.set (j:=uN) hac e1 hxs hF s2 f2;have lst1:=mx1.lsts;generalize upd H2 ac (.lst (xs.set uN (.ref v1)))=H3 at mx3 sx3 ⊢;have mb3:=mb1.rz hc (j:=uN) (by lia) jK iX;have mx3:Mx K H3 D as (rz M1 c uN (1,1)):=mx3;have rw3:=sx3.rw lst1 rw1;have fp3:Fq K H3 zz p:=sx3.seqT lst1 fp1;have eR3:=sx3 _ _ eR1 nRa;have FR3:=SX.fqs lst1 sx3 FR1;generalize hM3:rz M1 c uN (1,1)=M3 at mx3 mb3;obtain⟨e3,m3,w3⟩:=mb3.row hc;obtain⟨_,l4,b4⟩:=mb3.at hc (j:=vN) (by lia);obtain⟨xs3,hxs3,hF3⟩:=mx3.r c ac _ hac e3;obtain⟨dx3,hx3⟩:=id rw3;refine⟨_,rfl,_,rfl,D,_,_,_,rfl,rfl,SqL.of mx3.d,atc,_,rfl,x,CK _,_,_,_,rfl,hx3,T.cl _,T.nG _,eO _ _ _,aN,aO,(0,1),(1,1),1,1,rfl,fN _,fO _,by decide,h11,⟨show (0:Nat) < 2 ^ 1 by decide,show (1:Nat) < 2 ^ 1 by decide⟩,iX,by lia,fun v4 H4 s4 e4=>?_⟩;refine⟨ac,v4,vN,xs3,_,_,n+2*1+4+1+1,1+2,rfl,s4 _ _ hxs3,hF3.same s4,by rw[w3];lia,l4.pos,b4,Fq.of e4,ln.pos,bn,by lia,fun v5 H5 s5 f5=>?_⟩;obtain⟨mx6,sx6⟩:=(mx3.same s4).set (j:=vN) hac e3 (s4 _ _ hxs3) (hF3.same s4) s5 f5;have sx36:=(aY.sx (as:=as) s4).trans sx6;have lst3:=mx3.lsts;generalize upd H5 ac (.lst (xs3.set vN (.ref v5)))=H6 at mx6 sx6 sx36 ⊢;have mx6:Mx K H6 D as (rz M3 c vN (Mq.minus (0,1) (1,1))):=mx6;have rw6:=sx36.rw lst3 rw3;have fp6:Fq K H6 zz p:=sx36.seqT lst3 fp3;have eR6:=sx36 _ _ eR3 nRa;have FR6:=SX.fqs lst3 sx36 FR3;obtain⟨dx6,hx6⟩:=id rw6;have ly:=FR6.length;refine⟨_,rfl,x,CK _,_,_,_,rfl,hx6,T.cl _,T.nZ _,eJ _ _ _,_,rfl,_,rfl,R,ys,_,c,rfl,rfl,eR6,kN (by lia),?_⟩;have eM:hM M (k0,(uN:Int),(vN:Int),p) c=rz M3 c vN (Mq.minus (0,1) (1,1)):=by rw[<- hM3,<- hM1];rfl
 have mx7:=mx6.other (o:=.lst (ys.set c (.ref zz))) eR6 nRD nRa;rw[<- eM] at mx7;refine q _ _ ?_ mx7 aE ((Fqs.set fp6 c FR6).upd eR6);refine SX.write (SX.mono (sx1.trans (sx3.trans sx36)) fun x hx=>mem_cons_of_mem _ hx) (by simp)
theorem oM {K:Frag}{H:Hp}{t:Addr}{p:Q2}(f:Fq K H t p):∀n,Fqs K H (replicate n (.ref t)) (replicate n p)
 |0=>.nil
 |n+1=>.cons f (oM f n)
theorem pF (x:V):∀n,(replicate n [x]).flatten=replicate n x
 |0=>rfl
 |n+1=>by rw[replicate_succ,flatten_cons,pF x n];rfl
theorem vG (xs:List V)(k:Nat):kZ xs (some (k:Int)) none=xs.drop k:=by
 unfold kZ;have h1:HT.sIx xs.length xs.length none=xs.length:=rfl;have h2:HT.sIx xs.length 0 (some (k:Int))=min k xs.length:=by simp[HT.sIx];lia
 rw[h1,h2]
 by_cases h:k<=xs.length
 ·rw[Nat.min_eq_left h,take_of_length_le (by simp)]
 ·rw[Nat.min_eq_right (by lia),drop_of_length_le (Nat.le_refl _),drop_of_length_le (by lia)];simp
theorem Ps (xs:List V):kZ xs (some 1) none=xs.drop 1:=vG xs 1
theorem Ip {X:Cx}{K:Frag}(h:X.K=K):SlR X (qa3 K):=by subst h;exact kO
theorem sK (R:List Q2)(j:Nat):(R.drop 1).getD j (0,1)=R.getD (j+1) (0,1):=by
 rw[getD_eq_getElem?_getD,getElem?_drop,Nat.add_comm 1 j,getD_eq_getElem?_getD]
theorem Jt (M:List (List Q2))(i j:Nat):jN ((M.drop 1).map (List.drop 1)) i j=jN M (i+1) (j+1):=by
 have e:((M.drop 1).map (List.drop 1)).getD i []=(M.getD (i+1) []).drop 1:=by
  rw[getD_eq_getElem?_getD,getElem?_map,getElem?_drop,Nat.add_comm 1 i,getD_eq_getElem?_getD]
  cases M[i+1]?<;>rfl
 unfold jN;rw[e,sK]
theorem Pg {M:List (List Q2)}{w n:Nat}(b:MxB M w w n):MxB ((M.drop 1).map (List.drop 1)) (w - 1) (w - 1) n:=by
 refine⟨by rw[length_map,length_drop,b.h],fun ps hp=>?_,fun ps hp p hp'=>?_⟩
 ·obtain⟨qs,hq,rfl⟩:=mem_map.mp hp;rw[length_drop,b.w _ (mem_of_mem_drop hq)]
 ·obtain⟨qs,hq,rfl⟩:=mem_map.mp hp;exact b.l _ (mem_of_mem_drop hq) _ (mem_of_mem_drop hp')
theorem Lp {R:List Q2}{w n:Nat}(b:LnB R w n):LnB (R.drop 1) (w - 1) n:=⟨by rw[length_drop,b.w],fun p hp=>b.l p (mem_of_mem_drop hp)⟩
theorem Ub (w:Nat):MxB (replicate w (replicate w (0,1))) w w 1:=by
 refine⟨length_replicate,fun ps hp=>?_,fun ps hp p hp'=>?_⟩
 ·rw[eq_of_mem_replicate hp,length_replicate]
 ·rw[eq_of_mem_replicate hp] at hp';rw[eq_of_mem_replicate hp'];exact⟨⟨by decide,by decide⟩,⟨show (0:Nat) < 2 ^ 1 by decide,show (1:Nat) < 2 ^ 1 by decide⟩⟩
theorem uZ (w j:Nat):(replicate w ((0,1):Q2)).getD j (0,1)=(0,1):=by
 rw[getD_eq_getElem?_getD]
 cases e:(replicate w ((0,1):Q2))[j]? with
 |none=>rfl
 |some p=>exact eq_of_mem_replicate (mem_of_getElem? e)
theorem Mp (w i j:Nat):jN (replicate w (replicate w (0,1))) i j=(0,1):=by
 have e:(replicate w (replicate w ((0,1):Q2))).getD i []=[]\/(replicate w (replicate w ((0,1):Q2))).getD i []=replicate w (0,1):=by
  rw[getD_eq_getElem?_getD]
  cases e:(replicate w (replicate w ((0,1):Q2)))[i]? with
  |none=>exact .inl rfl
  |some ps=>exact .inr (eq_of_mem_replicate (mem_of_getElem? e))
 unfold jN;rcases e with e | e
 ·rw[e];rfl
 ·rw[e];exact uZ w j
theorem Uu (w:Nat):LnB (replicate w (0,1)) w 1:=⟨length_replicate,fun p hp=>by
 rw[eq_of_mem_replicate hp];exact⟨⟨by decide,by decide⟩,⟨show (0:Nat) < 2 ^ 1 by decide,show (1:Nat) < 2 ^ 1 by decide⟩⟩⟩
theorem Nt {ds:List RD}(i:Nat):bG (ds.take i)<=bG ds:=by
 have h:bG ds=bG (ds.take i)+bG (ds.drop i):=by
  unfold bG eT;rw[<- List.length_append,<- filter_append,take_append_drop]
 lia
theorem Wz:(["row"]:List Str).Nodup:=by decide +kernel
theorem uX:(["line","width"]:List Str).Nodup:=by decide +kernel
theorem Rv:(["line"]:List Str).Nodup:=by decide +kernel
theorem Fqs.drop1 {K:Frag}{H:Hp}:∀{xs:List V} {ps:List Q2},Fqs K H xs ps->Fqs K H (xs.drop 1) (ps.drop 1)
 |_,_,.nil=>.nil
 |_,_,.cons _ q=>q
abbrev Xt:Stmt:=top 61
theorem pE:aP ["net","rows","many","width","matrix","right","held","row"] ["net"] (aH Xt):=sK9 rfl rfl rfl rfl (by decide +kernel)
theorem Wq {dV:Value}(F:aV K "equations" "equations" Xt dV f fd){CN:Addr}(NTx:NT K mg CN)(T:RT K mg CR CK)(ml:mg "len"=none)(mr:mg "range"=none){aN:Addr}(fN:∀H,Fq K H aN (0,1))(mNO:mI9 mg "NOUGHT" aN)(GW:∀k,aL P w K mg base CX0 1 (fW k) (fdW k) ["self"] (jL k))(bW:∀k,aM K (fdW k) ["self"] [])(mW:∀k,gE K (CK k) "word" (fW k)){gRo:Addr}{gdRo:FuncData}(GRo:aL P w K mg base CX0 4 gRo gdRo ["self"] (nU CN K CK))(bRo:aM K gdRo ["self"] [])(mRo:gE K CN "rows" gRo){gMa:Addr}{gdMa:FuncData}(GMa:aL P w K mg base CX0 1 gMa gdMa ["self"] (zK CN K))(bMa:aM K gdMa ["self"] [])(mMa:gE K CN "many" gMa)(G1:aL P w K mg base CX0 6 g1 gd1 ["matrix","row"] (Bu K CK))(b1:aM K gd1 ["matrix","row"] [])(k1:kI9 K g1)(m1:mI9 mg "enter_piece" g1)(G2:aL P w K mg base CX0 5 g2 gd2 ["right","row"] (vK K CK))(b2:aM K gd2 ["right","row"] [])(k2:kI9 K g2)(m2:mI9 mg "enter_push" g2)(G3:aL P w K mg base CX0 6 g3 gd3 ["matrix","right","row","column"] (zX K CK))(b3:aM K gd3 ["matrix","right","row","column"] [])(k3:kI9 K g3)(m3:mI9 mg "enter_hold" g3) :
  aL P w K mg base CX 7 f fd ["net"] (Pp CN K):=by
 refine F.ok pE (fun vs H Q E h=>?_) fun cdv A outer s H vs Q E hr h=>?_
 ·obtain⟨_,_,_,_,_,_,rfl,_⟩:=h;rfl
 obtain⟨n,l,m,kb,wb,ds,rfl,nt,hK,hm1,hm20,h40,hbig,q⟩:=h;have r1:=hr.mono (show 1<=6 by lia);have r4:=hr.mono (show 4<=6 by lia);have r5:=hr.mono (show 5<=6 by lia);refine⟨_,(aC (aR (i:=1) pE.nd rfl (Or.inl rfl) (fE (pv 0) NTx.cl mRo GRo r4 bRo .nil aK))
  (aC (aR (i:=2) pE.nd rfl (Or.inl rfl) (fE (pv 0) NTx.cl mMa GMa r1 bMa .nil aK))
  (aC (aR (i:=3) pE.nd rfl (Or.inr rfl) (aU cZ (pv 2) (cN bX rfl ml PySem.boot_len (aA (dW (nl:=1) (fr:=[]) (Nc:=["row"]) (cl:=[]) rfl ⟨rfl,rfl,by decide +kernel,by decide +kernel,fun x c h=>(by cases h),fD rfl,rfl,fun i n h=>(by simp at h)⟩
    (cW (pv 1)) (fun C s3 H3 fp pins=>(aZ (i:=0) Wz rfl (Or.inl rfl))) (fun C s3 H3 fp pins=>(qT (bF dZ (fI (pv 0) T.cl mW GW r1 bW .nil aK) cH (bM _))))
    (fun C s3 H3 fp pins=>(pv 0))) aB))))
  (aC (Fe (i:=4) (nl:=1) (fr:=[3]) (Nc:=["line","width"]) (cl:=[("width",s.heap.objs.size+1)]) pE.nd rfl rfl rfl ⟨rfl,rfl,by decide +kernel,by decide +kernel,fun x c h=>h,fD rfl,rfl,fun i n h=>match i,h with | 0,h=>by cases h;exact⟨3,rfl,rfl,rfl,rfl,.inl rfl⟩ | k+1,h=>by rw[show 1+(k+1)=k+2 by lia] at h;cases h⟩
    (hG rfl mr (aA (pv 3) aB)) (fun C s3 H3 fp pins=>(aZ (i:=0) uX rfl (Or.inl rfl))) (fun C s3 H3 fp pins=>fC)
    (fun C s3 H3 fp pins=>(aU Ck (dH (aA (dI (v:=.ref aN) rfl mNO rfl) aB)) (pv 1))) rfl)
  (aC (aR (i:=5) pE.nd rfl (Or.inl rfl) (aU Ck (dH (aA (dI (v:=.ref aN) rfl mNO rfl) aB)) (pv 3)))
  (aC (aR (i:=6) pE.nd rfl (Or.inl rfl) (pv 2))
  (aC (dQ PassesOwn.never rfl (cW (pv 1)) (aZ (i:=7) pE.nd rfl (Or.inl rfl))
   (aF (cC (bF dZ (fI (pv 7) T.cl mW GW r1 bW .nil aK) cH (bM _)) (aF (bQ (aG G1 hr rfl m1 k1 b1 .nil aK (aA (pv 4) (aA (pv 7) aB))))) (aF (cC (bF dZ (fI (pv 7) T.cl mW GW r1 bW .nil aK) cH (bM _)) (aF (bQ (aG G2 r5 rfl m2 k2 b2 .nil aK (aA (pv 5) (aA (pv 7) aB))))) (aC (bQ (aG G3 hr rfl m3 k3 b3 .nil aK (aA (pv 4) (aA (pv 5) (aA (pv 7) (aA (pv 6) aB))))))
  (aF (Dx (i:=6) pE.nd rfl (Or.inl rfl) aD Da))))))))
  (aF (aX (dP (aA (dW (nl:=1) (fr:=[]) (Nc:=["line"]) (cl:=[]) rfl ⟨rfl,rfl,by decide +kernel,by decide +kernel,fun x c h=>(by cases h),fD rfl,rfl,fun i n h=>(by simp at h)⟩
    (cW (jC kO (pv 4) (iK aD) oX)) (fun C s3 H3 fp pins=>(aZ (i:=0) Rv rfl (Or.inl rfl))) (fun C s3 H3 fp pins=>fC)
    (fun C s3 H3 fp pins=>(jC (Ip (K:=K) rfl) (pv 0) (iK aD) oX))) (aA (jC kO (pv 5) (iK aD) oX) aB)))))))))))),?_⟩
 obtain⟨dx,hn⟩:=nt.ob;refine⟨_,rfl,n,dx,_,rfl,hn,fF _ _ (by decide +kernel) (by decide +kernel),n,l,_,ds,rfl,nt,by lia,fun a xs H1 s1 na ea Rb=>?_⟩;have lxs:=Rb.length;obtain⟨dx1,hn1⟩:=(nt.same s1).ob;refine⟨_,rfl,n,dx1,_,rfl,hn1,fF _ _ (by decide +kernel) (by decide +kernel),n,l,_,ds,rfl,nt.same s1,?_⟩;refine⟨_,rfl,_,rfl,a,rfl,⟨_,SqL.of ea⟩,fun C0 hC0=>?_⟩;have sC0:=aI hC0 (.lst []);refine dR (xs:=xs) (fun i zs H'=>aY H1 H'/\H' C0=some (.lst zs)/\zs.length=bG (ds.take i)) ⟨sC0,aE,rfl⟩ (fun i zs H' h=>h.2.1) (fun i zs H' _ h=>h.1.seq (SqL.of ea)) ?_ ?_
 ·rintro i zs x H2 hx ⟨s2,e2,lz⟩ C hC;have hi:i < ds.length:=by
   have:=(List.getElem?_eq_some_iff.mp hx).1;lia
  obtain⟨⟨k0,u,v,p⟩,hd⟩:∃d,ds[i]?=some d:=⟨_,getElem?_eq_getElem hi⟩
  obtain⟨y,z,ey,rw,fz⟩:=Rb.at hd;have ex:x=.ref y:=by rw[ey] at hx;exact(Option.some.inj hx).symm
  subst ex;obtain⟨dr,hy⟩:=id (rw.same s2);have et:ds.take (i+1)=ds.take i++[(k0,u,v,p)]:=by rw[take_add_one,hd];rfl
  have lh:=Nt (ds:=ds) i;have lh2:bG ds<=ds.length:=length_filter_le _ _;refine⟨fQ.1,fQ.2,?_⟩;refine⟨_,rfl,k0,y,dr,_,rfl,hy,(dG _ _ _ (by decide +kernel) (by decide +kernel) (by decide +kernel)),_,rfl,rfl,_,rfl,?_⟩
  by_cases hk:k0=.ho
  ·refine ifT (by show decide (V.str k0.wd=V.str Kd.ho.wd)=true;rw[bY];exact decide_eq_true hk) ⟨_,rfl,e2,bC (by lia),hC _ _ ⟨s2.change hC0,aE,?_⟩⟩;rw[et,iD,List.length_append,lz];show _+1=_+bL k0;unfold bL;rw[if_pos hk]
  ·refine ifF (by show decide (V.str k0.wd=V.str Kd.ho.wd)=false;rw[bY];exact decide_eq_false hk) (hC _ _ ⟨s2,e2,?_⟩);rw[et,iD,lz];show _=_+bL k0;unfold bL;rw[if_neg hk];rfl
 rintro zs0 H2 ⟨s2,e2,lz0⟩;rw[lxs,take_length] at lz0;refine⟨C0,zs0,rfl,.inl (SqL.of e2),_,_,rfl,rfl,?_⟩;obtain⟨W,hW⟩:∃W:Nat,W=m+bG ds:=⟨_,rfl⟩
 have lh2:bG ds<=ds.length:=length_filter_le _ _;have eW:(m:Int)+(zs0.length:Int)=(W:Int):=by rw[lz0,hW];lia
 show gO _ _ _ [some (.ref n),some (.ref a),some (.int (m:Int)),some (.int ((m:Int)+(zs0.length:Int))),none,none,none,none] H2;rw[eW];have hW60:W<=60:=by lia
 have hmW:m<=W:=by lia
 have s12:=s2;clear e2 sC0;refine⟨_,rfl,(W:Int),rfl,by lia,by lia,fun D hD=>?_⟩;rw[Int.toNat_natCast];have sD:=aI hD (.lst []);refine uA (n:=W) (fun i zs H'=>aY H2 H'/\H' D=some (.lst zs)/\∃as:List Addr,zs=as.map V.ref/\as.length=i/\as.Nodup/\D∉as/\(∀b∈as,H2 b=none)/\∀b∈as,H' b=some (.lst (replicate W (.ref aN)))) ⟨sD,aE,[],rfl,rfl,nodup_nil,(by simp),(fun b hb=>by cases hb),(fun b hb=>by cases hb)⟩ (fun i zs H' h=>h.2.1) ?_ ?_
 ·rintro i zs H3 hi ⟨s3,e3,as,rfl,la,nd,nD,fr,al⟩ C hC;refine⟨fQ.1,fQ.2,gL ?_⟩;refine⟨zl9 1,fun l1 hl1=>?_⟩;have s4:=aI hl1 (.lst [.ref aN]);have e4:upd H3 l1 (.lst [.ref aN]) l1=some (.lst [.ref aN]):=aE;generalize upd H3 l1 (.lst [.ref aN])=H4 at s4 e4 ⊢;refine⟨_,rfl,l1,(W:Int),[.ref aN],rfl,rfl,e4,by lia,by lia,?_,fun b hb=>?_⟩
  ·rw[Int.toNat_natCast,sizeLine_eq];simp only[length_cons,length_nil];lia
  rw[Int.toNat_natCast,pF];have s5:=aI hb (.lst (replicate W (.ref aN)));have e5:upd H4 b (.lst (replicate W (.ref aN))) b=some (.lst (replicate W (.ref aN))):=aE;generalize upd H4 b (.lst (replicate W (.ref aN)))=H5 at s5 e5 ⊢;have s35:=s4.trans s5;have e35:=s35 _ _ e3;have nbD:b≠D:=Ne.symm (bA (s4 _ _ e3) hb);have nba:b∉as:=fun z=>by rw[s4 _ _ (al b z)] at hb;cases hb
  refine⟨e35,bC (by rw[length_map];lia),hC _ _ ⟨(s3.trans s35).change hD,aE,as++[b],by rw[map_append];rfl,by rw[List.length_append,la];rfl,?_,?_,fun c hc=>?_,fun c hc=>?_⟩⟩
  ·rw[nodup_append];refine⟨nd,by simp,fun x hx y hy z=>?_⟩;have:y=b:=by simpa using hy
   exact nba (by rw[<- this,<- z];exact hx)
  ·intro z;rcases mem_append.mp z with z | z
   ·exact nD z
   ·have:D=b:=by simpa using z
    exact nbD this.symm
  ·rcases mem_append.mp hc with z | z
   ·exact fr c z
   ·have:c=b:=by simpa using z
    rw[this];exact(s3.trans s4).free hb
  ·rcases mem_append.mp hc with z | z
   ·rw[aW (fun y=>nD (by rw[<- y];exact z))];exact s35 _ _ (al c z)
   ·have:c=b:=by simpa using z
    rw[this,aW nbD];exact e5
 rintro zs3 H3 ⟨s3,e3,as,rfl,la,nd,nD,fr,al⟩;have mx3:Mx K H3 D as (replicate W (replicate W (0,1))):=⟨e3,nd,nD,by rw[la,length_replicate],fun i b ps h1 h2=>by
  rw[eq_of_mem_replicate (mem_of_getElem? h2)];exact⟨_,al b (mem_of_getElem? h1),oM (fN _) W⟩⟩
 have nDH:H2 D=none:=hD;refine⟨zl9 1,fun l1 hl1=>?_⟩;have s4:=aI hl1 (.lst [.ref aN]);have e4:upd H3 l1 (.lst [.ref aN]) l1=some (.lst [.ref aN]):=aE;generalize upd H3 l1 (.lst [.ref aN])=H4 at s4 e4 ⊢;refine⟨_,rfl,l1,(W:Int),[.ref aN],rfl,rfl,e4,by lia,by lia,?_,fun R hR=>?_⟩
 ·rw[Int.toNat_natCast,sizeLine_eq];simp only[length_cons,length_nil];lia
 rw[Int.toNat_natCast,pF];have s5:=aI hR (.lst (replicate W (.ref aN)));have e5:upd H4 R (.lst (replicate W (.ref aN))) R=some (.lst (replicate W (.ref aN))):=aE;generalize upd H4 R (.lst (replicate W (.ref aN)))=H5 at s5 e5 ⊢;have s25:=s3.trans (s4.trans s5);have nRH:H2 R=none:=(s3.trans s4).free hR;have nRD:R≠D:=Ne.symm (bA ((s4) _ _ mx3.d) hR);have nRa:R∉as:=fun z=>by rw[s4 _ _ (al R z)] at hR;cases hR
 have mx5:=(mx3.same s4).same s5;have allN:∀b∈R :: as,H2 b=none:=fun b hb=>by
  rcases mem_cons.mp hb with z | z
  ·rw[z];exact nRH
  ·exact fr b z
 have F5:Fqs K H5 (replicate W (.ref aN)) (replicate W (0,1)):=oM (fN _) W;refine⟨_,rfl,?_⟩;have eaH:=s12 _ _ ea;have Rb2:=Rb.same s12;refine⟨_,rfl,a,rfl,⟨_,SqL.of (s25 _ _ eaH)⟩,?_⟩;refine gS (xs:=xs) (fun i σ H'=>aY H2 H'/\∃(M:List (List Q2)) (ys:List V) (rs:List Q2) (z7:Option V),σ=[some (.ref n),some (.ref a),some (.int (m:Int)),some (.int (W:Int)),some (.ref D),some (.ref R),some (.int ((m+bG (ds.take i):Nat):Int)),z7]/\Mx K H' D as M/\MxB M W W (jT wb i+1)/\H' R=some (.lst ys)/\Fqs K H' ys rs/\LnB rs W (jT wb i+1)/\(∀x y,Mq.val (jN M x y)=eqM m (ds.take i) x y)/\∀x,Mq.val (rs.getD x (0,1))=eqR m (ds.take i) x) ⟨s25,_,_,_,none,rfl,mx5,Ub W,e5,F5,Uu W,fun x y=>by rw[Mp,kU];rfl,fun x=>by rw[uZ,kU];rfl⟩ (fun i σ H' _ h=>h.1.seq (SqL.of eaH)) ?_ ?_
 ·rintro i x σ H6 hx ⟨s6,M,ys,rs,z7,rfl,mx,mb,eR,FR,lb,vM,vR⟩;have hi:i < ds.length:=by
   have:=(List.getElem?_eq_some_iff.mp hx).1;lia
  obtain⟨⟨k0,u,v,p⟩,hd⟩:∃d,ds[i]?=some d:=⟨_,getElem?_eq_getElem hi⟩
  obtain⟨y,z,ey,rw0,fz0⟩:=Rb2.at hd;have ex:x=.ref y:=by rw[ey] at hx;exact(Option.some.inj hx).symm
  subst ex;obtain⟨rd,bp,wpu,wot⟩:=hK i _ hd;have lp:Low p:=rd.2.2.2.2.1;have bp:Bd (kb i) p:=bp;have ptm:cO (m:Int) u v:=⟨rd.1,rd.2.1,rd.2.2.1,rd.2.2.2.1⟩
  have ptW:cO (W:Int) u v:=⟨rd.1,by have:=rd.2.1;show u < (W:Int);have h2:u < (m:Int):=this;lia,rd.2.2.1,by have h2:v < (m:Int):=rd.2.2.2.1;show v < (W:Int);lia⟩
  have rw6:=rw0.same s6;have fz6:Fq K H6 z p:=s6.fq fz0;obtain⟨dr,hy⟩:=id rw6;have et:ds.take (i+1)=ds.take i++[(k0,u,v,p)]:=by rw[take_add_one,hd];rfl
  have hh:=Nt (ds:=ds) (i+1);rw[et,iD] at hh;have hh:bG (ds.take i)+bL k0<=bG ds:=hh;have eN:jT wb (i+1)+1=(jT wb i+1)+wb i:=by show jT wb i+wb i+1=_;lia
  have leN:jT wb i+wb i<=jT wb ds.length:=xF wb (i:=i+1) hi;have eM:∀x y,eqM m (ds.take (i+1)) x y=eqM m (ds.take i) x y+cM (k0,u,v,p) (m+bG (ds.take i)) x y:=fun x y=>by rw[et,Bx]
  have eRr:∀x,eqR m (ds.take (i+1)) x=eqR m (ds.take i) x+cR (k0,u,v,p) (m+bG (ds.take i)) x:=fun x=>by rw[et,Cb]
  have eH:bG (ds.take (i+1))=bG (ds.take i)+bL k0:=by rw[et,iD]
  rw[eN,eH];have lst:=mx.lsts
  cases k0 with
  |pc=>
   have wot:=wot (show Kd.pc≠Kd.pu by decide);have p0:0 < p.1:=rd.2.2.2.2.2.1 rfl;refine⟨_,rfl,Kd.pc,y,dr,_,rfl,hy,(dG _ _ _ (by decide +kernel) (by decide +kernel) (by decide +kernel)),_,rfl,rfl,_,rfl,ifT (by show decide (V.str Kd.pc.wd=V.str Kd.pc.wd)=true;rw[bY];rfl) ?_⟩;refine⟨_,rfl,_,rfl,D,y,z,as,M,(.pc,u,v,p),W,jT wb i+1,kb i,rfl,mx,mb,rw6,fz6,ptW,lp,p0,bp,by lia,fun H7 sx7 mx7=>?_⟩;obtain⟨mb7,v7⟩:=qf5 (d:=(.pc,u,v,p)) (h:=m+bG (ds.take i)) mb ptm hmW rfl lp p0 bp;have eR7:=sx7 _ _ eR nRa;refine⟨SX.same s6 sx7 fr,_,ys,rs,_,rfl,mx7,mb7.mono (by lia),eR7,SX.fqs lst sx7 FR,lb.mono (by lia),fun x y=>by rw[v7,vM,eM],fun x=>?_⟩;rw[vR,eRr];show _=_+(0:Rat)
   rw[Rat.add_zero]
  |pu=>
   have wpu:=wpu rfl;refine⟨_,rfl,Kd.pu,y,dr,_,rfl,hy,(dG _ _ _ (by decide +kernel) (by decide +kernel) (by decide +kernel)),_,rfl,rfl,_,rfl,ifF (by show decide (V.str Kd.pu.wd=V.str Kd.pc.wd)=false;rw[bY];rfl) ?_⟩;refine⟨_,rfl,Kd.pu,y,dr,_,rfl,hy,(dG _ _ _ (by decide +kernel) (by decide +kernel) (by decide +kernel)),_,rfl,rfl,_,rfl,ifT (by show decide (V.str Kd.pu.wd=V.str Kd.pu.wd)=true;rw[bY];rfl) ?_⟩;refine⟨_,rfl,_,rfl,R,y,z,ys,rs,(.pu,u,v,p),W,jT wb i+1,kb i,rfl,eR,FR,lb,rw6,fz6,ptW,lp,bp,by lia,fun ys' H7 sx7 eR7 F7=>?_⟩;obtain⟨lb7,v7⟩:=Wc (d:=(.pu,u,v,p)) (h:=m+bG (ds.take i)) lb ptm hmW rfl lp bp;have mx7:Mx K H7 D as M:=⟨sx7 _ _ mx.d (by simp;exact Ne.symm nRD),mx.n,mx.nd,mx.la,fun i' b ps h1 h2=>by
    obtain⟨ws,h,f⟩:=mx.r i' b ps h1 h2;refine⟨ws,sx7 _ _ h (by simp;exact fun z=>nRa (by rw[<- z];exact mem_of_getElem? h1)),SX.fqs (as:=[R]) (fun c hc=>?_) sx7 f⟩;have:c=R:=by simpa using hc
    exact⟨ys,by rw[this];exact eR⟩⟩
   refine⟨SX.same s6 sx7 (fun c hc=>by have:c=R:=(by simpa using hc);rw[this];exact nRH),M,ys',_,_,rfl,mx7,mb.mono (by lia),eR7,F7,lb7.mono (by lia),fun x y=>?_,fun x=>by rw[v7,vR,eRr]⟩;rw[vM,eM];show _=_+(0:Rat)
   rw[Rat.add_zero]
  |ho=>
   have wot:=wot (show Kd.ho≠Kd.pu by decide);have hc1:bL Kd.ho=1:=rfl;rw[hc1] at hh;have hcW:m+bG (ds.take i) < W:=by lia
   refine⟨_,rfl,Kd.ho,y,dr,_,rfl,hy,(dG _ _ _ (by decide +kernel) (by decide +kernel) (by decide +kernel)),_,rfl,rfl,_,rfl,ifF (by show decide (V.str Kd.ho.wd=V.str Kd.pc.wd)=false;rw[bY];rfl) ?_⟩;refine⟨_,rfl,Kd.ho,y,dr,_,rfl,hy,(dG _ _ _ (by decide +kernel) (by decide +kernel) (by decide +kernel)),_,rfl,rfl,_,rfl,ifF (by show decide (V.str Kd.ho.wd=V.str Kd.pu.wd)=false;rw[bY];rfl) ?_⟩;refine⟨_,rfl,_,rfl,_,rfl,_,rfl,D,R,y,z,as,M,ys,rs,(.ho,u,v,p),W,jT wb i+1,m+bG (ds.take i),rfl,mx,mb,eR,FR,lb.w,nRD,nRa,rw6,fz6,ptW,hcW,by lia,fun ys' H7 sx7 mx7 eR7 F7=>?_⟩;obtain⟨mb7,v7⟩:=qc7 (d:=(.ho,u,v,p)) mb ptm hmW hcW rfl;have z0:Mq.val (rs.getD (m+bG (ds.take i)) (0,1))=0:=by
    rw[vR];exact wP (m:=m) _ _ _ (fun d hd'=>by
     obtain⟨i1,hi1⟩:=getElem?_of_mem (mem_of_mem_take hd');have:=(hK i1 d hi1).ok;exact⟨this.1,this.2.1,this.2.2.1,this.2.2.2.1⟩) (Nat.le_refl _) (Nat.le_refl _)
   obtain⟨lb7,w7⟩:=qc3 (m:=m) (d:=(.ho,u,v,p)) lb hcW rfl lp bp z0;refine⟨_,rfl,_,_,rfl,rfl,?_⟩;refine⟨SX.same s6 sx7 allN,_,ys',_,some (.ref y),?_,mx7,mb7.mono (by lia),eR7,F7,lb7.mono (by lia),fun x y=>by rw[v7,vM,eM],fun x=>by rw[w7,vR,eRr]⟩;have e1:((m+bG (ds.take i):Nat):Int)+1=((m+(bG (ds.take i)+bL Kd.ho):Nat):Int):=by rw[hc1];lia
   rw[<- e1];rfl
 rintro σ H6 ⟨s6,M,ys,rs,z7,rfl,mx,mb,eR,FR,lb,vM,vR⟩;rw[lxs] at mb lb vM vR;rw[take_length] at vM vR;refine⟨_,rfl,1,rfl,D,_,rfl,SqL.of mx.d,fun C hC=>?_⟩;rw[Ps];have s7:=aI hC (.lst ((as.map V.ref).drop 1));have e7:upd H6 C (.lst ((as.map V.ref).drop 1)) C=some (.lst ((as.map V.ref).drop 1)):=aE;generalize upd H6 C (.lst ((as.map V.ref).drop 1))=H7 at s7 e7 ⊢;have mx7:=mx.same s7;refine⟨C,rfl,⟨_,SqL.of e7⟩,fun P hP=>?_⟩;have sP:=aI hP (.lst []);refine dR (xs:=(as.map V.ref).drop 1) (fun i zs H'=>aY H7 H'/\H' P=some (.lst zs)/\Fms K H7 H' zs (((M.drop 1).map (List.drop 1)).take i)/\∀x∈zs,x≠.ref P) ⟨sP,aE,⟨rfl,fun i x ps h=>by simp at h⟩,fun x hx=>by cases hx⟩ (fun i zs H' h=>h.2.1) (fun i zs H' _ h=>h.1.seq (SqL.of e7)) ?_ ?_
 ·rintro i zs x H8 hx ⟨s8,e8,fm,nP⟩ C' hC';rw[getElem?_drop,getElem?_map] at hx;obtain⟨b,hb,rfl⟩:=Option.map_eq_some_iff.mp hx;have bl':=(List.getElem?_eq_some_iff.mp hb).1;have hM1:1+i < M.length:=by rw[<- mx.la];exact bl'
  obtain⟨ws,hws,fws⟩:=(mx7.same s8).r (1+i) b M[1+i] hb (getElem?_eq_getElem hM1);have lz:=fm.l;rw[length_take,length_map,length_drop] at lz;have hM60:M.length<=60:=by rw[mb.h];exact hW60
  refine⟨fQ.1,fQ.2,gL ?_⟩;refine⟨_,rfl,1,rfl,b,_,rfl,SqL.of hws,fun c hc=>?_⟩;rw[Ps];have s9:=aI hc (.lst (ws.drop 1));have e9:upd H8 c (.lst (ws.drop 1)) c=some (.lst (ws.drop 1)):=aE;generalize upd H8 c (.lst (ws.drop 1))=H9 at s9 e9 ⊢;have e89:=s9 _ _ e8;have ncP:c≠P:=Ne.symm (bA e8 hc);refine⟨e89,bC (by lia),hC' _ _ ⟨(s8.trans s9).change hP,aE,⟨?_,fun j y ps h1 h2=>?_⟩,fun y hy=>?_⟩⟩
  ·rw[List.length_append,length_take,length_map,length_drop];simp only[length_cons,length_nil];lia
  ·have ee:((M.drop 1).map (List.drop 1))[i]?=some (M[1+i].drop 1):=by rw[getElem?_map,getElem?_drop,getElem?_eq_getElem hM1];rfl
   rw[take_add_one,ee] at h2
   by_cases hj:j < zs.length
   ·rw[getElem?_append_left hj] at h1;rw[getElem?_append_left (by rw[<- fm.l];exact hj)] at h2;obtain⟨a',xs',q1,q2,q3,q4⟩:=fm.r j y ps h1 h2;have na:a'≠P:=fun z=>nP y (mem_of_getElem? h1) (by rw[q1,z]);exact⟨a',xs',q1,q2,by rw[aW na];exact s9 _ _ q3,(q4.same s9).upd e89⟩
   ·rw[getElem?_append_right (by lia)] at h1;rw[getElem?_append_right (by rw[<- fm.l];lia),<- fm.l] at h2;have j0:j - zs.length=0:=by
     have:=(List.getElem?_eq_some_iff.mp h1).1;simp at this;lia
    rw[j0] at h1 h2;have h1:V.ref c=y:=by simpa using h1
    have h2:M[1+i].drop 1=ps:=by simpa using h2
    subst h1;rw[<- h2];exact⟨c,_,rfl,s8.free hc,by rw[aW ncP];exact e9,((Fqs.drop1 (fws.same s9))).upd e89⟩
  ·rcases mem_append.mp hy with z | z
   ·exact nP y z
   ·have:y=.ref c:=by simpa using z
    rw[this];exact fun z=>ncP (by injection z)
 rintro us H8 ⟨s8,e8,fm,nP⟩;rw[show ((as.map V.ref).drop 1).length=((M.drop 1).map (List.drop 1)).length by rw[length_drop,length_map,length_map,length_drop,mx.la],take_length] at fm;have s78:=s7.trans s8;have eR8:=s78 _ _ eR;refine⟨_,rfl,1,rfl,R,_,rfl,SqL.of eR8,fun r hr'=>?_⟩;rw[Ps];have s9:=aI hr' (.lst (ys.drop 1));have e9:upd H8 r (.lst (ys.drop 1)) r=some (.lst (ys.drop 1)):=aE;generalize upd H8 r (.lst (ys.drop 1))=H9 at s9 e9 ⊢;refine⟨zl9 2,fun t ht=>?_⟩;have sT:=aI ht (.tup [.ref P,.ref r]);have s9T:=s9.trans sT;have s0:aY H (upd H9 t (.tup [.ref P,.ref r])):=s1.trans (s12.trans (s6.trans (s78.trans s9T)));have s07:aY H H7:=s1.trans (s12.trans (s6.trans s7));have fl:∀c,H7 c=none->H c=none:=fun c h=>s07.free h;refine q t P r us (ys.drop 1) ((M.drop 1).map (List.drop 1)) (rs.drop 1) _ s0 aE (fl P hP) ((s07.trans s8).free hr') (s9T _ _ e8) (sT _ _ e9) ⟨fm.l,fun i x ps h1 h2=>?_⟩ (Fqs.drop1 (FR.same (s78.trans s9T))) (fun x hx=>⟨nP x hx,?_⟩) ⟨?_,?_,?_,?_⟩
 ·obtain⟨a',xs',q1,q2,q3,q4⟩:=fm.r i x ps h1 h2;exact⟨a',xs',q1,fl a' q2,s9T _ _ q3,q4.same s9T⟩
 ·intro z;obtain⟨i,hi⟩:=getElem?_of_mem hx;have il:i < ((M.drop 1).map (List.drop 1)).length:=by rw[<- fm.l];exact(List.getElem?_eq_some_iff.mp hi).1
  obtain⟨a',xs',q1,q2,q3,q4⟩:=fm.r i x _ hi (getElem?_eq_getElem il);rw[q1] at z;have:a'=r:=by injection z
  rw[<- this,q3] at hr'
  cases hr'
 ·have:=Pg mb
  rwa [show W - 1=m - 1+bG ds by lia] at this
 ·have:=Lp lb
  rwa [show W - 1=m - 1+bG ds by lia] at this
 ·intro i j;rw[Jt];exact vM _ _
 ·intro i;rw[sK];exact vR _
theorem mL {ec:List (Str × Addr)}:∀(x:Str) (c:Addr),([]:List (Str × Addr)).lookup x=some c->ec.lookup x=some c:=fun _ _ h=>by cases h
theorem eV {ec cl:List (Str × Addr)}{a:Str}{d:Addr}(h:ec.lookup a=some d)(r:∀x c,cl.lookup x=some c->ec.lookup x=some c):∀x c,((a,d) :: cl).lookup x=some c->ec.lookup x=some c:=fun x c e=>by
 rw[lookup_cons] at e
 cases q:x == a with
 |true=>rw[q] at e;rw[eq_of_beq q,h];exact e
 |false=>rw[q] at e;exact r x c e
theorem zI {X:Cx}{K:Frag}(h:X.K=K):IxR X (Sh K):=by subst h;exact aT
theorem rQ {X:Cx}{K:Frag}(h:X.K=K):IxR X (qe1 K):=by subst h;exact bN
abbrev Dk:Stmt:=top 32
theorem rD:aP ["rows","numbers","point","steps","number","row"] ["rows","numbers","point"] (aH Dk):=sK9 rfl rfl rfl rfl (by decide +kernel)
theorem Mu {dV:Value}(F:aV K "steps_from" "steps_from" Dk dV f fd)(T:RT K mg CR CK) :
  aL P w K mg base CX 1 f fd ["rows","numbers","point"] (Ff K CK):=by
 refine F.ok rD (fun vs H Q E h=>?_) fun cdv A outer s H vs Q E hr h=>?_
 ·obtain⟨_,_,_,_,_,_,rfl,_⟩:=h;rfl
 obtain⟨a,b,xs,ds,es,p,rfl,hA,Rb,hB,hE,h100,q⟩:=h;refine⟨_,(aC (aR (i:=3) rD.nd rfl (Or.inl rfl) (dH aB))
  (aC (dQ PassesOwn.never rfl (cW (pv 1)) (aZ (i:=4) rD.nd rfl (Or.inl rfl))
   (aC (aR (i:=5) rD.nd rfl (Or.inl rfl) (aQ bN (pv 0) (pv 4) (fun _ _=>rfl)))
  (aF (cC (bF dZ (bU (pv 5) rfl) (pv 2) (bM _)) (aF (bQ (kY PySem.F.plainAttrs_list PySem.F.slot_list_append PySem.F.type_list_append gC (pv 3) (aA (dP (aA (dP (aA (pv 4) (aA aD aB))) (aA (bU (pv 5) rfl) aB))) aB)))) (aF (cC (bF dZ (bU (pv 5) rfl) (pv 2) (bM _)) (aF (bQ (kY PySem.F.plainAttrs_list PySem.F.slot_list_append PySem.F.type_list_append gC (pv 3) (aA (dP (aA (dP (aA (pv 4) (aA (Oy Ef aD) aB))) (aA (bU (pv 5) rfl) aB))) aB)))) bH))))))
  (aF (aX (pv 3))))),?_⟩
 refine⟨zl9 0,fun l hl=>?_⟩;have s1:=aI hl (.lst []);have e1:upd H l (.lst []) l=some (.lst []):=aE;generalize upd H l (.lst [])=H1 at s1 e1 ⊢;refine⟨_,rfl,b,rfl,⟨_,s1.seq hB⟩,?_⟩;refine gS (xs:=es.map fun (e:Br)=>V.int ((e.1:Nat):Int)) (fun i σ H'=>aY H H'/\∃(ys:List V) (z4 z5:Option V),σ=[some (.ref a),some (.ref b),some (.int (p:Int)),some (.ref l),z4,z5]/\H' l=some (.lst ys)/\Sds K H' ys (stF (es.take i) p)) ⟨s1,[],none,none,rfl,e1,.nil⟩ (fun i σ H' _ h=>h.1.seq hB) ?_ ?_
 ·rintro i x σ H2 hx ⟨s2,ys,z4,z5,rfl,e2,S2⟩;rw[getElem?_map] at hx;obtain⟨e,he,rfl⟩:=Option.map_eq_some_iff.mp hx;have hi:i < es.length:=(List.getElem?_eq_some_iff.mp he).1;obtain⟨⟨k,u,v,q'⟩,hd,eu,ev⟩:=hE e (mem_of_getElem? he);have eu:u=(e.2.1:Int):=eu;have ev:v=(e.2.2:Int):=ev;subst eu;subst ev;obtain⟨y,z,ey,rw0,fz⟩:=Rb.at hd;have rw2:=rw0.same s2;obtain⟨dx,hx2⟩:=id rw2;have at_:atI xs (e.1:Int)=some (.ref y):=bV ey;have ly:ys.length<=es.length:=by
   have h1:=S2.length;have h2:(stF (es.take i) p).length<=(es.take i).length:=length_filterMap_le _ _;rw[length_take] at h2;lia
  refine⟨_,rfl,_,rfl,a,xs,_,_,rfl,rfl,s2.seq hA,at_,?_⟩;refine⟨_,rfl,y,CK _,_,_,_,rfl,hx2,T.cl _,T.nS _,dC _ _ _,_,rfl,rfl,_,rfl,?_⟩
  by_cases c1:e.2.1=p
  ·have tk:stF (es.take (i+1)) p=stF (es.take i) p++[((e.1,1),e.2.2)]:=by
    unfold stF;rw[take_add_one,he,filterMap_append];show _++[e].filterMap _=_;rw[filterMap_cons,if_pos c1];rfl
   refine ifT (decide_eq_true (by rw[c1])) ?_;refine⟨_,rfl,.inl ⟨rfl,_,SqL.of e2⟩,_,rfl,zl9 2,fun u hu'=>?_⟩;have su:=aI hu' (.tup [.int (e.1:Int),.int (1)]);have eu:SqT K (upd H2 u (.tup [.int (e.1:Int),.int (1)])) u [.int (e.1:Int),.int (1)]:=SqT.of aE;generalize upd H2 u (.tup [.int (e.1:Int),.int (1)])=H3 at su eu ⊢;obtain⟨dx3,hx3⟩:=id (rw2.same su);refine⟨_,rfl,y,CK _,_,_,_,rfl,hx3,T.cl _,T.nG _,eO _ _ _,zl9 2,fun t ht=>?_⟩;rw[show (k,(e.2.1:Int),(e.2.2:Int),q').2.2.1=(e.2.2:Int) from rfl];have st:=aI ht (.tup [.ref u,.int (e.2.2:Int)]);have et:SqT K (upd H3 t (.tup [.ref u,.int (e.2.2:Int)])) t [.ref u,.int (e.2.2:Int)]:=SqT.of aE;generalize upd H3 t (.tup [.ref u,.int (e.2.2:Int)])=H4 at st et ⊢;have s24:=su.trans st;have e4:=s24 _ _ e2;refine⟨l,_,_,rfl,rfl,e4,bC (by lia),⟨(s2.trans s24).change hl,_,_,_,rfl,aE,?_⟩⟩;rw[tk];exact Sds.upd e4 ((S2.same s24).app (.cons et (st.seqT eu) .nil))
  ·refine ifF (decide_eq_false (fun z=>c1 (by have:(e.2.1:Int)=(p:Int):=(by injection z);lia))) ?_;refine⟨_,rfl,y,CK _,_,_,_,rfl,hx2,T.cl _,T.nG _,eO _ _ _,_,rfl,rfl,_,rfl,?_⟩
   by_cases c2:e.2.2=p
   ·have tk:stF (es.take (i+1)) p=stF (es.take i) p++[((e.1,-1),e.2.1)]:=by
     unfold stF;rw[take_add_one,he,filterMap_append];show _++[e].filterMap _=_;rw[filterMap_cons,if_neg c1,if_pos c2];rfl
    refine ifT (decide_eq_true (by rw[c2])) ?_;refine⟨_,rfl,.inl ⟨rfl,_,SqL.of e2⟩,_,rfl,_,rfl,zl9 2,fun u hu'=>?_⟩;have su:=aI hu' (.tup [.int (e.1:Int),.int (-1)]);have eu:SqT K (upd H2 u (.tup [.int (e.1:Int),.int (-1)])) u [.int (e.1:Int),.int (-1)]:=SqT.of aE;generalize upd H2 u (.tup [.int (e.1:Int),.int (-1)])=H3 at su eu ⊢;obtain⟨dx3,hx3⟩:=id (rw2.same su);refine⟨_,rfl,y,CK _,_,_,_,rfl,hx3,T.cl _,T.nS _,dC _ _ _,zl9 2,fun t ht=>?_⟩;rw[show (k,(e.2.1:Int),(e.2.2:Int),q').2.1=(e.2.1:Int) from rfl];have st:=aI ht (.tup [.ref u,.int (e.2.1:Int)]);have et:SqT K (upd H3 t (.tup [.ref u,.int (e.2.1:Int)])) t [.ref u,.int (e.2.1:Int)]:=SqT.of aE;generalize upd H3 t (.tup [.ref u,.int (e.2.1:Int)])=H4 at st et ⊢;have s24:=su.trans st;have e4:=s24 _ _ e2;refine⟨l,_,_,rfl,rfl,e4,bC (by lia),⟨(s2.trans s24).change hl,_,_,_,rfl,aE,?_⟩⟩;rw[tk];exact Sds.upd e4 ((S2.same s24).app (.cons et (st.seqT eu) .nil))
   ·have tk:stF (es.take (i+1)) p=stF (es.take i) p:=by
     unfold stF;rw[take_add_one,he,filterMap_append];show _++[e].filterMap _=_;rw[filterMap_cons,if_neg c1,if_neg c2];simp
    refine ifF (decide_eq_false (fun z=>c2 (by have:(e.2.2:Int)=(p:Int):=(by injection z);lia))) ⟨s2,ys,_,_,rfl,e2,?_⟩;rw[tk];exact S2
 rintro σ H2 ⟨s2,ys,z4,z5,rfl,e2,S2⟩;rw[length_map,take_length] at S2;exact⟨_,rfl,q l ys H2 s2 hl e2 S2⟩
theorem Xw {m:Nat}{es:List Br}{b:Nat}(hm:Ptm m es)(hb:b < m)(h20:m<=20){w:WS}(nd:(cD w).Nodup)(pt:∀x st,(x,st)∈w->∃pts,Pt es b st x pts/\∀y∈pts,y∈cD w){st:List Stp}{x:Nat}{pts:List Nat}(p:Pt es b st x pts)(k:∀y∈pts,y∈cD w):st.length<=20:=by
 have l:pts.length=st.length+1:=by
  induction p with
  |nil=>rfl
  |snoc h g n ih=>rw[List.length_append,List.length_append,ih fun y hy=>k y (mem_append_left _ hy)];rfl
 have nd':pts.Nodup:=by
  clear k l
  induction p with
  |nil=>simp
  |snoc h g n ih=>
   rw[nodup_append];refine⟨ih,by simp,fun x hx y hy z=>n ?_⟩;rw[mem_singleton] at hy;rw[<- hy,<- z];exact hx
 have:=Fm nd' fun y hy=>xN hm hb pt y (k y hy);lia
theorem We {es:List Br}{b p m j:Nat}{T:List (Stp × Nat)}{s:WS × List Nat}(hm:Ptm m es)(hb:b < m)(h20:m<=20)(h:WJ es b p [] s)(g:∀t∈T,oO es t.1 p t.2):((T.take j).foldl (inF p) s).2.length<=muF s:=by
 have:=yM hm hb h20 (T.take j) [] h fun t ht=>g t (mem_of_mem_take ht);unfold muF at this ⊢;lia
def muW (σ:St)(H:Hp):Nat:=match σ with
 | [_,_,_,_,some (.ref D),some (.ref W),_,_]=>match H D,H W with
  |some (.dK kvs),some (.lst q)=>2*(20 - kvs.length)+q.length
  |_,_=>0
 |_=>0
theorem Qt {H:Hp}{D W:Addr}{kvs:List (Key × V)}{q:List V}{a b c d e f:Option V}(h:H D=some (.dK kvs))(g:H W=some (.lst q)):muW [a,b,c,d,some (.ref D),some (.ref W),e,f] H=2*(20 - kvs.length)+q.length:=by
 show (match H D,H W with | some (.dK kvs),some (.lst q)=>2*(20 - kvs.length)+q.length | _,_=>0)=_;rw[h,g]
theorem Mz {q:List Nat}(h:q≠[]):(q.map fun (p:Nat)=>V.int (p:Int))[((q.map fun (p:Nat)=>V.int (p:Int))).length - 1]?=some (.int ((q.getLastD 0:Nat):Int))/\(q.map fun (p:Nat)=>V.int (p:Int)).dropLast=(q.dropLast.map fun (p:Nat)=>V.int (p:Int)):=by
 obtain⟨_,e⟩:=Hk h;generalize q.getLastD 0=x at e;generalize q.dropLast=r at e;subst e;rw[map_append];simp
abbrev Xq:Stmt:=top 31
theorem By:aP ["rows","numbers","begin","end","ways","waiting","point","step"] ["rows","numbers","begin","end"] (aH Xq):=sK9 rfl rfl rfl rfl (by decide +kernel)
theorem Yd {dV:Value}(F:aV K "way_along" "way_along" Xq dV f fd)(ml:mg "len"=none)(G1:aL P w K mg base CX0 1 g1 gd1 ["rows","numbers","point"] (Ff K CK))(b1:aM K gd1 ["rows","numbers","point"] [])(k1:kI9 K g1)(m1:mI9 mg "steps_from" g1) :
  aL P w K mg base CX 2 f fd ["rows","numbers","begin","end"] (Vu K CK):=by
 refine F.ok By (fun vs H Q E h=>?_) fun cdv A outer s H vs Q E hr h=>?_
 ·obtain⟨_,_,_,_,_,_,_,_,rfl,_⟩:=h;rfl
 obtain⟨a,b,xs,ds,es,m,f,t,rfl,hA,Rb,hB,hE,h100,hm,h20,hf,qN,qS⟩:=h;refine⟨_,(aC (aR (i:=4) By.nd rfl (Or.inl rfl) (Gk (mC (pv 2) (dH aB) Gn) rfl rfl (by simp) (by decide)))
  (aC (aR (i:=5) By.nd rfl (Or.inl rfl) (dH (aA (pv 2) aB)))
  (aC (uQ PassesOwn.never (bF Hw (cN bX rfl ml PySem.boot_len (aA (pv 5) aB)) aD (bM _))
   (aC (aR (i:=6) By.nd rfl (Or.inl rfl) (Wg PySem.F.plainAttrs_list PySem.F.slot_list_pop PySem.F.type_list_pop Ym (pv 5)))
   (aF (dQ PassesOwn.never rfl (cW (aG G1 hr rfl m1 k1 b1 .nil aK (aA (pv 0) (aA (pv 1) (aA (pv 6) aB))))) (aZ (i:=7) By.nd rfl (Or.inl rfl))
    (aF (cC (zN (Jq (zS hr) (aQ aT (pv 7) aD (fun _ _=>rfl)) (pv 4)))
     (aC (Sa (zS hr) (pv 4) (aQ aT (pv 7) aD (fun _ _=>rfl)) (aU yG (qV (zS hr) (pv 4) (pv 6) (fun _ _=>rfl)) (dH (aA (aQ aT (pv 7) aD (fun _ _=>rfl)) aB))) rfl)
     (aF (bQ (kY PySem.F.plainAttrs_list PySem.F.slot_list_append PySem.F.type_list_append gC (pv 5) (aA (aQ aT (pv 7) aD (fun _ _=>rfl)) aB)))))
     bH))))))
  (aF (aX (Lq (zS hr) (pv 4) (pv 3) ⟨rfl,rfl,rfl,rfl⟩)))))),?_⟩
 refine fun D hD=>?_;have sD:=aI hD (.dK []);have eD:upd H D (.dK []) D=some (.dK []):=aE;generalize upd H D (.dK [])=H1 at sD eD ⊢;refine⟨_,rfl,zl9 0,fun L hL=>?_⟩;have nLD:L≠D:=Ne.symm (bA eD hL);have nL:H L=none:=sD.free hL;have sL:=aI hL (.lst []);have eL:upd H1 L (.lst []) L=some (.lst []):=aE;generalize upd H1 L (.lst [])=H2 at sL eL ⊢;refine⟨sL _ _ eD,[((Sum.inl (f:Int):Key),V.ref L)],rfl,by show 1<=15;decide,?_⟩;have s3:aY H (upd H2 D (.dK (jM [] [((Sum.inl (f:Int):Key),V.ref L)]))):=(sD.trans sL).change hD;have e3:upd H2 D (.dK (jM [] [((Sum.inl (f:Int):Key),V.ref L)])) D=some (.dK [((Sum.inl (f:Int):Key),V.ref L)]):=aE;have eL3:upd H2 D (.dK (jM [] [((Sum.inl (f:Int):Key),V.ref L)])) L=some (.lst []):=by rw[aW nLD];exact eL
 generalize upd H2 D (.dK (jM [] [((Sum.inl (f:Int):Key),V.ref L)]))=H3 at s3 e3 eL3 ⊢;refine⟨_,rfl,zl9 1,fun W hW=>?_⟩;have nLW:L≠W:=bA eL3 hW;have nDW:D≠W:=bA e3 hW;have nW:H W=none:=s3.free hW;have sW:=aI hW (.lst [.int (f:Int)]);have eW:upd H3 W (.lst [.int (f:Int)]) W=some (.lst [.int (f:Int)]):=aE;generalize upd H3 W (.lst [.int (f:Int)])=H4 at sW eW ⊢;have s4:=s3.trans sW;have w4:Wys K H W H4 [((Sum.inl (f:Int):Key),V.ref L)] (cF es f 0).1:=.cons nL nLW (sW _ _ eL3) .nil .nil;refine rY (fun σ H'=>aY H H'/\∃(i:Nat) (kvs:List (Key × V)) (z6 z7:Option V),σ=[some (.ref a),some (.ref b),some (.int (f:Int)),some (.int (t:Int)),some (.ref D),some (.ref W),z6,z7]/\H' D=some (.dK kvs)/\H' W=some (.lst ((cF es f i).2.map fun (p:Nat)=>V.int (p:Int)))/\Wys K H W H' kvs (cF es f i).1/\i<=40) muW ⟨s4,0,_,none,none,rfl,sW _ _ e3,eW,w4,by lia⟩ ?_ ?_
 ·rintro σ H5 ⟨s5,i,kvs,z6,z7,rfl,e5,q5,w5,hi⟩;have lk:=w5.length;have wi:=kG es f i;have le20:=Oe hm hf wi.nd wi.pt;refine⟨_,rfl,W,_,rfl,.inl (SqL.of q5),_,_,rfl,rfl,_,rfl,?_⟩
  by_cases hq:(cF es f i).2=[]
  ·-- it ends
   rw[hq] at q5;refine ifF (by rw[hq];rfl) ?_;have e60:=Ts hq (by lia);refine⟨_,rfl,D,rfl,.inl ⟨kvs,.inl e5⟩,_,rfl,_,jY.k (k:=Sum.inl (t:Int)) e5,?_⟩
   by_cases c:t∈cD (cF es f i).1
   ·obtain⟨l,ys,st,ev,eg,nl,_,hl,f'⟩:=w5.some_ c;rw[ev];refine qS st ?_ l ys H5 s5 nl hl f';unfold uE;rw[e60];exact eg
   ·rw[(w5.none_ c).1];refine qN ?_ H5 s5;unfold uE;rw[e60];exact pO c
  ·have mu0:=Qt (a:=some (.ref a)) (b:=some (.ref b)) (c:=some (.int (f:Int))) (d:=some (.int (t:Int))) (e:=z6) (f:=z7) e5 q5;have hi39:i+muF (cF es f i)<=39:=by
    rcases qF hm hf h20 i with z | z
    ·exact absurd z hq
    ·exact z
   have stp:cF es f (i+1)=(stF es ((cF es f i).2.getLastD 0)).foldl (inF ((cF es f i).2.getLastD 0)) ((cF es f i).1,(cF es f i).2.dropLast):=by
    show kW es (cF es f i)=_;unfold kW;rw[if_neg hq]
   have iU:=Gh hm hf h20 wi hq;have iU:muF (cF es f (i+1))+1<=muF (cF es f i):=iU;have wj0:=sS wi hq;have pk:=wj0.kp;obtain⟨ml1,ml2⟩:=Mz hq;generalize hp:(cF es f i).2.getLastD 0=p at *
   have ll:0 < ((cF es f i).2.map fun (p:Nat)=>V.int (p:Int)).length:=by rw[length_map];exact length_pos_iff.mpr hq
   refine ifT (by show decide (0 < ((((cF es f i).2.map fun (p:Nat)=>V.int (p:Int)).length:Nat):Int))=true;exact decide_eq_true (by lia)) ?_;refine⟨_,rfl,.inl ⟨rfl,_,SqL.of q5⟩,W,_,_,rfl,rfl,q5,ml1,?_⟩;rw[ml2];have s6:aY H (upd H5 W (.lst ((cF es f i).2.dropLast.map fun (p:Nat)=>V.int (p:Int)))):=s5.change nW;have e6:upd H5 W (.lst ((cF es f i).2.dropLast.map fun (p:Nat)=>V.int (p:Int))) D=some (.dK kvs):=by rw[aW nDW];exact e5
   have q6:upd H5 W (.lst ((cF es f i).2.dropLast.map fun (p:Nat)=>V.int (p:Int))) W=some (.lst ((cF es f i).2.dropLast.map fun (p:Nat)=>V.int (p:Int))):=aE;have w6:=w5.updW (o:=.lst ((cF es f i).2.dropLast.map fun (p:Nat)=>V.int (p:Int))) q5;generalize upd H5 W (.lst ((cF es f i).2.dropLast.map fun (p:Nat)=>V.int (p:Int)))=H6 at s6 e6 q6 w6 ⊢;refine⟨_,rfl,_,rfl,_,rfl,a,b,xs,ds,es,p,rfl,s6.seq hA,Rb.same s6,s6.seq hB,hE,h100,fun l ys H7 s7 nl el S7=>?_⟩;have s07:=s6.trans s7;have nlW:l≠W:=Ne.symm (bA q6 nl);have nlD:l≠D:=Ne.symm (bA e6 nl);have nlH:H l=none:=s6.free nl;have lys:=S7.length;refine⟨l,rfl,⟨_,SqL.of el⟩,?_⟩;refine gS (xs:=ys) (fun j σ H'=>aY H H'/\H' l=some (.lst ys)/\Sds K H' ys (stF es p)/\∃(kvs:List (Key × V)) (z7:Option V),σ=[some (.ref a),some (.ref b),some (.int (f:Int)),some (.int (t:Int)),some (.ref D),some (.ref W),some (.int (p:Int)),z7]/\H' D=some (.dK kvs)/\H' W=some (.lst ((((stF es p).take j).foldl (inF p) ((cF es f i).1,(cF es f i).2.dropLast)).2.map fun (p:Nat)=>V.int (p:Int)))/\Wys K H W H' kvs (((stF es p).take j).foldl (inF p) ((cF es f i).1,(cF es f i).2.dropLast)).1) ⟨s07,el,S7,kvs,z7,rfl,s7 _ _ e6,s7 _ _ q6,w6.same s7⟩ (fun j σ H' _ h=>SqL.of h.2.1) ?_ ?_
   ·rintro j x σ H8 hx ⟨s8,el8,S8,kv8,z7',rfl,e8,q8,w8⟩;obtain⟨tt,u,s,rfl,es',hT,hU⟩:=S8.get hx;have hj:j < (stF es p).length:=(List.getElem?_eq_some_iff.mp es').1;have gs:oO es s.1 p s.2:=lK (mem_of_getElem? es');have wj:=zA ((stF es p).take j) [] wj0 fun z hz=>lK (mem_of_mem_take hz);have fold1:((stF es p).take (j+1)).foldl (inF p) ((cF es f i).1,(cF es f i).2.dropLast)=inF p (((stF es p).take j).foldl (inF p) ((cF es f i).1,(cF es f i).2.dropLast)) s:=by
     rw[take_add_one,es',foldl_append];rfl
    rw[fold1];have wj':=Gb wj gs;have le8:=Oe hm hf wj.nd wj.pt;have lS:=We hm hf h20 wj0 (j:=j) (T:=stF es p) (fun z hz=>lK hz);have mb:=Bs hq;generalize ((stF es p).take j).foldl (inF p) ((cF es f i).1,(cF es f i).2.dropLast)=S at q8 w8 wj wj' le8 lS ⊢;have lS2:S.2.length<=100:=by lia
    have lk8:=w8.length;obtain⟨⟨sn,sw⟩,sx⟩:=s;have hT:SqT K H8 tt [.ref u,.int (sx:Int)]:=hT;refine⟨_,rfl,tt,_,1,_,rfl,rfl,hT,rfl,_,rfl,D,_,rfl,jY.k (k:=Sum.inl (sx:Int)) e8,_,rfl,?_⟩
    by_cases c:sx∈cD S.1
    ·refine ifF (by rw[w8.isSome,decide_eq_true c];rfl) ⟨s8,el8,S8,kv8,_,rfl,e8,?_,?_⟩
     ·show H8 W=some (.lst ((inF p S ((sn,sw),sx)).2.map fun (p:Nat)=>V.int (p:Int)));unfold inF;rw[if_pos c];exact q8
     ·show Wys K H W H8 kv8 (inF p S ((sn,sw),sx)).1;unfold inF;rw[if_pos c];exact w8
    ·refine ifT (by rw[w8.isSome,decide_eq_false c];rfl) ?_;obtain⟨ap,xp,sp,ev,eg,nap,nwp,hap,fp⟩:=w8.some_ wj.kp;have lsp:=fp.length;have lsp2:sp.length<=20:=by
      obtain⟨pts,pt1,pt2⟩:=wj.pt p sp (gZ eg);exact Xw hm hf h20 wj.nd wj.pt pt1 pt2
     refine⟨_,rfl,_,rfl,D,.ref ap,rfl,(by have:=jY.k (k:=Sum.inl (p:Int)) e8;rw[ev] at this;exact this),?_⟩;refine⟨_,rfl,tt,_,0,_,rfl,rfl,hT,rfl,zl9 1,fun L1 hL1=>?_⟩;have s9:=aI hL1 (.lst [.ref u]);have e9:upd H8 L1 (.lst [.ref u]) L1=some (.lst [.ref u]):=aE;generalize upd H8 L1 (.lst [.ref u])=H9 at s9 e9 ⊢;refine⟨ap,L1,_,_,rfl,rfl,s9 _ _ hap,e9,by rw[sizeLine_eq];simp only[length_cons,length_nil];lia,fun C hC=>?_⟩;have nC8:H8 C=none:=s9.free hC;have sA:=aI hC (.lst (xp++[.ref u]));have eA:upd H9 C (.lst (xp++[.ref u])) C=some (.lst (xp++[.ref u])):=aE;generalize upd H9 C (.lst (xp++[.ref u]))=HA at sA eA ⊢;have s8A:=s9.trans sA;have nCW:C≠W:=Ne.symm (bA q8 nC8);have nCD:C≠D:=Ne.symm (bA e8 nC8);have eDA:=s8A _ _ e8;refine⟨_,rfl,_,rfl,tt,_,1,_,rfl,rfl,s8A.seqT hT,rfl,D,_,rfl,Km.k (k:=Sum.inl (sx:Int)) eDA (by rw[sizeLine_eq];lia),?_⟩;have put:mE kv8 (Sum.inl (sx:Int)) (.ref C)=kv8++[(Sum.inl (sx:Int),.ref C)]:=by unfold mE;rw[if_neg (by rw[(w8.none_ c).2];simp)]
     rw[put];have eB:upd HA D (.dK (kv8++[(Sum.inl (sx:Int),.ref C)])) D=some (.dK (kv8++[(Sum.inl (sx:Int),.ref C)])):=aE;have qB:upd HA D (.dK (kv8++[(Sum.inl (sx:Int),.ref C)])) W=some (.lst (S.2.map fun (p:Nat)=>V.int (p:Int))):=by rw[aW (Ne.symm nDW)];exact s8A _ _ q8
     have sB:aY H (upd HA D (.dK (kv8++[(Sum.inl (sx:Int),.ref C)]))):=(s8.trans s8A).change hD;have wB:Wys K H W (upd HA D (.dK (kv8++[(Sum.inl (sx:Int),.ref C)]))) (kv8++[(Sum.inl (sx:Int),.ref C)]) (S.1++[(sx,sp++[(sn,sw)])]):=
      Wys.snoc (s8.free nC8) nCW (by rw[aW nCD];exact eA) (((fp.same s8A).app (.cons (s8A.seqT hU) .nil)).updD eDA) ((w8.same s8A).updD eDA)
     have elB:upd HA D (.dK (kv8++[(Sum.inl (sx:Int),.ref C)])) l=some (.lst ys):=by rw[aW nlD];exact s8A _ _ el8
     have SB:=(S8.same s8A).updD (o:=.dK (kv8++[(Sum.inl (sx:Int),.ref C)])) eDA;have hTB:=SqT.updD (o:=.dK (kv8++[(Sum.inl (sx:Int),.ref C)])) (s8A.seqT hT) eDA;generalize upd HA D (.dK (kv8++[(Sum.inl (sx:Int),.ref C)]))=HB at eB qB sB wB elB SB hTB ⊢;refine⟨_,rfl,.inl ⟨rfl,_,SqL.of qB⟩,_,rfl,tt,_,1,_,rfl,rfl,hTB,rfl,W,_,_,rfl,rfl,qB,bC (by rw[length_map];lia),?_⟩;have inE:inF p S ((sn,sw),sx)=(S.1++[(sx,sp++[(sn,sw)])],S.2++[sx]):=by
      unfold inF;rw[if_neg c,eg];rfl
     rw[inE];refine⟨sB.change nW,by rw[aW nlW];exact elB,SB.upd qB,_,_,rfl,by rw[aW nDW];exact eB,?_,wB.updW qB⟩;rw[aE,map_append];rfl
   ·rintro σ H8 ⟨s8,el8,S8,kv8,z7',rfl,e8,q8,w8⟩;rw[lys,take_length,<- stp] at q8 w8;have lk8:=w8.length;refine⟨⟨s8,i+1,kv8,_,_,rfl,e8,q8,w8,by lia⟩,?_⟩;rw[mu0,Qt e8 q8,length_map,length_map,lk,lk8];unfold muF at iU;lia
 ·rintro σ H Q Q' mono ⟨v,h1,p',ys,h2,h3,i,j,h4,h5,k,h6,h7⟩;exact⟨v,h1,p',ys,h2,h3,i,j,h4,h5,k,h6,mono _ _ h7⟩
theorem Uw {ds:List RD}{i:Nat}{d:RD}(h:ds[i]?=some d):(skl ds)[i]?=some (d.1,d.2.1.toNat,d.2.2.1.toNat):=by unfold skl;rw[getElem?_map,h];rfl
theorem Me (ds:List RD):(skl ds).length=ds.length:=by unfold skl;rw[length_map]
theorem qa5 {m:Nat}{ds:List RD}(pt:∀d∈ds,cO (m:Int) d.2.1 d.2.2.1):∀d∈skl ds,d.2.1 < m/\d.2.2 < m:=fun d hd=>by
 obtain⟨e,he,rfl⟩:=mem_map.mp hd;obtain⟨i0,i1,j0,j1⟩:=pt e he;exact⟨by show e.2.1.toNat < m;lia,by show e.2.2.1.toNat < m;lia⟩
theorem Ur {W:Kd->Bool}{m n:Nat}{ds:List RD}{s:RS}(pt:∀d∈ds,cO (m:Int) d.2.1 d.2.2.1)(h:RI W (skl ds) m n s):Xa ds s.1:=fun e he=>by
 obtain⟨k,hk⟩:=h.at_ e he;have hl:e.1 < ds.length:=by have:=(List.getElem?_eq_some_iff.mp hk).1;rwa [Me] at this
 have hd:ds[e.1]?=some ds[e.1]:=getElem?_eq_getElem hl;rw[Uw hd] at hk;obtain⟨i0,i1,j0,j1⟩:=pt _ (mem_of_getElem? hd);refine⟨_,hd,?_,?_⟩
 ·have:ds[e.1].2.1.toNat=e.2.1:=by injection hk with z;injection z with _ z;injection z
  lia
 ·have:ds[e.1].2.2.1.toNat=e.2.2:=by injection hk with z;injection z with _ z;injection z
  lia
theorem Ow {W:Kd->Bool}{sk:List Sk}:∀n,(fB W sk n).1.length<=n
 |0=>Nat.le_refl _
 |n+1=>by
  have ih:=Ow (W:=W) (sk:=sk) n
  cases h:sk[n]? with
  |none=>show (match sk[n]? with | none=>fB W sk n | some d=>jB W (fB W sk n) n d).1.length<=n+1;rw[h];show (fB W sk n).1.length<=n+1;lia
  |some d=>
   rw[iP h];generalize fB W sk n=s at ih;unfold jB;split
   ·split
    ·show (s.1++[(n,d.2.1,d.2.2)]).length<=n+1;rw[List.length_append];simp only[length_cons,length_nil];lia
    ·show s.1.length<=n+1;lia
   ·lia
def WdA (K:Frag)(H:Hp)(v:V)(W:Kd->Bool):Prop:=∃(p:Addr) (ws:List V),v=.ref p/\(SqL K H p ws\/SqT K H p ws)/\ws.all nQ=true/\∀k:Kd,inV (.str k.wd) ws=W k
theorem WdA.same {K:Frag}{H H':Hp}{v:V}{W:Kd->Bool}(e:aY H H')(h:WdA K H v W):WdA K H' v W:=by
 obtain⟨p,ws,h1,h2,h3⟩:=h;refine⟨p,ws,h1,?_,h3⟩;rcases h2 with z | z
 ·exact .inl (e.seq z)
 ·exact .inr (e.seqT z)
theorem qc6 (k:Kd):inV (.str k.wd) [.str "piece",.str "hold"]=decide (k≠.pu):=by cases k<;>decide
abbrev iG:Stmt:=top 30
theorem jG:aP ["net","words","wanted","rows","branches","found","number","row","back"] ["net","words"] (aH iG):=sK9 rfl rfl rfl rfl (by decide +kernel)
theorem Mn {dV:Value}(F:aV K "rings" "rings" iG dV f fd){CN aJ:Addr}(NTx:NT K mg CN)(T:RT K mg CR CK)(men:mg "enumerate"=none)(fJ:∀H,SqT K H aJ [.str "piece",.str "hold"])(mJO:mI9 mg "JOINING_WORDS" aJ)(GW:∀k,aL P w K mg base CX0 1 (fW k) (fdW k) ["self"] (jL k))(bW:∀k,aM K (fdW k) ["self"] [])(mW:∀k,gE K (CK k) "word" (fW k)){gRo:Addr}{gdRo:FuncData}(GRo:aL P w K mg base CX0 4 gRo gdRo ["self"] (nU CN K CK))(bRo:aM K gdRo ["self"] [])(mRo:gE K CN "rows" gRo)(G1:aL P w K mg base CX0 2 g1 gd1 ["rows","numbers","begin","end"] (Vu K CK))(b1:aM K gd1 ["rows","numbers","begin","end"] [])(k1:kI9 K g1)(m1:mI9 mg "way_along" g1) :
  aL P w K mg base CX 5 f fd ["net","words"] (He CN K):=by
 refine F.ok jG (fun vs H Q E h=>?_) fun cdv A outer s H vs Q E hr h=>?_
 ·obtain⟨_,_,_,_,_,_,rfl,_⟩:=h;rfl
 obtain⟨n,l,v,m,ds,W,rfl,nt,pt,h20,h40,hW,q⟩:=h;have r1:=hr.mono (show 1<=4 by lia);have r2:=hr.mono (show 2<=4 by lia);refine⟨_,(aC (aR (i:=2) jG.nd rfl (Or.inl rfl) (sR (zN (Dm (pv 1))) (dI (v:=.ref aJ) rfl mJO rfl) (pv 1)))
  (aC (aR (i:=3) jG.nd rfl (Or.inl rfl) (fE (pv 0) NTx.cl mRo GRo hr bRo .nil aK))
  (aC (aR (i:=4) jG.nd rfl (Or.inl rfl) (dH aB))
  (aC (aR (i:=5) jG.nd rfl (Or.inl rfl) (dH aB))
  (aC (dQ PassesOwn.never rfl (yL rfl men rfl (aA (pv 3) aB)) (gR rfl (bO (aZ (i:=6) jG.nd rfl (Or.inl rfl)) (bO (aZ (i:=7) jG.nd rfl (Or.inl rfl)) fR)))
   (aF (cC (bF Ii (fI (pv 7) T.cl mW GW r1 bW .nil aK) (pv 2) rfl) (aC (aR (i:=8) jG.nd rfl (Or.inl rfl) (aG G1 r2 rfl m1 k1 b1 .nil aK (aA (pv 3) (aA (pv 4) (aA (bU (pv 7) rfl) (aA (bU (pv 7) rfl) aB))))))
  (aF (cC (zN (Dm (pv 8))) (aF (bQ (kY PySem.F.plainAttrs_list PySem.F.slot_list_append PySem.F.type_list_append gC (pv 4) (aA (pv 6) aB)))) (aF (bQ (kY PySem.F.plainAttrs_list PySem.F.slot_list_append PySem.F.type_list_append gC (pv 5) (aA (aU yG (dH (aA (dP (aA (pv 6) (aA aD aB))) aB)) (pv 8)) aB))))))) bH)))
  (aF (aX (pv 5)))))))),?_⟩
 refine kA (fun σ' H'=>H'=H/\∃wv,σ'=[some (.ref n),some v,some wv,none,none,none,none,none,none]/\WdA K H wv W) (fun X hX=>?_) ?_
 ·cases hW with
  |non=>exact⟨_,rfl,_,rfl,ifT rfl (hX _ _ ⟨rfl,_,rfl,aJ,_,rfl,.inr (fJ H),rfl,qc6⟩)⟩
  | @seq a ws h f=>exact⟨_,rfl,_,rfl,ifF rfl ⟨_,rfl,hX _ _ ⟨rfl,_,rfl,a,_,rfl,.inl h,f,fun _=>rfl⟩⟩⟩
 rintro σ' H' ⟨hH',wv,rfl,hw⟩;subst hH';obtain⟨dx,hn⟩:=nt.ob;refine⟨_,rfl,n,dx,_,rfl,hn,fF _ _ (by decide +kernel) (by decide +kernel),n,l,_,ds,rfl,nt,by lia,fun a xs H1 s1 na ea Rb=>?_⟩;have lxs:=Rb.length;refine⟨zl9 0,fun B hB=>?_⟩;have nB:H' B=none:=s1.free hB;have sB:=aI hB (.lst []);have eB:upd H1 B (.lst []) B=some (.lst []):=aE;generalize upd H1 B (.lst [])=H2 at sB eB ⊢;refine⟨zl9 0,fun F hF=>?_⟩;have nF:H' F=none:=(s1.trans sB).free hF;have nBF:B≠F:=bA eB hF;have sF:=aI hF (.lst []);have eF:upd H2 F (.lst []) F=some (.lst []):=aE;generalize upd H2 F (.lst [])=H3 at sF eF ⊢;have s3:=s1.trans (sB.trans sF);have ea3:=(sB.trans sF) _ _ ea;have naB:a≠B:=bA ea hB;have naF:a≠F:=bA (sB _ _ ea) hF;have sk:=Me ds;have slt:=qa5 pt;have s13:=sB.trans sF;refine⟨_,rfl,a,rfl,⟨_,SqL.of ea3⟩,?_⟩;have nB1:H1 B=none:=hB;have nF1:H1 F=none:=sB.free hF;refine Px (xs:=xs) (fun i σ HH=>aY H1 HH/\∃(us:List V) (z6 z7 z8:Option V),σ=[some (.ref n),some v,some wv,some (.ref a),some (.ref B),some (.ref F),z6,z7,z8]/\HH B=some (.lst ((fB W (skl ds) i).1.map fun (e:Br)=>V.int ((e.1:Nat):Int)))/\HH F=some (.lst us)/\Rgs K H' HH us ((fB W (skl ds) i).2.map (·.2))/\∀x∈us,x≠.ref F/\x≠.ref B) ⟨s13,[],none,none,none,rfl,sF _ _ eB,eF,.nil,fun x hx=>(by cases hx)⟩ (fun i σ HH _ h=>h.1.seq (SqL.of ea)) ?_ ?_
 ·rintro i x σ H4 T2 hx ⟨s4,us,z6,z7,z8,rfl,eB4,eF4,G4,nx4⟩ hT;have hi:i < ds.length:=by
   have:=(List.getElem?_eq_some_iff.mp hx).1;lia
  obtain⟨⟨k0,u,v0,p0⟩,hd⟩:∃d,ds[i]?=some d:=⟨_,getElem?_eq_getElem hi⟩
  obtain⟨y,z,ey,rw0,fz0⟩:=Rb.at hd;have ex:x=.ref y:=by rw[ey] at hx;exact(Option.some.inj hx).symm
  subst ex;obtain⟨u0,u1,v1,v2⟩:cO (m:Int) u v0:=pt _ (mem_of_getElem? hd);obtain⟨uN,rfl⟩:∃n:Nat,u=(n:Int):=⟨u.toNat,by lia⟩
  obtain⟨vN,rfl⟩:∃n:Nat,v0=(n:Int):=⟨v0.toNat,by lia⟩
  have skd:(skl ds)[i]?=some (k0,uN,vN):=by
   have:=Uw hd
   rwa [show ((k0,(uN:Int),(vN:Int),p0):RD).2.1.toNat=uN from Int.toNat_natCast uN,show ((k0,(uN:Int),(vN:Int),p0):RD).2.2.1.toNat=vN from Int.toNat_natCast vN] at this
  have ri:=uL (W:=W) slt i (by lia);have bo:=Ur pt ri;have bl':=Ow (W:=W) (sk:=skl ds) i;have gl:=G4.l;rw[length_map] at gl;have rl:=ri.rl;have succ:=iP (W:=W) skd;generalize fB W (skl ds) i=S at eB4 G4 ri bo bl' gl rl succ;have sT:=aI hT (.tup [.int (i:Int),.ref y]);refine⟨T2,_,rfl,SqT.of aE,rfl,_,_,rfl,_,_,rfl,rfl,?_⟩;have nT1:H1 T2=none:=s4.free hT;generalize upd H4 T2 (.tup [.int (i:Int),.ref y])=H5 at sT ⊢;have s5:=s4.trans sT;have eB5:=sT _ _ eB4;have eF5:=sT _ _ eF4;have G5:=G4.same sT;obtain⟨dr,hy⟩:=id (rw0.same s5);obtain⟨pw,ws,ew,hws,fl,hinv⟩:=hw.same (s1.trans s5);refine⟨_,rfl,k0,y,dr,_,rfl,hy,(dG _ _ _ (by decide +kernel) (by decide +kernel) (by decide +kernel)),_,rfl,_,rfl,pw,ws,ew,hws,rfl,fl,_,rfl,?_⟩;have hin:inV (.str k0.wd) ws=W k0:=hinv k0
  by_cases hk:W k0=true
  ·refine ifT (by show (if false=true then _ else inV (V.str k0.wd) ws)=true;rw[if_neg (by decide),hin];exact hk) ?_;refine⟨_,rfl,_,rfl,_,rfl,y,CK _,_,_,_,rfl,hy,T.cl _,T.nG _,eO _ _ _,_,rfl,y,CK _,_,_,_,rfl,hy,T.cl _,T.nS _,dC _ _ _,a,B,xs,ds,S.1,m,vN,uN,rfl,s5.seq (SqL.of ea),Rb.same s5,SqL.of eB5,bo,by lia,ri.pt,h20,by lia,fun hnone H6 s6=>?_,fun st hst l' ys H6 s6 nl el S6=>?_⟩
   ·refine⟨_,rfl,_,rfl,ifT rfl ?_⟩;have eB6:=s6 _ _ eB5;have s06:=s5.trans s6;refine⟨_,rfl,.inl ⟨rfl,_,SqL.of eB6⟩,_,rfl,B,_,_,rfl,rfl,eB6,bC (by rw[length_map];lia),?_⟩;have eS:jB W S i (k0,uN,vN)=(S.1++[(i,uN,vN)],S.2):=by
     unfold jB;rw[if_pos hk,hnone]
    rw[succ,eS];refine⟨s06.change nB1,us,_,_,_,rfl,?_,by rw[aW (Ne.symm nBF)];exact s6 _ _ eF5,(G5.same s6).updO eB6 (fun x hx=>(nx4 x hx).2),nx4⟩;rw[aE,map_append];rfl
   ·refine⟨_,rfl,_,rfl,ifF rfl ?_⟩;have eF6:=s6 _ _ eF5;have s06:=s5.trans s6;refine⟨_,rfl,.inl ⟨rfl,_,SqL.of eF6⟩,_,rfl,zl9 2,fun t ht=>?_⟩;have st7:=aI ht (.tup [.int (i:Int),.int 1]);have et:SqT K (upd H6 t (.tup [.int (i:Int),.int 1])) t [.int (i:Int),.int 1]:=SqT.of aE;generalize upd H6 t (.tup [.int (i:Int),.int 1])=H7 at st7 et ⊢;refine⟨zl9 1,fun L1 hL1=>?_⟩;have s8:=aI hL1 (.lst [.ref t]);have e8:upd H7 L1 (.lst [.ref t]) L1=some (.lst [.ref t]):=aE;generalize upd H7 L1 (.lst [.ref t])=H8 at s8 e8 ⊢;have lst':=vL ri.pt (show vN < m by lia) hst;have lys:=S6.length;refine⟨_,rfl,L1,l',_,_,rfl,rfl,e8,(st7.trans s8) _ _ el,by rw[sizeLine_eq];simp only[length_cons,length_nil];lia,fun C hC=>?_⟩;have nC8:H8 C=none:=hC;have s9:=aI hC (.lst ([.ref t]++ys));have e9:upd H8 C (.lst ([.ref t]++ys)) C=some (.lst ([.ref t]++ys)):=aE;generalize upd H8 C (.lst ([.ref t]++ys))=H9 at s9 e9 ⊢;have s69:=st7.trans (s8.trans s9);have eF9:=s69 _ _ eF6;have s09:=s06.trans s69;have nCF:C≠F:=Ne.symm (bA ((st7.trans s8) _ _ eF6) nC8);have nCB:C≠B:=Ne.symm (bA ((st7.trans s8) _ _ (s6 _ _ eB5)) nC8);refine⟨F,_,_,rfl,rfl,eF9,bC (by lia),?_⟩;have eS:jB W S i (k0,uN,vN)=(S.1,S.2++[(i,(i,1) :: st)]):=by
     unfold jB;rw[if_pos hk,hst]
    rw[succ,eS];have SC:Sts K H9 ([.ref t]++ys) ((i,1) :: st):=.cons ((s8.trans s9).seqT et) (S6.same s69);refine⟨s09.change nF1,us++[.ref C],_,_,_,rfl,by rw[aW nBF];exact s69 _ _ (s6 _ _ eB5),aE,?_,fun x hx=>?_⟩
    ·rw[map_append];have G9:=((G5.same s6).same s69).snoc (((s1.trans s06).trans (st7.trans s8)).free nC8) e9 SC;refine G9.updO eF9 fun x hx=>?_;rcases mem_append.mp hx with z | z
     ·exact(nx4 x z).1
     ·have:x=.ref C:=by simpa using z
      rw[this];exact fun z=>nCF (by injection z)
    ·rcases mem_append.mp hx with z | z
     ·exact nx4 x z
     ·have:x=.ref C:=by simpa using z
      rw[this];exact⟨fun z=>nCF (by injection z),fun z=>nCB (by injection z)⟩
  ·refine ifF (by show (if false=true then _ else inV (V.str k0.wd) ws)=false;rw[if_neg (by decide),hin];simpa using hk) ?_;have eS:jB W S i (k0,uN,vN)=S:=by
    unfold jB;rw[if_neg hk]
   rw[succ,eS];exact⟨s5,us,_,_,_,rfl,eB5,eF5,G5,nx4⟩
 rintro σ H4 ⟨s4,us,z6,z7,z8,rfl,eB4,eF4,G4,nx4⟩;rw[lxs] at G4;exact⟨_,rfl,q F us H4 (s1.trans s4) nF eF4 G4 fun x hx=>(nx4 x hx).1⟩
abbrev pT:Stmt:=cU (top 36) 1
theorem Cz:aP ["self"] ["self"] (aH pT):=sK9 rfl rfl rfl rfl (by decide +kernel)
theorem Aj {dV:Value}(F:aV K "joins" "Piece.joins" pT dV f fd):aL P w K mg base CX 1 f fd ["self"] (pD .pc):=by
 refine F.ok Cz (fun vs H Q E h=>?_) fun cdv A outer s H vs Q E hr h=>?_
 ·obtain⟨_,rfl,_⟩:=h;rfl
 obtain⟨x,rfl,q⟩:=h;exact⟨_,(aF (aX mZ)),q⟩
abbrev pW:Stmt:=cU (top 37) 1
theorem Dh:aP ["self"] ["self"] (aH pW):=sK9 rfl rfl rfl rfl (by decide +kernel)
theorem Ap {dV:Value}(F:aV K "joins" "Push.joins" pW dV f fd):aL P w K mg base CX 1 f fd ["self"] (pD .pu):=by
 refine F.ok Dh (fun vs H Q E h=>?_) fun cdv A outer s H vs Q E hr h=>?_
 ·obtain⟨_,rfl,_⟩:=h;rfl
 obtain⟨x,rfl,q⟩:=h;exact⟨_,(aF (aX mZ)),q⟩
abbrev pV:Stmt:=cU (top 38) 1
theorem Ct:aP ["self"] ["self"] (aH pV):=sK9 rfl rfl rfl rfl (by decide +kernel)
theorem Bb {dV:Value}(F:aV K "joins" "Hold.joins" pV dV f fd):aL P w K mg base CX 1 f fd ["self"] (pD .ho):=by
 refine F.ok Ct (fun vs H Q E h=>?_) fun cdv A outer s H vs Q E hr h=>?_
 ·obtain⟨_,rfl,_⟩:=h;rfl
 obtain⟨x,rfl,q⟩:=h;exact⟨_,(aF (aX mZ)),q⟩
def zW (K:Frag)(CK:Kd->Addr):Sp:=fun vs H Q _=>∃(a x:Addr) (ms:List Int) (k:Kd) (s g:Nat) (z:V),vs=[.ref a,.ref x]/\SqL K H a (ms.map V.int)/\Rw CK H x k (.int (s:Int)) (.int (g:Int)) z/\s < ms.length/\g < ms.length/\ms.length<=100/\∀l H',aY H H'->H l=none->H' l=some (.lst ((jn ms s g).map V.int))->Q (.ref l) H'
def Fo (CN:Addr)(K:Frag):Sp:=fun vs H Q _=>∃(n l:Addr) (m:Nat) (ds:List RD),vs=[.ref n]/\cV CN K H n l (m:Int) ds/\(∀d∈ds,cO (m:Int) d.2.1 d.2.2.1)/\m<=20/\ds.length<=100/\∀l' H',aY H H'->H l'=none->H' l'=some (.lst ((mks m ds).map V.int))->Q (.ref l') H'
def Ju (m:Nat)(ds:List RD):List Int:=((List.range m).filter fun p=>decide (mk m ds p≠mk m ds 0)).map fun (p:Nat)=>(p:Int)
def Fj (CN:Addr)(K:Frag):Sp:=fun vs H Q _=>∃(n l:Addr) (m:Nat) (ds:List RD),vs=[.ref n]/\cV CN K H n l (m:Int) ds/\(∀d∈ds,cO (m:Int) d.2.1 d.2.2.1)/\1<=m/\m<=20/\ds.length<=100/\∀l' H',aY H H'->H l'=none->H' l'=some (.lst ((Ju m ds).map V.int))->Q (.ref l') H'
theorem pG:(["mark","lost","kept"]:List Str).Nodup:=by decide +kernel
abbrev yV:Stmt:=top 29
theorem sE:aP ["marks","row","kept","lost"] ["marks","row"] (aH yV):=sK9 rfl rfl rfl rfl (by decide +kernel)
theorem Ik {dV:Value}(F:aV K "joined" "joined" yV dV f fd)(T:RT K mg CR CK) :
  aL P w K mg base CX 1 f fd ["marks","row"] (zW K CK):=by
 refine F.ok sE (fun vs H Q E h=>?_) fun cdv A outer s H vs Q E hr h=>?_
 ·obtain⟨_,_,_,_,_,_,_,rfl,_⟩:=h;rfl
 obtain⟨a,x,ms,k,s0,g0,z,rfl,hS,rw,hs,hg,h100,q⟩:=h;refine⟨_,(aC (aR (i:=2) sE.nd rfl (Or.inr rfl) (aQ bN (pv 0) (bU (pv 1) rfl) (fun _ _=>rfl)))
  (aC (aR (i:=3) sE.nd rfl (Or.inr rfl) (aQ bN (pv 0) (bU (pv 1) rfl) (fun _ _=>rfl)))
  (aF (aX (dW (nl:=1) (fr:=[3,2]) (Nc:=["mark","lost","kept"]) (cl:=[("lost",s.heap.objs.size+2),("kept",s.heap.objs.size+1)]) rfl ⟨rfl,rfl,by decide +kernel,by decide +kernel,(eV rfl (eV rfl (mL))),fD rfl,rfl,fun i n h=>match i,h with | 0,h=>by cases h;exact⟨3,rfl,rfl,rfl,rfl,.inl rfl⟩ | 1,h=>by cases h;exact⟨2,rfl,rfl,rfl,rfl,.inl rfl⟩ | k+2,h=>by rw[show 1+(k+2)=k+3 by lia] at h;cases h⟩
    (cW (pv 0)) (fun C s3 H3 fp pins=>(aZ (i:=0) pG rfl (Or.inl rfl))) (fun C s3 H3 fp pins=>fC)
    (fun C s3 H3 fp pins=>(sR (bF dZ (pv 0) (pv 1) (bM _)) (pv 2) (pv 0)))))))),?_⟩
 obtain⟨dx,hx⟩:=id rw;have gi:∀{j:Nat},j < ms.length->atI (ms.map V.int) (j:Int)=some (.int (ms.getD j 0)):=fun h=>bV (by rw[getElem?_map,getElem?_eq_getElem h,getD_eq_getElem?_getD,getElem?_eq_getElem h];rfl);refine⟨_,rfl,_,rfl,x,CK _,_,_,_,rfl,hx,T.cl _,T.nS _,dC _ _ _,a,_,_,_,rfl,rfl,hS,gi hs,?_⟩;refine⟨_,rfl,_,rfl,x,CK _,_,_,_,rfl,hx,T.cl _,T.nG _,eO _ _ _,a,_,_,_,rfl,rfl,hS,gi hg,?_⟩;refine⟨_,rfl,a,rfl,⟨_,hS⟩,fun D hD=>?_⟩;have sD:=aI hD (.lst []);refine dR (xs:=ms.map V.int) (fun i zs H'=>aY H H'/\H' D=some (.lst zs)/\zs=((jn ms s0 g0).take i).map V.int) ⟨sD,aE,rfl⟩ (fun i zs H' h=>h.2.1) (fun i zs H' _ h=>h.1.seq hS) ?_ ?_
 ·rintro i zs x H1 hx' ⟨s1,e1,rfl⟩ C hC;rw[getElem?_map] at hx';obtain⟨c,hc,rfl⟩:=Option.map_eq_some_iff.mp hx';have hi:i < ms.length:=(List.getElem?_eq_some_iff.mp hc).1;have ej:(jn ms s0 g0)[i]?=some (if c=ms.getD g0 0 then ms.getD s0 0 else c):=by unfold jn;rw[getElem?_map,hc];rfl
  have lj:(jn ms s0 g0).length=ms.length:=by unfold jn;rw[length_map]
  refine⟨fQ.1,fQ.2,gL ?_⟩;refine⟨_,rfl,_,rfl,rfl,_,rfl,?_⟩
  by_cases h:c=ms.getD g0 0
  ·rw[if_pos h] at ej;refine ifT (decide_eq_true (by rw[h])) ⟨_,rfl,e1,bC (by rw[length_map,length_take];lia),hC _ _ ⟨s1.change hD,aE,?_⟩⟩;rw[take_add_one,ej,map_append];rfl
  ·rw[if_neg h] at ej;refine ifF (decide_eq_false (fun z=>h (by injection z))) ⟨_,rfl,e1,bC (by rw[length_map,length_take];lia),hC _ _ ⟨s1.change hD,aE,?_⟩⟩;rw[take_add_one,ej,map_append];rfl
 ·rintro zs H1 ⟨s1,e1,rfl⟩;have lj:(jn ms s0 g0).length=ms.length:=by unfold jn;rw[length_map]
  rw[length_map,<- lj,take_length] at e1;exact q D H1 s1 hD e1
abbrev Cs:Stmt:=top 28
theorem rH:aP ["net","marks","row"] ["net"] (aH Cs):=sK9 rfl rfl rfl rfl (by decide +kernel)
theorem Nv {dV:Value}(F:aV K "marks_of" "marks_of" Cs dV f fd){CN:Addr}(mli:mg "list"=none)(mra:mg "range"=none)(NTx:NT K mg CN)(T:RT K mg CR CK){fJ:Kd->Addr}{fdJ:Kd->FuncData}(GJ:∀k,aL P w K mg base CX0 1 (fJ k) (fdJ k) ["self"] (pD k))(bJ:∀k,aM K (fdJ k) ["self"] [])(mJ:∀k,gE K (CK k) "joins" (fJ k)){gMa:Addr}{gdMa:FuncData}(GMa:aL P w K mg base CX0 1 gMa gdMa ["self"] (zK CN K))(bMa:aM K gdMa ["self"] [])(mMa:gE K CN "many" gMa){gRo:Addr}{gdRo:FuncData}(GRo:aL P w K mg base CX0 4 gRo gdRo ["self"] (nU CN K CK))(bRo:aM K gdRo ["self"] [])(mRo:gE K CN "rows" gRo)(G1:aL P w K mg base CX0 1 g1 gd1 ["marks","row"] (zW K CK))(b1:aM K gd1 ["marks","row"] [])(k1:kI9 K g1)(m1:mI9 mg "joined" g1) :
  aL P w K mg base CX 5 f fd ["net"] (Fo CN K):=by
 refine F.ok rH (fun vs H Q E h=>?_) fun cdv A outer s H vs Q E hr h=>?_
 ·obtain⟨_,_,_,_,rfl,_⟩:=h;rfl
 obtain⟨n,l,m,ds,rfl,nt,pt,hm,h100,q⟩:=h;have r1:=hr.mono (show 1<=4 by lia);refine⟨_,(aC (aR (i:=1) rH.nd rfl (Or.inl rfl) (xZ rfl rfl mli rfl mra (aA (fE (pv 0) NTx.cl mMa GMa r1 bMa .nil aK) aB)))
  (aC (dQ PassesOwn.never rfl (cW (fE (pv 0) NTx.cl mRo GRo hr bRo .nil aK)) (aZ (i:=2) rH.nd rfl (Or.inl rfl))
   (aF (cC (eZ (fI (pv 2) T.cl mJ GJ r1 bJ .nil aK)) (aF (aR (i:=1) rH.nd rfl (Or.inl rfl) (aG G1 r1 rfl m1 k1 b1 .nil aK (aA (pv 1) (aA (pv 2) aB))))) bH)))
  (aF (aX (pv 1))))),?_⟩
 obtain⟨dx,hn⟩:=nt.ob;refine⟨_,rfl,n,dx,_,rfl,hn,fF _ _ (by decide +kernel) (by decide +kernel),n,l,_,ds,rfl,nt,m,rfl,by lia,fun D hD=>?_⟩;have sD:=aI hD (.lst ((List.range m).map fun (i:Nat)=>V.int (i:Int)));have eD:upd H D (.lst ((List.range m).map fun (i:Nat)=>V.int (i:Int))) D=some (.lst ((mks m (ds.take 0)).map V.int)):=by
  rw[aE];show some (HO.lst _)=some (HO.lst ((Jo m).map V.int));unfold Jo;rw[map_map];rfl
 generalize upd H D (.lst ((List.range m).map fun (i:Nat)=>V.int (i:Int)))=H1 at sD eD ⊢;refine⟨_,rfl,n,dx,_,rfl,sD _ _ hn,fF _ _ (by decide +kernel) (by decide +kernel),n,l,_,ds,rfl,nt.same sD,h100,fun a xs H2 s2 na ea Rb=>?_⟩;have lxs:=Rb.length;refine⟨a,rfl,⟨_,SqL.of ea⟩,?_⟩;refine gS (xs:=xs) (fun i σ H'=>aY H2 H'/\∃(c:Addr) (z:Option V),σ=[some (.ref n),some (.ref c),z]/\H c=none/\H' c=some (.lst ((mks m (ds.take i)).map V.int))) ⟨aY.refl _,D,none,rfl,hD,s2 _ _ eD⟩ (fun i σ H' _ h=>h.1.seq (SqL.of ea)) ?_ ?_
 ·rintro i x σ H3 hx ⟨s3,c,z,rfl,nc,ec⟩;have hi:i < ds.length:=by
   have:=(List.getElem?_eq_some_iff.mp hx).1;lia
  obtain⟨⟨k,u,v,p⟩,hd⟩:∃d,ds[i]?=some d:=⟨_,getElem?_eq_getElem hi⟩
  obtain⟨y,z',ey,rw,fz⟩:=Rb.at hd;have ex:x=.ref y:=by rw[ey] at hx;exact(Option.some.inj hx).symm
  subst ex;have rw3:=rw.same s3;obtain⟨dr,hy⟩:=id rw3;have et:ds.take (i+1)=ds.take i++[(k,u,v,p)]:=by rw[take_add_one,hd];rfl
  obtain⟨u0,u1,v0,v1⟩:cO (m:Int) u v:=pt _ (mem_of_getElem? hd);refine⟨_,rfl,k,y,dr,_,rfl,hy,(dG _ _ _ (by decide +kernel) (by decide +kernel) (by decide +kernel)),_,rfl,_,rfl,?_⟩
  by_cases hk:k=.pu
  ·refine ifF (decide_eq_false (fun z=>z hk)) ⟨s3,c,_,rfl,nc,?_⟩;rw[et,oU];unfold iU;rw[if_pos hk];exact ec
  ·refine ifT (decide_eq_true hk) ⟨_,rfl,_,rfl,c,y,mks m (ds.take i),k,u.toNat,v.toNat,.ref z',rfl,SqL.of ec,?_,by rw[oT];lia,by rw[oT];lia,by rw[oT];lia,fun c' H4 s4 nc' ec'=>⟨s3.trans s4,c',_,rfl,?_,?_⟩⟩
   ·rw[show ((u.toNat:Nat):Int)=u by lia,show ((v.toNat:Nat):Int)=v by lia];exact rw3
   ·exact((sD.trans s2).trans s3).free nc'
   ·rw[et,oU];unfold iU;rw[if_neg hk];exact ec'
 ·rintro σ H3 ⟨s3,c,z,rfl,nc,ec⟩;rw[show ds.take xs.length=ds by rw[lxs,take_length]] at ec;exact⟨_,rfl,q c H3 ((sD.trans s2).trans s3) nc ec⟩
theorem iI:(["point","mark","marks"]:List Str).Nodup:=by decide +kernel
abbrev Ed:Stmt:=top 27
theorem Hi:aP ["net","marks"] ["net"] (aH Ed):=sK9 rfl rfl rfl rfl (by decide +kernel)
theorem Nu {dV:Value}(F:aV K "floating" "floating" Ed dV f fd){CN:Addr}(men:mg "enumerate"=none)(G1:aL P w K mg base CX0 5 g1 gd1 ["net"] (Fo CN K))(b1:aM K gd1 ["net"] [])(k1:kI9 K g1)(m1:mI9 mg "marks_of" g1) :
  aL P w K mg base CX 6 f fd ["net"] (Fj CN K):=by
 refine F.ok Hi (fun vs H Q E h=>?_) fun cdv A outer s H vs Q E hr h=>?_
 ·obtain⟨_,_,_,_,rfl,_⟩:=h;rfl
 obtain⟨n,l,m,ds,rfl,nt,pt,h1,hm,h100,q⟩:=h;refine⟨_,(aC (aR (i:=1) Hi.nd rfl (Or.inr rfl) (aG G1 hr rfl m1 k1 b1 .nil aK (aA (pv 0) aB)))
  (aF (aX (dW (nl:=2) (fr:=[1]) (Nc:=["point","mark","marks"]) (cl:=[("marks",s.heap.objs.size+1)]) (g:=(Bh K 2 (iS (iC 0) (iS (iC 1) Ah)))) rfl ⟨rfl,rfl,by decide +kernel,by decide +kernel,fun x c h=>h,fD rfl,rfl,fun i n h=>match i,h with | 0,h=>by cases h;exact⟨1,rfl,rfl,rfl,rfl,.inl rfl⟩ | k+1,h=>by rw[show 2+(k+1)=k+3 by lia] at h;cases h⟩
    (yL rfl men rfl (aA (pv 1) aB)) (fun C s3 H3 fp pins=>(gR rfl (bO (aZ (i:=0) iI rfl (Or.inl rfl)) (bO (aZ (i:=1) iI rfl (Or.inl rfl)) fR)))) (fun C s3 H3 fp pins=>(qT (bF qH (pv 1) (aQ (rQ (K:=K) rfl) (pv 2) aD (fun _ _=>rfl)) (bM _))))
    (fun C s3 H3 fp pins=>(pv 0)))))),?_⟩
 refine⟨_,rfl,n,l,m,ds,rfl,nt,pt,hm,h100,fun M H1 s1 nM eM=>?_⟩;have mlen:=oT m ds;have hS:SqL K H1 M ((mks m ds).map V.int):=SqL.of eM;refine⟨_,rfl,M,rfl,⟨_,hS⟩,fun D hD=>?_⟩;have sD:=aI hD (.lst []);refine wO (xs:=(mks m ds).map V.int) (fun i zs H'=>aY H1 H'/\H' D=some (.lst zs)/\zs=(((List.range i).filter fun p=>decide (mk m ds p≠mk m ds 0)).map fun (p:Nat)=>V.int (p:Int))) ⟨sD,aE,rfl⟩ (fun i zs H' h=>h.2.1) (fun i zs H' _ h=>h.1.seq hS) ?_ ?_
 ·rintro i zs x H2 T2 hx ⟨s2,e2,rfl⟩ hT C hC;rw[getElem?_map] at hx;obtain⟨c,hc,rfl⟩:=Option.map_eq_some_iff.mp hx;have hi:i < m:=by have:=(List.getElem?_eq_some_iff.mp hc).1;lia
  have ec:c=mk m ds i:=by unfold mk;rw[getD_eq_getElem?_getD,hc];rfl
  have g0:atI ((mks m ds).map V.int) 0=some (.int (mk m ds 0)):=bV (j:=0) (by unfold mk;rw[getElem?_map,getElem?_eq_getElem (by lia),getD_eq_getElem?_getD,getElem?_eq_getElem (by lia)];rfl);have ll:(((List.range i).filter fun p=>decide (mk m ds p≠mk m ds 0)).map fun (p:Nat)=>V.int (p:Int)).length<=20:=by
   rw[length_map];have:=length_filter_le (fun p=>decide (mk m ds p≠mk m ds 0)) (List.range i);rw[length_range] at this;lia
  have sT:=aI hT (.tup [.int (i:Int),.int c]);refine⟨T2,_,rfl,SqT.of aE,rfl,_,_,rfl,_,_,rfl,rfl,jE.1,jE.2,?_⟩;generalize upd H2 T2 (.tup [.int (i:Int),.int c])=H3 at sT ⊢;have s3:=s2.trans sT;have e3:=sT _ _ e2;refine⟨_,rfl,_,rfl,M,_,_,_,rfl,rfl,s3.seq hS,g0,rfl,_,rfl,?_⟩;subst ec
  by_cases h:mk m ds i=mk m ds 0
  ·refine ifF (by rw[h];simp) (hC _ _ ⟨s3,e3,?_⟩);rw[range_succ,filter_append,filter_cons_of_neg (by simp[h])];simp
  ·refine ifT (by simp[h]) ⟨_,rfl,e3,bC (by lia),hC _ _ ⟨s3.change hD,aE,?_⟩⟩;rw[range_succ,filter_append,filter_cons_of_pos (by simp[h]),map_append];rfl
 ·rintro zs H2 ⟨s2,e2,rfl⟩;refine q D H2 (s1.trans s2) (s1.free hD) ?_;rw[length_map,mlen] at e2;rw[e2];unfold Ju;rw[map_map];rfl
open Shp
theorem uY:(["one","bottom"]:List Str).Nodup:=by decide +kernel
abbrev sIW:Stmt:=top 52
theorem Tb:aP ["some","bottom","one"] ["some"] (aH sIW):=sK9 rfl rfl rfl rfl (by decide +kernel)
theorem qe6 {dV:Value}(F:aV K "in_wholes" "in_wholes" sIW dV f fd)(G1:aL P w K mg base CX0 1 g1 gd1 ["one","other"] Sq)(b1:aM K gd1 ["one","other"] [])(k1:kI9 K g1)(m1:mI9 mg "greatest_common" g1) :
  aL P w K mg base CX 2 f fd ["some"] (Vh K):=by
 refine F.ok Tb (fun vs H Q E h=>?_) fun cdv A outer s H vs Q E hr h=>?_
 ·obtain⟨_,_,_,_,rfl,_⟩:=h;rfl
 obtain⟨a,xs,ps,n,rfl,hS,hF,hP,hB,h100,hn,q⟩:=h;refine⟨_,(aC (aR (i:=1) Tb.nd rfl (Or.inr rfl) aD)
  (aC (dQ PassesOwn.never rfl (cW (pv 0)) (aZ (i:=2) Tb.nd rfl (Or.inl rfl))
   (aF (aR (i:=1) Tb.nd rfl (Or.inr rfl) (aU cB (aU iQ (pv 1) (aG G1 hr rfl m1 k1 b1 .nil aK (aA (pv 1) (aA (aQ aT (pv 2) aD (fun _ _=>rfl)) aB)))) (aQ aT (pv 2) aD (fun _ _=>rfl))))))
  (aF (aX (dP (aA (dW (nl:=1) (fr:=[1]) (Nc:=["one","bottom"]) (cl:=[("bottom",s.heap.objs.size+1)]) rfl ⟨rfl,rfl,by decide +kernel,by decide +kernel,fun x c h=>h,fD rfl,rfl,fun i n h=>match i,h with | 0,h=>by cases h;exact⟨1,rfl,rfl,rfl,rfl,.inl rfl⟩ | k+1,h=>by rw[show 1+(k+1)=k+2 by lia] at h;cases h⟩
    (cW (pv 0)) (fun C s3 H3 fp pins=>(aZ (i:=0) uY rfl (Or.inl rfl))) (fun C s3 H3 fp pins=>fC)
    (fun C s3 H3 fp pins=>(aU cB (aQ (zI (K:=K) rfl) (pv 0) aD (fun _ _=>rfl)) (aU iQ (pv 1) (aQ (zI (K:=K) rfl) (pv 0) aD (fun _ _=>rfl)))))) (aA (pv 1) aB))))))),?_⟩
 have lx:=hF.length;refine⟨_,rfl,a,rfl,⟨_,hS⟩,?_⟩;refine gS (xs:=xs) (fun i σ H'=>H'=H/\i<=ps.length/\∃z,σ=[some (.ref a),some (.int (dY (ps.take i))),z]) ⟨rfl,Nat.zero_le _,none,rfl⟩ (fun i σ H' _ h=>by rw[h.1];exact hS) ?_ ?_
 ·rintro i x σ H' hx ⟨rfl,hi,z,rfl⟩;obtain⟨u,p,rfl,ep,fu⟩:=hF.get hx;have hi':i < ps.length:=(List.getElem?_eq_some_iff.mp ep).1;obtain⟨f1,f2,_⟩:=oG hP hB i hi;have mono:=Nat.mul_le_mul_left n hi;have hp:=hP p (mem_of_getElem? ep);have pb:=(hB p (mem_of_getElem? ep)).b;have g0:gc (dY (ps.take i)) p.2≠0:=by have:=Mq.uM (a:=dY (ps.take i)) (show p.2≠0 by lia);lia
  have gb:Mq.B n (gc (dY (ps.take i)) p.2):=by
   have:=Cg (t:=dY (ps.take i)) (show p.2≠0 by lia);rw[Se (by lia)] at this;exact pb.le this
  have qb:Mq.B (1+n*i) (Int.fdiv (dY (ps.take i)) (gc (dY (ps.take i)) p.2)):=by
   have d1:gc (dY (ps.take i)) p.2 ∣ dY (ps.take i):=by unfold gc;exact Int.gcd_dvd_left ..
   obtain⟨k,hk⟩:=d1;have:=Mq.iV g0 hk;rw[fY g0 hk];exact f2.le this
  refine⟨_,rfl,_,rfl,cG rfl fu ⟨_,_,rfl,fZ g0 gb (by lia) (cG rfl fu (cA qb pb (by lia) (by lia) ?_))⟩⟩;refine⟨rfl,hi',some (.ref u),?_⟩;rw[Mq.mM ep];rfl
 rintro σ H' ⟨rfl,_,z,rfl⟩;rw[lx,take_length];obtain⟨f1,f2,f3⟩:=oG hP hB ps.length (Nat.le_refl _);rw[take_length] at f1 f2 f3;refine⟨_,rfl,a,rfl,⟨_,hS⟩,fun D hD=>?_⟩;have sD:=aI hD (.lst []);refine dR (xs:=xs) (fun i zs H1=>aY H' H1/\H1 D=some (.lst zs)/\zs=((ps.take i).map (zU (dY ps))).map V.int) ⟨sD,aE,rfl⟩ (fun i zs H1 h=>h.2.1) (fun i zs H1 _ h=>h.1.seq hS) ?_ ?_
 ·rintro i zs x H1 hx ⟨s1,e1,rfl⟩ C hC;obtain⟨u,p,rfl,ep,fu⟩:=hF.get hx;have hi':i < ps.length:=(List.getElem?_eq_some_iff.mp ep).1;have mem:=mem_of_getElem? ep;have hp:=hP p mem;obtain⟨k,hk⟩:=f3 p mem;have fu1:=s1.fq fu;have kb:Mq.B (1+n*ps.length) (Int.fdiv (dY ps) p.2):=by
   have e:=fY (show p.2≠0 by lia) (show dY ps=p.2*k by rw[hk,Int.mul_comm]);rw[e];refine f2.le ?_;rw[hk,Int.natAbs_mul];exact Nat.le_mul_of_pos_right _ (by lia)
  refine⟨fQ.1,fQ.2,gL ?_⟩;refine dA rfl fu1 ⟨_,rfl,cG rfl fu1 (fZ (show p.2≠0 by lia) (hB p mem).b (by lia) (cA (hB p mem).a kb (by lia) (by lia) ?_))⟩;refine⟨e1,bC (by rw[length_map,length_map,length_take];lia),hC _ _ ⟨s1.change hD,aE,?_⟩⟩;rw[take_add_one,ep,map_append,map_append];rfl
 rintro zs H1 ⟨s1,e1,rfl⟩;rw[lx,take_length] at e1;refine⟨_,rfl,zl9 2,fun t ht=>?_⟩;have s2:=aI ht (.tup [.ref D,.int (dY ps)]);exact q t D _ (s1.trans s2) hD (SqT.of aE) (s2 _ _ e1)
abbrev Zf:Stmt:=top 56
theorem Vo:aP ["rows","rank","column","place"] ["rows","rank","column"] (aH Zf):=sK9 rfl rfl rfl rfl (by decide +kernel)
theorem Wn {dV:Value}(F:aV K "pivot_place" "pivot_place" Zf dV f fd)(ml:mg "len"=none)(mr:mg "range"=none) :
  aL P w K mg base CX 1 f fd ["rows","rank","column"] (Vl K):=by
 refine F.ok Vo (fun vs H Q E h=>?_) fun cdv A outer s H vs Q E hr h=>?_
 ·obtain⟨_,_,_,_,_,_,_,_,rfl,_⟩:=h;rfl
 obtain⟨l,D,zs,R,r,c,m,w',rfl,hS,hI,hm,hw,hc,hr',h100,q1,q2⟩:=h;refine⟨_,(aC (dQ PassesOwn.never rfl (qC rfl mr (aA (pv 1) (aA (cN bX rfl ml PySem.boot_len (aA (pv 0) aB)) aB))) (aZ (i:=3) Vo.nd rfl (Or.inl rfl))
   (aF (cC (bF qH (aQ bN (aQ bN (pv 0) (pv 3) (fun _ _=>rfl)) (pv 2) (fun _ _=>rfl)) aD (bM _)) (aF (aX (pv 3))) bH)))
  (aF (aX Xn))),?_⟩
 have lz:=hI.length;obtain⟨k,hk⟩:∃k,m=r+k:=⟨m - r,by lia⟩
 refine⟨_,rfl,_,rfl,l,zs,rfl,.inl hS,(r:Int),(zs.length:Int),rfl,⟨by lia,by lia,by lia,by lia⟩,?_⟩;rw[show ((zs.length:Int) - (r:Int)).toNat=k by lia];refine gM (lo:=(r:Int)) (n:=k) (fun i σ H'=>H'=H/\(∀j,r<=j->j < r+i->ent R j c=0)/\∃z,σ=[some (.ref l),some (.int (r:Int)),some (.int (c:Int)),z]) ⟨rfl,fun j h1 h2=>absurd h1 (by lia),none,rfl⟩ ?_ ?_
 ·rintro i σ H' hi ⟨rfl,hz,z,rfl⟩;obtain⟨u,eu,nu,hu⟩:=hI.at (i:=r+i) (by lia);have eu':atI zs ((r:Int)+(i:Int))=some (.ref u):=by have:=bV eu;rwa [Int.natCast_add] at this
  have ec:=bV (kJ (l:=R.getD (r+i) []) (i:=c) (by rw[hw _ (by lia)];exact hc));refine⟨_,rfl,_,rfl,l,zs,_,_,rfl,rfl,hS,eu',_,rfl,u,_,_,_,rfl,rfl,SqL.of hu,ec,rfl,_,rfl,oP (fun e=>?_) (fun e=>?_)⟩
  ·refine⟨_,rfl,?_⟩;have ne:ent R (r+i) c≠0:=fun z=>by
    have z':(R.getD (r+i) []).getD c 0=0:=z;rw[z'] at e;simp at e
   have:=q1 (r+i) (by lia) (by lia) ne
   rwa [Int.natCast_add] at this
  ·refine⟨rfl,fun j h1 h2=>?_,_,rfl⟩
   by_cases hj:j=r+i
   ·rw[hj];simp at e;exact e
   ·exact hz j h1 (by lia)
 ·rintro σ H' ⟨rfl,hz,z,rfl⟩;exact q2 fun i h1 h2=>hz i h1 (by lia)
theorem eQ:(["here","above","own","other","divisor"]:List Str).Nodup:=by decide +kernel
abbrev Ys:Stmt:=top 58
theorem Oc:aP ["row","upper","column","divisor","own","other"] ["row","upper","column","divisor"] (aH Ys):=sK9 rfl rfl rfl rfl (by decide +kernel)
theorem Xu {dV:Value}(F:aV K "cleared" "cleared" Ys dV f fd)(mz:mg "zip"=none) :
  aL P w K mg base CX 1 f fd ["row","upper","column","divisor"] (wL K):=by
 refine F.ok Oc (fun vs H Q E h=>?_) fun cdv A outer s H vs Q E hr h=>?_
 ·obtain⟨_,_,_,_,_,_,_,rfl,_⟩:=h;rfl
 obtain⟨u,v,row,upper,c,n,dv,rfl,hu,hv,hl,h100,hc,hd,b1,b2,bd,hn,q⟩:=h;refine⟨_,(aC (aR (i:=4) Oc.nd rfl (Or.inr rfl) (aQ bN (pv 1) (pv 2) (fun _ _=>rfl)))
  (aC (aR (i:=5) Oc.nd rfl (Or.inr rfl) (aQ bN (pv 0) (pv 2) (fun _ _=>rfl)))
  (aF (aX (dW (nl:=2) (fr:=[4,5,3]) (Nc:=["here","above","own","other","divisor"]) (cl:=[("own",s.heap.objs.size+2),("other",s.heap.objs.size+3),("divisor",s.heap.objs.size+1)]) (g:=(Bh K 2 (iS (iC 0) (iS (iC 1) Ah)))) rfl ⟨rfl,rfl,by decide +kernel,by decide +kernel,(eV rfl (eV rfl (eV rfl (mL)))),fD rfl,rfl,fun i n h=>match i,h with | 0,h=>by cases h;exact⟨4,rfl,rfl,rfl,rfl,.inl rfl⟩ | 1,h=>by cases h;exact⟨5,rfl,rfl,rfl,rfl,.inl rfl⟩ | 2,h=>by cases h;exact⟨3,rfl,rfl,rfl,rfl,.inl rfl⟩ | k+3,h=>by rw[show 2+(k+3)=k+5 by lia] at h;cases h⟩
    (pQ rfl mz rfl (aA (pv 0) (aA (pv 1) aB))) (fun C s3 H3 fp pins=>(gR rfl (bO (aZ (i:=0) eQ rfl (Or.inl rfl)) (bO (aZ (i:=1) eQ rfl (Or.inl rfl)) fR)))) (fun C s3 H3 fp pins=>fC)
    (fun C s3 H3 fp pins=>(aU iQ (aU jR (aU cB (pv 2) (pv 0)) (aU cB (pv 3) (pv 1))) (pv 4)))))))),?_⟩
 have e1:=bV (kJ (l:=upper) (i:=c) (by lia));have e2:=bV (kJ (l:=row) (i:=c) (by lia));refine⟨_,rfl,_,rfl,v,_,_,_,rfl,rfl,hv,e1,?_⟩;refine⟨_,rfl,_,rfl,u,_,_,_,rfl,rfl,hu,e2,?_⟩;refine⟨_,rfl,_,rfl,u,v,rfl,⟨_,hu⟩,⟨_,hv⟩,fun D hD=>?_⟩;have sD:=aI hD (.lst []);refine rS (xs:=row.map V.int) (ys:=upper.map V.int) (fun i zs H'=>aY H H'/\H' D=some (.lst zs)/\zs=((gQ upper row c dv).take i).map V.int) ⟨sD,aE,rfl⟩ (fun i zs H' h=>h.2.1) (fun i zs H' _ h=>⟨h.1.seq hu,h.1.seq hv⟩) ?_ ?_
 ·rintro i zs x y H1 T1 ex ey ⟨s1,e1',rfl⟩ hT C hC;have hi:i < row.length:=by have:=(List.getElem?_eq_some_iff.mp ex).1;simpa using this
  have ex':x=.int (row.getD i 0):=by rw[kJ hi] at ex;cases ex;rfl
  have ey':y=.int (upper.getD i 0):=by rw[kJ (by lia)] at ey;cases ey;rfl
  subst ex' ey';have sT:=aI hT (.tup [.int (row.getD i 0),.int (upper.getD i 0)]);refine⟨T1,_,rfl,SqT.of aE,rfl,_,_,rfl,_,_,rfl,rfl,jE.1,jE.2,gL ?_⟩;have mm:Mq.B (n+n+1) (upper.getD c 0*row.getD i 0 - row.getD c 0*upper.getD i 0):=Mq.B.sub ((b2 c).mul (b1 i)) ((b1 c).mul (b2 i));refine⟨_,rfl,_,rfl,cA (b2 c) (b1 i) (by lia) (by lia) ⟨_,rfl,_,rfl,cA (b1 c) (b2 i) (by lia) (by lia) ⟨_,_,rfl,rfl,_,rfl,fZ hd bd (by lia) ?_⟩⟩⟩;have ll:(gQ upper row c dv).length=row.length:=by unfold gQ;rw[length_zipWith];lia
  have eA:=sT _ _ e1';refine⟨eA,bC (by rw[length_map,length_take];lia),hC _ _ ⟨(s1.trans sT).change hD,aE,?_⟩⟩;have eg:(gQ upper row c dv)[i]?=some (Int.fdiv (upper.getD c 0*row.getD i 0 - row.getD c 0*upper.getD i 0) dv):=by
   unfold gQ;rw[getElem?_zipWith,lG hi,lG (show i < upper.length by lia)]
  rw[take_add_one,eg,map_append];rfl
 rintro zs H1 ⟨s1,e1',rfl⟩;have ll:(gQ upper row c dv).length=row.length:=by unfold gQ;rw[length_zipWith];lia
 rw[length_map,length_map,take_of_length_le (by rw[ll];lia)] at e1';exact q D H1 s1 hD e1'
theorem cX:(["place","row","upper","rank","divisor","column"]:List Str).Nodup:=by decide +kernel
abbrev rR:Stmt:=top 57
theorem vD:aP ["rows","rank","column","divisor","upper"] ["rows","rank","column","divisor"] (aH rR):=sK9 rfl rfl rfl rfl (by decide +kernel)
theorem Df {dV:Value}(F:aV K "cleared_rows" "cleared_rows" rR dV f fd)(men:mg "enumerate"=none)(G1:aL P w K mg base CX0 1 g1 gd1 ["row","upper","column","divisor"] (wL K))(b1:aM K gd1 ["row","upper","column","divisor"] [])(k1:kI9 K g1)(m1:mI9 mg "cleared" g1) :
  aL P w K mg base CX 2 f fd ["rows","rank","column","divisor"] (vE K):=by
 refine F.ok vD (fun vs H Q E h=>?_) fun cdv A outer s H vs Q E hr h=>?_
 ·obtain⟨_,_,_,_,_,_,_,_,_,_,rfl,_⟩:=h;rfl
 obtain⟨l,D0,zs,R,r,c,m,w',n,dv,rfl,hS,hI,hm,hw,hc,hw100,hr',h100,hd,hB,bd,hn,q⟩:=h;refine⟨_,(aC (aR (i:=4) vD.nd rfl (Or.inr rfl) (aQ bN (pv 0) (pv 1) (fun _ _=>rfl)))
  (aF (aX (dW (nl:=2) (fr:=[4,1,3,2]) (Nc:=["place","row","upper","rank","divisor","column"]) (cl:=[("upper",s.heap.objs.size+4),("rank",s.heap.objs.size+1),("divisor",s.heap.objs.size+3),("column",s.heap.objs.size+2)]) (g:=(Bh K 2 (iS (iC 0) (iS (iC 1) Ah)))) rfl ⟨rfl,rfl,by decide +kernel,by decide +kernel,(eV rfl (eV rfl (eV rfl (eV rfl (mL))))),fD rfl,rfl,fun i n h=>match i,h with | 0,h=>by cases h;exact⟨4,rfl,rfl,rfl,rfl,.inl rfl⟩ | 1,h=>by cases h;exact⟨1,rfl,rfl,rfl,rfl,.inl rfl⟩ | 2,h=>by cases h;exact⟨3,rfl,rfl,rfl,rfl,.inl rfl⟩ | 3,h=>by cases h;exact⟨2,rfl,rfl,rfl,rfl,.inl rfl⟩ | k+4,h=>by rw[show 2+(k+4)=k+6 by lia] at h;cases h⟩
    (yL rfl men rfl (aA (pv 0) aB)) (fun C s3 H3 fp pins=>(gR rfl (bO (aZ (i:=0) cX rfl (Or.inl rfl)) (bO (aZ (i:=1) cX rfl (Or.inl rfl)) fR)))) (fun C s3 H3 fp pins=>fC)
    (fun C s3 H3 fp pins=>(sR (bF dZ (pv 0) (pv 3) (bM _)) (pv 1) (aG G1 hr rfl m1 k1 b1 .nil aK (aA (pv 1) (aA (pv 2) (aA (pv 5) (aA (pv 4) aB))))))))))),?_⟩
 have lz:=hI.length;obtain⟨v,ev,nv,hv⟩:=hI.at (i:=r) (by lia);refine⟨_,rfl,_,rfl,l,zs,_,_,rfl,rfl,hS,bV ev,?_⟩;refine⟨_,rfl,l,rfl,⟨_,hS⟩,fun D hD=>?_⟩;have sD:=aI hD (.lst []);have ll:=Mq.Gv R r c dv;refine wO (xs:=zs) (fun i ys H'=>aY H H'/\H' D=some (.lst ys)/\Imx D H' ys ((cJ R r c dv).take i)) ⟨sD,aE,.nil⟩ (fun i ys H' h=>h.2.1) (fun i ys H' _ h=>h.1.seq hS) ?_ ?_
 ·rintro i ys x H1 T1 ex ⟨s1,e1,I1⟩ hT C hC;have hi:i < m:=by have:=(List.getElem?_eq_some_iff.mp ex).1;lia
  obtain⟨u,eu,nu,hu⟩:=hI.at (i:=i) (by lia);have exu:x=.ref u:=by rw[eu] at ex;cases ex;rfl
  subst exu;have lI:=I1.length;rw[length_take] at lI;have cg:=oS (R:=R) (i:=i) (by lia) r c dv;have cs:(cJ R r c dv).take (i+1)=(cJ R r c dv).take i++[(cJ R r c dv).getD i []]:=by
   rw[take_add_one,getD_eq_getElem?_getD,getElem?_eq_getElem (show i < (cJ R r c dv).length by lia)];rfl
  have sT:=aI hT (.tup [.int (i:Int),.ref u]);have uD:∀{x:Addr} {o:HO},H x=some o->x≠D:=fun h z=>by rw[z,hD] at h;cases h
  refine⟨T1,_,rfl,SqT.of aE,rfl,_,_,rfl,_,_,rfl,rfl,jE.1,jE.2,gL ?_⟩;generalize upd H1 T1 (.tup [.int (i:Int),.ref u])=H2 at sT ⊢;have sA:=s1.trans sT;have eA:=sT _ _ e1;refine⟨_,rfl,_,rfl,rfl,_,rfl,oP (fun e=>?_) (fun e=>?_)⟩
  ·have ei:i=r:=by simp at e;lia
   refine⟨_,rfl,eA,bC (by lia),hC _ _ ⟨sA.change hD,aE,?_⟩⟩;rw[cs,cg,if_pos ei];exact((I1.same sT).app (.cons (uD hu) (sA _ _ hu) .nil)).upd
  ·have ei:i≠r:=by simp at e;lia
   refine⟨_,rfl,_,rfl,_,rfl,_,rfl,u,v,R.getD i [],R.getD r [],c,n,dv,rfl,SqL.of (sA _ _ hu),SqL.of (sA _ _ hv),by rw[hw i hi,hw r hr'],by rw[hw i hi];exact hw100,by rw[hw i hi];exact hc,hd,fun j=>hB i j,fun j=>hB r j,bd,hn,fun l3 H3 s3 n3 e3=>?_⟩;have eB:=s3 _ _ eA;have n3':l3≠D:=fun z=>by rw[z,eA] at n3;cases n3
   refine⟨eB,bC (by lia),hC _ _ ⟨(sA.trans s3).change hD,aE,?_⟩⟩;rw[cs,cg,if_neg ei];exact((I1.same (sT.trans s3)).app (.cons n3' e3 .nil)).upd
 rintro ys H1 ⟨s1,e1,I1⟩;rw[lz,take_of_length_le (by lia)] at I1;exact q D ys H1 s1 hD e1 I1
abbrev Pu:Stmt:=top 55
theorem iH:aP ["rows","width","rank","pivot","sign","column","place","lifted"] ["rows","width"] (aH Pu):=sK9 rfl rfl rfl rfl (by decide +kernel)
theorem Sg {dV:Value}(F:aV K "eliminated" "eliminated" Pu dV f fd)(mr:mg "range"=none)(mli:mg "list"=none)(G1:aL P w K mg base CX0 1 g1 gd1 ["rows","rank","column"] (Vl K))(b1:aM K gd1 ["rows","rank","column"] [])(k1:kI9 K g1)(m1:mI9 mg "pivot_place" g1)(G2:aL P w K mg base CX0 2 g2 gd2 ["rows","rank","column","divisor"] (vE K))(b2:aM K gd2 ["rows","rank","column","divisor"] [])(k2:kI9 K g2)(m2:mI9 mg "cleared_rows" g2) :
  aL P w K mg base CX 3 f fd ["rows","width"] (Go K):=by
 refine F.ok iH (fun vs H Q E h=>?_) fun cdv A outer s H vs Q E hr h=>?_
 ·obtain⟨_,_,_,_,_,_,_,_,rfl,_⟩:=h;rfl
 obtain⟨l,D0,zs,R,m,w',n,Pr,rfl,hS,hI,hm,hw,hmw,hw100,hB,hn1,hn,hm31,hPr,hSt,q⟩:=h;have r1:=hr.mono (show 1<=2 by lia);refine⟨_,(aC (aR (i:=0) iH.nd rfl (Or.inl rfl) (jV gU rfl mli PyProof.Rows.boot_list (aA (pv 0) aB)))
  (aC (aR (i:=2) iH.nd rfl (Or.inl rfl) aD)
  (aC (aR (i:=3) iH.nd rfl (Or.inl rfl) aD)
  (aC (aR (i:=4) iH.nd rfl (Or.inl rfl) aD)
  (aC (dQ PassesOwn.never rfl (hG rfl mr (aA (pv 1) aB)) (aZ (i:=5) iH.nd rfl (Or.inl rfl))
   (aC (aR (i:=6) iH.nd rfl (Or.inl rfl) (aG G1 r1 rfl m1 k1 b1 .nil aK (aA (pv 0) (aA (pv 2) (aA (pv 5) aB)))))
  (aC (cC (zN (Dm (pv 6))) (aF Al) bH)
  (aC (cC (bF qH (pv 6) (pv 2) (bM _)) (aC (aR (i:=7) iH.nd rfl (Or.inl rfl) (aQ bN (pv 0) (pv 6) (fun _ _=>rfl)))
  (aC (jU (aQ bN (pv 0) (pv 2) (fun _ _=>rfl)) (oE (pv 0) (pv 6) iT))
  (aC (jU (pv 7) (oE (pv 0) (pv 2) iT))
  (aF (aR (i:=4) iH.nd rfl (Or.inl rfl) (Oy Ef (pv 4))))))) bH)
  (aC (aR (i:=0) iH.nd rfl (Or.inl rfl) (aG G2 hr rfl m2 k2 b2 .nil aK (aA (pv 0) (aA (pv 2) (aA (pv 5) (aA (pv 3) aB))))))
  (aC (aR (i:=3) iH.nd rfl (Or.inl rfl) (aQ bN (aQ bN (pv 0) (pv 2) (fun _ _=>rfl)) (pv 5) (fun _ _=>rfl)))
  (aF (Dx (i:=2) iH.nd rfl (Or.inl rfl) aD Da))))))))
  (aF (aX (Gk (mC cH (pv 0) (mC cH (pv 2) (mC cH (pv 3) (mC cH (pv 4) Gn)))) rfl rfl (by simp) (by decide))))))))),?_⟩
 refine⟨_,rfl,l,zs,rfl,.inl hS,fun l0 hl0=>?_⟩;have s0:=aI hl0 (.lst zs);have e0:upd H l0 (.lst zs) l0=some (.lst zs):=aE;generalize upd H l0 (.lst zs)=H0 at s0 e0 ⊢;refine⟨_,rfl,(m:Int),rfl,by lia,by lia,?_⟩;rw[Int.toNat_natCast];have b1:Mq.B n 1:=by
  show 1 < 2 ^ n;exact Nat.one_lt_two_pow (by lia)
 refine gM (lo:=0) (n:=m) (fun i σ H'=>aY H H'/\∃(lR:Addr) (zs':List V) (R':List (List Int)) (rank:Nat) (pivot sign:Int) (z5 z6 z7:Option V),σ=[some (.ref lR),some (.int (m:Int)),some (.int (rank:Int)),some (.int pivot),some (.int sign),z5,z6,z7]/\H lR=none/\H' lR=some (.lst zs')/\Imx lR H' zs' R'/\SI m w' (Mq.at2 R) R' rank i pivot sign/\Mq.SB n m R' rank i pivot/\Pr R') ⟨s0,l0,zs,R,0,1,1,none,none,none,rfl,hl0,e0,(hI.other hl0).same s0,.start hm hw,.start hB,hPr⟩ ?_ ?_
 ·rintro i σ H1 hi ⟨s1,lR,zs',R',rank,pivot,sign,z5,z6,z7,rfl,nR,eR,I1,S1,sb,p1⟩;rw[Int.zero_add];obtain⟨bR,bP⟩:=sb.bd5 S1 hm31;obtain⟨A1,c1,B1,_⟩:=S1.bar;have rm:=B1.rm;have rc:=B1.rc;have dn:pivot≠0:=fun z=>B1.dne (by rw[z];simp);clear B1;refine⟨_,rfl,_,rfl,_,rfl,lR,lR,zs',R',rank,i,m,w',rfl,SqL.of eR,I1,S1.len,S1.wid,by lia,rm,by lia,fun p h1 h2 ne=>?_,fun hz=>?_⟩
  ·refine⟨_,rfl,_,rfl,fU ?_⟩;have hrm:rank < m:=by lia
   refine(fun (hrest:∀(sg:Int) (z:Option V) (Hx:Hp) (zs2:List V) (R2:List (List Int)),aY H Hx->Hx lR=some (.lst zs2)->Imx lR Hx zs2 R2->SI m w' (Mq.at2 R) R2 rank i pivot sg->ent R2 rank i≠0->Mq.SB n m R2 rank i pivot->Pr R2->W.KIN.Hid ((?T:Int->Option V->Hp->Prop) sg z Hx))=>?main) ?rest
   case main=>
    refine⟨_,rfl,_,rfl,rfl,_,rfl,oP (fun e=>?c1) (fun e=>?c2)⟩
    case c1=>
     have npr:p≠rank:=by simp at e;lia
     obtain⟨up,eup,nup,hup⟩:=I1.at (i:=p) (by rw[S1.len];lia);obtain⟨ur,eur,nur,hur⟩:=I1.at (i:=rank) (by rw[S1.len];lia);have lz:zs'.length=m:=I1.length.trans S1.len;refine⟨_,rfl,_,rfl,lR,zs',_,_,rfl,rfl,SqL.of eR,bV eup,?_⟩;refine⟨_,rfl,_,rfl,lR,zs',_,_,rfl,rfl,SqL.of eR,bV eur,_,rfl,_,rfl,lR,zs',_,p,rfl,rfl,eR,kN (by lia),?_⟩;have e2:upd H1 lR (.lst (zs'.set p (.ref ur))) lR=some (.lst (zs'.set p (.ref ur))):=aE;have I2:=(Imx.set nur hur p I1).upd (o:=.lst (zs'.set p (.ref ur)));have s2:aY H (upd H1 lR (.lst (zs'.set p (.ref ur)))):=s1.change nR;have hup2:upd H1 lR (.lst (zs'.set p (.ref ur))) up=some (.lst ((R'.getD p []).map V.int)):=by rw[aW nup];exact hup
     generalize upd H1 lR (.lst (zs'.set p (.ref ur)))=H2 at e2 I2 s2 hup2 ⊢;refine⟨_,rfl,_,rfl,_,rfl,lR,_,_,rank,rfl,rfl,e2,kN (by rw[length_set];lia),?_⟩;have e3:upd H2 lR (.lst ((zs'.set p (.ref ur)).set rank (.ref up))) lR=some (.lst ((zs'.set p (.ref ur)).set rank (.ref up))):=aE;have I3:=(Imx.set nup hup2 rank I2).upd (o:=.lst ((zs'.set p (.ref ur)).set rank (.ref up)));have s3:aY H (upd H2 lR (.lst ((zs'.set p (.ref ur)).set rank (.ref up)))):=s2.change nR;generalize upd H2 lR (.lst ((zs'.set p (.ref ur)).set rank (.ref up)))=H3 at e3 I3 s3 ⊢;refine⟨_,rfl,_,rfl,?_⟩;show gO _ _ _ [some (.ref lR),some (.int (m:Int)),some (.int (rank:Int)),some (.int pivot),some (.int (-sign)),some (.int (i:Int)),some (.int (p:Int)),some (.ref up)] H3;have S3:=S1.swap (p:=p) (by lia) h2;have bR3:=sb.swap S1 (p:=p) (by lia) h2;have ne3:ent (fP R' p rank) rank i≠0:=by
      unfold ent;rw[zQ (by rw[S1.len];lia) (by rw[S1.len];lia)];have:Mq.sw p rank rank=p:=by unfold Mq.sw;rw[if_pos rfl]
      rw[this];exact ne
     have I3':Imx lR H3 ((zs'.set p (.ref ur)).set rank (.ref up)) (fP R' p rank):=I3;clear I3 hup2;have p3:=hSt.sw _ _ _ _ _ _ S1 (show rank < p by lia) h2 p1;generalize -sign=sg at S3 ⊢;generalize some (V.ref up)=zz at ⊢;exact(hrest sg zz H3 _ _ s3 e3 I3' S3 ne3 bR3 p3).out
    case c2=>
     have epr:p=rank:=by simp at e;lia
     show gO _ _ _ [some (.ref lR),some (.int (m:Int)),some (.int (rank:Int)),some (.int pivot),some (.int sign),some (.int (i:Int)),some (.int (p:Int)),z7] H1;exact(hrest sign z7 H1 _ _ s1 eR I1 S1 (by rw[<- epr];exact ne) sb p1).out
   case rest=>
   intro sg z Hx zs2 R2 sx ex Ix Sx nx bx px;refine⟨?_⟩;have bxx:=bx.bd5 Sx hm31;refine⟨_,rfl,_,rfl,_,rfl,_,rfl,lR,lR,zs2,R2,rank,i,m,w',bw n m,pivot,rfl,SqL.of ex,Ix,Sx.len,Sx.wid,by lia,hw100,hrm,by lia,dn,bxx.1,bxx.2,hn,fun l3 zs3 H3 s3 n3 e3 I3=>?_⟩;have S3:=Sx.clear hrm (by lia) nx;have b3:=bx.clear Sx hrm (by lia) nx;obtain⟨u,eu,nu,hu⟩:=I3.at (i:=rank) (by rw[S3.len];lia);have ec:=bV (kJ (l:=(cJ R2 rank i pivot).getD rank []) (i:=i) (by rw[S3.wid _ hrm];lia));refine⟨_,rfl,_,rfl,l3,zs3,_,_,rfl,rfl,SqL.of e3,bV eu,_,rfl,u,_,_,_,rfl,rfl,SqL.of hu,ec,?_⟩;refine⟨_,rfl,_,_,rfl,rfl,?_⟩;have ev:((cJ R2 rank i pivot).getD rank []).getD i 0=ent R2 rank i:=by rw[oS (by rw[Sx.len];lia),if_pos rfl];rfl
   refine⟨sx.trans s3,l3,zs3,_,rank+1,ent R2 rank i,sg,some (.int (i:Int)),some (.int (p:Int)),z,?_,sx.free n3,e3,I3,S3,b3,hSt.cl _ _ _ _ _ Sx hrm (by lia) nx px⟩;rw[ev];rfl
  ·refine⟨_,rfl,_,rfl,gL ?_⟩;exact⟨s1,lR,zs',R',rank,pivot,sign,_,_,_,rfl,nR,eR,I1,S1.skip hz,sb.skip hz,p1⟩
 ·rintro σ H1 ⟨s1,lR,zs',R',rank,pivot,sign,z5,z6,z7,rfl,nR,eR,I1,S1,sb,p1⟩;obtain⟨bR,bP⟩:=sb.bd5 S1 hm31;obtain⟨A1,c1,B1,_⟩:=S1.bar;have rm:=B1.rm;intro d hd;have nd:lR≠d:=fun z=>by rw[z,hd] at eR;cases eR
  refine⟨_,rfl,_,rfl,_,rfl,_,rfl,aE,[(.inr "rows",.ref lR),(.inr "rank",.int (rank:Int)),(.inr "pivot",.int pivot),(.inr "sign",.int sign)],rfl,by show 4<=15;decide,?_⟩;have sd:aY H1 (upd (upd H1 d (.dK [])) d (Mg lR rank pivot sign)):=(aI hd _).change hd;exact q d lR zs' R' rank pivot sign _ (s1.trans sd) (s1.free hd) nR aE (sd _ _ eR) (I1.same sd) S1 bR bP p1
theorem qI:(["row","side"]:List Str).Nodup:=by decide +kernel
theorem qO:(["row","many","end"]:List Str).Nodup:=by decide +kernel
abbrev xV:Stmt:=top 51
theorem oV:aP ["matrix","right","many","rows","end"] ["matrix","right"] (aH xV):=sK9 rfl rfl rfl rfl (by decide +kernel)
theorem Je {dV:Value}(F:aV K "solved" "solved" xV dV f fd)(ml:mg "len"=none)(mz:mg "zip"=none)(G1:aL P w K mg base CX0 2 g1 gd1 ["some"] (Vh K))(b1:aM K gd1 ["some"] [])(k1:kI9 K g1)(m1:mI9 mg "in_wholes" g1)(G2:aL P w K mg base CX0 3 g2 gd2 ["rows","width"] (Go K))(b2:aM K gd2 ["rows","width"] [])(k2:kI9 K g2)(m2:mI9 mg "eliminated" g2)(G3:aL P w K mg base CX0 2 g3 gd3 ["top","bottom"] gD)(b3:aM K gd3 ["top","bottom"] [])(k3:kI9 K g3)(m3:mI9 mg "fraction" g3) :
  aL P w K mg base CX 5 f fd ["matrix","right"] (vU K):=by
 refine F.ok oV (fun vs H Q E h=>?_) fun cdv A outer s H vs Q E hr h=>?_
 ·obtain⟨_,_,_,_,_,_,_,_,_,_,rfl,_⟩:=h;rfl
 obtain⟨g,bR,D0,H00,us,bs,X,qs,k,n,rfl,hU,hX,hB,hQ,ql,qL,qB,xP,xB,x4,hk,hBd,hn1,hnb,hz0,q⟩:=h;have hu:=zS hr;have r3:=hr.mono (show 3<=4 by lia);have r2:=hr.mono (show 2<=4 by lia);refine⟨_,(aC (aR (i:=2) oV.nd rfl (Or.inr rfl) (cN bX rfl ml PySem.boot_len (aA (pv 0) aB)))
  (aC (Fe (i:=3) (nl:=2) (fr:=[]) (Nc:=["row","side"]) (cl:=[]) (g:=(Bh K 2 (iS (iC 0) (iS (iC 1) Ah)))) oV.nd rfl rfl rfl ⟨rfl,rfl,by decide +kernel,by decide +kernel,fun x c h=>(by cases h),fD rfl,rfl,fun i n h=>(by simp at h)⟩
    (pQ rfl mz rfl (aA (pv 0) (aA (pv 1) aB))) (fun C s3 H3 fp pins=>(gR rfl (bO (aZ (i:=0) qI rfl (Or.inl rfl)) (bO (aZ (i:=1) qI rfl (Or.inl rfl)) fR)))) (fun C s3 H3 fp pins=>fC)
    (fun C s3 H3 fp pins=>(aQ (zI (K:=K) rfl) (aG G1 r2 rfl m1 k1 b1 .nil aK (aA (aU yG (pv 0) (dH (aA (pv 1) aB))) aB)) aD (fun _ _=>rfl))) rfl)
  (aC (aR (i:=4) oV.nd rfl (Or.inr rfl) (aG G2 r3 rfl m2 k2 b2 .nil aK (aA (pv 3) (aA (pv 2) aB))))
  (aC (cC (bF xE (qV hu (pv 4) cH (fun _ _=>rfl)) (pv 2) (bM _)) (aF gA) bH)
  (aF (aX (dW (nl:=1) (fr:=[2,4]) (Nc:=["row","many","end"]) (cl:=[("many",s.heap.objs.size+1),("end",s.heap.objs.size+2)]) rfl ⟨rfl,rfl,by decide +kernel,by decide +kernel,(eV rfl (eV rfl (mL))),fD rfl,rfl,fun i n h=>match i,h with | 0,h=>by cases h;exact⟨2,rfl,rfl,rfl,rfl,.inl rfl⟩ | 1,h=>by cases h;exact⟨4,rfl,rfl,rfl,rfl,.inl rfl⟩ | k+2,h=>by rw[show 1+(k+2)=k+3 by lia] at h;cases h⟩
    (cW (qV hu (pv 4) cH (fun _ _=>rfl))) (fun C s3 H3 fp pins=>(aZ (i:=0) qO rfl (Or.inl rfl))) (fun C s3 H3 fp pins=>fC)
    (fun C s3 H3 fp pins=>(aG G3 r2 rfl m3 k3 b3 .nil aK (aA (aQ (rQ (K:=K) rfl) (pv 0) (pv 1) (fun _ _=>rfl)) (aA (qV hu (pv 2) cH (fun _ _=>rfl)) aB))))))))))),?_⟩
 have lu:=hX.length;have lb:=hQ.length;have hw:∀row∈X,row.length=X.length:=fun row h=>(xB row h).2;have qP:=qL.pos;have lA:=Cd ql;refine⟨_,rfl,g,us,rfl,.inl hU,?_⟩;refine⟨_,rfl,_,rfl,g,bR,rfl,⟨_,hU⟩,⟨_,hB⟩,fun D hD=>?_⟩;have sD:=aI hD (.lst []);refine rS (xs:=us) (ys:=bs) (fun i zs H'=>aY H H'/\H' D=some (.lst zs)/\Imx D H' zs ((iF X qs).take i)) ⟨sD,aE,.nil⟩ (fun i zs H' h=>h.2.1) (fun i zs H' _ h=>⟨h.1.seq hU,h.1.seq hB⟩) ?_ ?_
 ·rintro i zs x y H1 T1 ex ey ⟨s1,e1,I1⟩ hT C hC;obtain⟨u,ys,row,rfl,er,_,_,hu',fu⟩:=hX.get ex;obtain⟨v,qv,rfl,eq,fv⟩:=hQ.get ey;have hi:i < X.length:=(List.getElem?_eq_some_iff.mp er).1;have mem:=mem_of_getElem? er;have memq:=mem_of_getElem? eq;obtain⟨rb,rl⟩:=xB row mem;have lys:=fu.length;have sT:=aI hT (.tup [.ref u,.ref v]);refine⟨T1,_,rfl,SqT.of aE,rfl,_,_,rfl,_,_,rfl,rfl,jE.1,jE.2,gL ?_⟩;generalize upd H1 T1 (.tup [.ref u,.ref v])=H2 at sT ⊢;have s2:=s1.trans sT;refine⟨_,rfl,_,rfl,zl9 1,fun lo hlo=>?_⟩;have s3:=aI hlo (.lst [.ref v]);have e3:upd H2 lo (.lst [.ref v]) lo=some (.lst [.ref v]):=aE;generalize upd H2 lo (.lst [.ref v])=H3 at s3 e3 ⊢;have s03:=s2.trans s3;refine⟨u,lo,_,_,rfl,rfl,s03 _ _ hu',e3,Nat.le_of_lt (bC (by simp only[length_cons,length_nil];lia)),fun p hp=>?_⟩;have s4:=aI hp (.lst (ys++[.ref v]));have e4:upd H3 p (.lst (ys++[.ref v])) p=some (.lst (ys++[.ref v])):=aE;generalize upd H3 p (.lst (ys++[.ref v]))=H4 at s4 e4 ⊢;have s04:=s03.trans s4;have s14:=sT.trans (s3.trans s4);refine⟨p,_,row++[qv],k,rfl,SqL.of e4,(fu.same s04).app (.cons (s04.fq fv) .nil),fun z hz=>?_,fun z hz=>?_,by rw[List.length_append];simp only[length_cons,length_nil];lia,by rw[List.length_append,rl];simp only[length_cons,length_nil];rw[show X.length+(0+1)=X.length+1 by lia];lia,fun t l H5 s5 nl ht hl=>?_⟩
  ·rcases mem_append.mp hz with z1 | z1
   ·exact xP row mem z z1
   ·have:z=qv:=by simpa using z1
    rw[this];exact qP qv memq
  ·rcases mem_append.mp hz with z1 | z1
   ·exact rb z z1
   ·have:z=qv:=by simpa using z1
    rw[this];exact qB qv memq
  have s15:=s14.trans s5;have e5:=s15 _ _ e1;have ne:l≠D:=fun z=>by rw[z,s14 _ _ e1] at nl;cases nl
  have lz:=I1.length;rw[length_take,lA] at lz;refine⟨t,_,_,_,rfl,rfl,ht,rfl,e5,bC (by lia),hC _ _ ⟨(s1.trans s15).change hD,aE,?_⟩⟩;have ee:(iF X qs).take (i+1)=(iF X qs).take i++[iw (row++[qv])]:=by
   rw[take_add_one];unfold iF mB;rw[getElem?_map,getElem?_zipWith,er,eq];rfl
  rw[ee];exact((I1.same s15).app (.cons ne hl .nil)).upd
 rintro zs H1 ⟨s1,e1,I1⟩;rw[show min us.length bs.length=(iF X qs).length by lia,take_length] at I1;have bits4:bw n X.length<=9000:=Nat.le_trans hnb (by decide);have wA:∀i,i < X.length->((iF X qs).getD i []).length=X.length+1:=fun i hi=>by
  rw[sZ ql hi,uJ,List.length_append,hw _ (mem_of_getElem? (uT hi))];rfl
 refine⟨_,rfl,_,rfl,D,D,zs,iF X qs,X.length,X.length+1,n,fun R=>Mq.KI X.length (Mq.at2 (iF X qs)) R/\Mq.KJ X.length (Mq.at2 (iF X qs)) R,by rw[lu];rfl,SqL.of e1,I1,lA,wA,by lia,by lia,hBd,hn1,by lia,by lia,⟨fun Φ _ hz=>hz,fun Φ _ hz=>hz⟩,Oj,fun d lE zE R' rank pivot sign H2 s2 nd nlE ed el IE SE bE bp LE=>?_⟩;obtain⟨g1',g2',g3',g4'⟩:=Ak ed;have s02:=s1.trans s2;have wr:=Qe xP qP ql hw SE;refine⟨_,rfl,d,_,rfl,g2',_,rfl,_,_,rfl,rfl,_,rfl,oP (fun e=>?_) (fun e=>?_)⟩
 ·-- lame
  have hr':rank < X.length:=by simp at e;lia
  have hz:wgt X=0:=by
   rcases wr with z | z
   ·exact z.2
   ·lia
  exact absurd hz hz0
 ·-- whole
  have hr':rank=X.length:=by
   rcases wr with z | z
   ·simp at e;lia
   ·exact z.1
  have hz:wgt X≠0:=by
   rcases wr with z | z
   ·lia
   ·exact z.2
  subst hr';have dn:=SE.dne;have pn:pivot≠0:=fun z=>dn (by rw[z];simp);have lzE:=IE.length;rw[SE.len] at lzE;refine⟨_,rfl,d,_,rfl,g1',lE,rfl,⟨_,SqL.of el⟩,fun D2 hD2=>?_⟩;have sD2:=aI hD2 (.lst []);refine dR (xs:=zE) (fun i ws H'=>aY H2 H'/\H' D2=some (.lst ws)/\Fqs K H' ws ((List.range i).map fun i=>red (ent R' i X.length) pivot)) ⟨sD2,aE,.nil⟩ (fun i ws H' h=>h.2.1) (fun i ws H' _ h=>h.1.seq (SqL.of el)) ?_ ?_
  ·rintro i ws x H3 hx ⟨s3,e3,F3⟩ C hC;have hi:i < X.length:=by have:=(List.getElem?_eq_some_iff.mp hx).1;lia
   obtain⟨u,eu,nu,hu2⟩:=IE.at (i:=i) (by rw[SE.len];exact hi);have exu:x=.ref u:=by rw[eu] at hx;cases hx;rfl
   subst exu;have wid:=SE.wid i hi;have lz:=F3.length;rw[length_map,length_range] at lz;have ea:=bV (kJ (l:=R'.getD i []) (i:=X.length) (by lia));rw[<- lu] at ea;refine⟨fQ.1,fQ.2,gL ?_⟩;refine⟨_,rfl,_,rfl,u,_,_,_,rfl,rfl,SqL.of (s3 _ _ hu2),ea,?_⟩;rw[lu];refine⟨_,rfl,d,_,rfl,Ak (s3 _ _ ed) |>.2.2.1,_,_,bw n X.length,rfl,pn,bp,bits4,fun r H4 s4 e4=>?_⟩;have eD:=s4 _ _ e3;refine⟨eD,bC (by lia),hC _ _ ⟨(s3.trans s4).change hD2,aE,?_⟩⟩;rw[range_succ,map_append];exact((F3.same s4).app (.cons (Fq.of e4) .nil)).upd eD
  rintro ws H3 ⟨s3,e3,F3⟩;rw[lzE] at F3;have gd:∀j,j < X.length->((List.range X.length).map fun i=>red (ent R' i X.length) pivot).getD j Mq.z0=red (ent R' j X.length) pivot:=fun j hj=>by
   rw[getD_eq_getElem?_getD,getElem?_map,getElem?_range hj];rfl
  refine q D2 ws _ H3 (s02.trans s3) (s02.free hD2) e3 F3 ⟨⟨by simp,fun p hp=>?_,fun p hp=>?_,fun i hi=>?_⟩,fun v hv j hj=>?_⟩ (Ra pn bp fun p hp=>by obtain⟨i,hi,rfl⟩:=mem_map.mp hp;exact⟨_,bE i X.length,rfl⟩)
  ·obtain⟨i,_,rfl⟩:=mem_map.mp hp;exact iA pn
  ·obtain⟨i,hi,rfl⟩:=mem_map.mp hp;have le:=lT (t:=ent R' i X.length) pn;exact⟨((bE i X.length).le le.1).mono bits4,(bp.le le.2).mono bits4⟩
  ·rw[<- Xx xP qP ql hw LE.1 SE hi];refine aS fun j hj=>?_;rw[gd j hj,jH pn];rfl
  ·rw[gd j hj,jH pn,<- Ya xP qP ql hw LE.2 SE hv hj];rfl
abbrev wHo:Kd->Bool:=fun k=>inV (.str k.wd) [.str "hold"]
def Ve (CN:Addr)(K:Frag):Sp:=fun vs H Q _=>∃(n l:Addr) (m:Nat) (ds:List RD),vs=[.ref n]/\cV CN K H n l (m:Int) ds/\(∀d∈ds,cO (m:Int) d.2.1 d.2.2.1)/\1<=m/\m<=20/\ds.length<=40/\(fB wHo (skl ds) ds.length).2=[]/\Ju m ds=[]/\∀H',aY H H'->Q .non H'
abbrev Yb:Stmt:=top 67
theorem Qx:aP ["net","held","points"] ["net"] (aH Yb):=sK9 rfl rfl rfl rfl (by decide +kernel)
theorem Zc {dV:Value}(F:aV K "refuse_unanswered" "refuse_unanswered" Yb dV f fd){CN:Addr}(ml:mg "len"=none)(G1:aL P w K mg base CX0 5 g1 gd1 ["net","words"] (He CN K))(b1:aM K gd1 ["net","words"] [])(k1:kI9 K g1)(m1:mI9 mg "rings" g1)(G2:aL P w K mg base CX0 6 g2 gd2 ["net"] (Fj CN K))(b2:aM K gd2 ["net"] [])(k2:kI9 K g2)(m2:mI9 mg "floating" g2) :
  aL P w K mg base CX 7 f fd ["net"] (Ve CN K):=by
 refine F.ok Qx (fun vs H Q E h=>?_) fun cdv A outer s H vs Q E hr h=>?_
 ·obtain⟨_,_,_,_,rfl,_⟩:=h;rfl
 obtain⟨n,l,m,ds,rfl,nt,pt,mo,m20,h40,hR,hF,q⟩:=h;have r5:=hr.mono (show 5<=6 by lia);refine⟨_,(aC (aR (i:=1) Qx.nd rfl (Or.inl rfl) (aG G1 r5 rfl m1 k1 b1 .nil aK (aA (pv 0) (aA (dH (aA cH aB)) aB))))
  (aC (cC (bF Hw (cN bX rfl ml PySem.boot_len (aA (pv 1) aB)) aD (bM _)) (aF gA) bH)
  (aC (aR (i:=2) Qx.nd rfl (Or.inl rfl) (aG G2 hr rfl m2 k2 b2 .nil aK (aA (pv 0) aB)))
  (aF (cC (bF Hw (cN bX rfl ml PySem.boot_len (aA (pv 2) aB)) aD (bM _)) (aF gA) bH))))),?_⟩
 refine⟨_,rfl,zl9 1,fun L hL=>?_⟩;have s1:=aI hL (.lst [.str "hold"]);have e1:upd H L (.lst [.str "hold"]) L=some (.lst [.str "hold"]):=aE;generalize upd H L (.lst [.str "hold"])=H1 at s1 e1 ⊢;refine⟨n,l,.ref L,m,ds,wHo,rfl,nt.same s1,pt,m20,h40,.seq (SqL.of e1) rfl,fun r us H2 s2 nr er G nx=>?_⟩;rw[hR] at G;have lu:us=[]:=eq_nil_of_length_eq_zero (by have:=G.l;simpa using this);subst lu;refine⟨_,rfl,r,_,rfl,.inl (SqL.of er),_,_,rfl,rfl,_,rfl,L2.ifF rfl ?_⟩;have s02:=s1.trans s2;refine⟨_,rfl,n,l,m,ds,rfl,nt.same s02,pt,mo,m20,by lia,fun l' H3 s3 nl e3=>?_⟩;rw[hF] at e3;refine⟨_,rfl,l',_,rfl,.inl (SqL.of e3),_,_,rfl,rfl,_,rfl,L2.ifF rfl ?_⟩;exact q H3 (s02.trans s3)
def tP (K:Frag)(CK:Kd->Addr)(k:Kd):Sp:=fun vs H Q _=>∃(x z a h:Addr) (s g:V) (p u v:Q2) (n m:Nat),vs=[.ref x,.ref a,.ref h]/\Rw CK H x k s g (.ref z)/\Fq K H z p/\Fq K H a u/\Fq K H h v/\1<=p.2/\1<=u.2/\Bd n p/\Bd m u/\n+m+1<=9000/\(k=.pc->0 < p.1)/\
 ∀r H',aY H H'->Fq K H' r (Jd k u v p)->Q (.ref r) H'
abbrev oC:Stmt:=cU (top 36) 3
theorem zZ:aP ["self","fall","held"] ["self","fall","held"] (aH oC):=sK9 rfl rfl rfl rfl (by decide +kernel)
theorem xJ {dV:Value}(F:aV K "stream" "Piece.stream" oC dV f fd)(T:RT K mg CR CK)(G1:aL P w K mg base CX0 3 g1 gd1 ["one","other"] (tX K))(b1:aM K gd1 ["one","other"] [])(k1:kI9 K g1)(m1:mI9 mg "over" g1):aL P w K mg base CX 4 f fd ["self","fall","held"] (tP K CK .pc):=by
 refine F.ok zZ (fun vs H Q E h=>?_) fun cdv A outer s H vs Q E hr h=>?_
 ·obtain⟨_,_,_,_,_,_,_,_,_,_,_,rfl,_⟩:=h;rfl
 obtain⟨x,z,a,h,s,g,p,u,v,n,m,rfl,⟨dx,hx⟩,fz,fa,fh,hp,hu,bp,bu,hn,h0,q⟩:=h;refine⟨_,(aF (aX (aG G1 hr rfl m1 k1 b1 .nil aK (aA (pv 1) (aA (bU (pv 0) rfl) aB))))),?_⟩;exact⟨_,rfl,_,rfl,x,CK .pc,dx,_,_,rfl,hx,T.cl _,T.nZ _,eJ _ _ _,a,z,u,p,m,n,rfl,fa,fz,hu,hp,h0 rfl,bu,bp,by lia,fun r H1 s1 e1=>q r H1 s1 (Fq.of e1)⟩
abbrev oA:Stmt:=cU (top 37) 3
theorem Ad:aP ["self","fall","held"] ["self","fall","held"] (aH oA):=sK9 rfl rfl rfl rfl (by decide +kernel)
theorem yO {dV : Value}(F : aV K "stream" "Push.stream" oA dV f fd)(T : RT K mg CR CK)
     : aL P w K mg base CX 4 f fd ["self", "fall", "held"] (tP K CK .pu) := by
  refine F.ok Ad (fun vs H Q E h => ?_) (fun cdv A outer s H vs Q E hr h => ?_)
  · obtain ⟨x, z, a, h, s, g, p, u, v, n, m, rfl, _⟩ := h
    rfl
  obtain ⟨x, z, a, h, s, g, p, u, v, n, m, rfl, ⟨dx, hx⟩, fz, fa, fh, hp, hu, bp, bu, hn, h0, q⟩ := h;refine ⟨_, (aF (aX (bU (pv 0) rfl))), ?_⟩;exact ⟨_, rfl, x, CK .pu, dx, _, _, rfl, hx, T.cl _, T.nZ _, eJ _ _ _, q z H (aY.refl H) fz⟩
abbrev nX:Stmt:=cU (top 38) 3
theorem Bf:aP ["self","fall","held"] ["self","fall","held"] (aH nX):=sK9 rfl rfl rfl rfl (by decide +kernel)
theorem zG {dV : Value}(F : aV K "stream" "Hold.stream" nX dV f fd)(T : RT K mg CR CK)
     : aL P w K mg base CX 4 f fd ["self", "fall", "held"] (tP K CK .ho) := by
  refine F.ok Bf (fun vs H Q E h => ?_) (fun cdv A outer s H vs Q E hr h => ?_)
  · obtain ⟨x, z, a, h, s, g, p, u, v, n, m, rfl, _⟩ := h
    rfl
  obtain ⟨x, z, a, h, s, g, p, u, v, n, m, rfl, ⟨dx, hx⟩, fz, fa, fh, hp, hu, bp, bu, hn, h0, q⟩ := h;refine ⟨_, (aF (aX (pv 2))), ?_⟩;exact ⟨_, rfl, q h H (aY.refl H) fh⟩
abbrev Nz:Stmt:=top 40
theorem Yw:aP ["row","heights"] ["row","heights"] (aH Nz):=sK9 rfl rfl rfl rfl (by decide +kernel)
theorem Rt {dV:Value}(F:aV K "fall_of" "fall_of" Nz dV f fd)(T:RT K mg CR CK)(G1:aL P w K mg base CX0 3 g1 gd1 ["one","other"] (eP K Mq.minus))(b1:aM K gd1 ["one","other"] [])(k1:kI9 K g1)(m1:mI9 mg "minus" g1) :
  aL P w K mg base CX 4 f fd ["row","heights"] (yX K CK):=by
 refine F.ok Yw (fun vs H Q E h=>?_) fun cdv A outer s H vs Q E hr h=>?_
 ·obtain⟨_,_,_,_,_,_,_,rfl,_⟩:=h;rfl
 obtain⟨x,a,⟨k,i,j,p⟩,z,xs,hp,n,rfl,rw,st,pt,q⟩:=h;refine⟨_,(aF (aX (aG G1 hr rfl m1 k1 b1 .nil aK (aA (aQ bN (pv 1) (bU (pv 0) rfl) (fun _ _=>rfl)) (aA (aQ bN (pv 1) (bU (pv 0) rfl) (fun _ _=>rfl)) aB))))),?_⟩;obtain⟨dx,hx⟩:=id rw;obtain⟨i0,i1,j0,j1⟩:cO (n:Int) i j:=pt;have hl:=st.l;have ai:=iW (ps:=hp) (j:=i.toNat) (by lia);have aj:=iW (ps:=hp) (j:=j.toNat) (by lia);obtain⟨u,eu,fu⟩:=st.f.at ai;obtain⟨v,ev,fv⟩:=st.f.at aj;have ti:atI xs i=some (.ref u):=by
  have:=bV eu
  rwa [show ((i.toNat:Nat):Int)=i by lia] at this
 have tj:atI xs j=some (.ref v):=by
  have:=bV ev
  rwa [show ((j.toNat:Nat):Int)=j by lia] at this
 refine⟨_,rfl,_,rfl,x,CK _,_,_,_,rfl,hx,T.cl _,T.nS _,dC _ _ _,a,xs,_,_,rfl,rfl,st.s,ti,?_⟩;refine⟨_,rfl,_,rfl,x,CK _,_,_,_,rfl,hx,T.cl _,T.nG _,eO _ _ _,a,xs,_,_,rfl,rfl,st.s,tj,?_⟩;have bi:=st.b _ (mem_of_getElem? ai);have bj:=st.b _ (mem_of_getElem? aj);exact⟨u,v,_,_,3900,3900,rfl,fu,fv,bi.1.pos,bj.1.pos,bi.2,bj.2,by lia,q⟩
def Hr (K:Frag)(CK:Kd->Addr):Sp:=fun vs H Q _=>∃(a b h:Addr) (xs ls ys:List V) (ds:List RD) (lv hs:List Q2) (m:Nat),vs=[.ref a,.ref b,.ref h]/\H a=some (.lst xs)/\gJ CK K H xs ds/\StB K H b ls lv m/\SqL K H h ys/\Fqs K H ys hs/\(∀p∈hs,Low p)/\(∀d∈ds,qM (m:Int) d)/\bG ds<=hs.length/\ds.length<=40/\∀l zs H',aY H H'->H l=none->H' l=some (.lst zs)->Fqs K H' zs (gK lv hs 0 ds)->Q (.ref l) H'
abbrev Eb:Stmt:=top 69
theorem mQ:aP ["rows","levels","held","flows","taken","row","fall"] ["rows","levels","held"] (aH Eb):=sK9 rfl rfl rfl rfl (by decide +kernel)
theorem Kl {dV:Value}(F:aV K "flows_of" "flows_of" Eb dV f fd)(T:RT K mg CR CK){aN:Addr}(fN:∀H,Fq K H aN (0,1))(mNO:mI9 mg "NOUGHT" aN)(GW:∀k,aL P w K mg base CX0 1 (fW k) (fdW k) ["self"] (jL k))(bW:∀k,aM K (fdW k) ["self"] [])(mW:∀k,gE K (CK k) "word" (fW k))(GS:∀k,aL P w K mg base CX0 4 (fS k) (fdS k) ["self","fall","held"] (tP K CK k))(bS:∀k,aM K (fdS k) ["self","fall","held"] [])(mS:∀k,gE K (CK k) "stream" (fS k))(G1:aL P w K mg base CX0 4 g1 gd1 ["row","heights"] (yX K CK))(b1:aM K gd1 ["row","heights"] [])(k1:kI9 K g1)(m1:mI9 mg "fall_of" g1) :
  aL P w K mg base CX 5 f fd ["rows","levels","held"] (Hr K CK):=by
 refine F.ok mQ (fun vs H Q E h=>?_) fun cdv A outer s H vs Q E hr h=>?_
 ·obtain⟨_,_,_,_,_,_,_,_,_,_,rfl,_⟩:=h;rfl
 obtain⟨a,b,h,xs,ls,ys,ds,lv,hs,m,rfl,ea,Rb,SA,hS,hF,hlo,hK,hh,h40,q⟩:=h;have r1:=hr.mono (show 1<=4 by lia);refine⟨_,(aC (aR (i:=3) mQ.nd rfl (Or.inl rfl) (dH aB))
  (aC (aR (i:=4) mQ.nd rfl (Or.inl rfl) aD)
  (aC (dQ PassesOwn.never rfl (cW (pv 0)) (aZ (i:=5) mQ.nd rfl (Or.inl rfl))
   (aC (aR (i:=6) mQ.nd rfl (Or.inl rfl) (aG G1 hr rfl m1 k1 b1 .nil aK (aA (pv 5) (aA (pv 1) aB))))
  (aF (cC (bF dZ (fI (pv 5) T.cl mW GW r1 bW .nil aK) cH (bM _)) (aC (bQ (kY PySem.F.plainAttrs_list PySem.F.slot_list_append PySem.F.type_list_append gC (pv 3) (aA (Ai (pv 5) T.cl mS GS hr bS .nil aK (aA (pv 6) (aA (aQ bN (pv 2) (pv 4) (fun _ _=>rfl)) aB))) aB)))
  (aF (Dx (i:=4) mQ.nd rfl (Or.inl rfl) aD Da))) (aF (bQ (kY PySem.F.plainAttrs_list PySem.F.slot_list_append PySem.F.type_list_append gC (pv 3) (aA (Ai (pv 5) T.cl mS GS hr bS .nil aK (aA (pv 6) (aA (dI (v:=.ref aN) rfl mNO rfl) aB))) aB))))))))
  (aF (aX (pv 3)))))),?_⟩
 have lxs:=Rb.length;have lys:=hF.length;refine⟨zl9 0,fun l hl=>?_⟩;have s1:=aI hl (.lst []);have e1:upd H l (.lst []) l=some (.lst []):=aE;generalize upd H l (.lst [])=H1 at s1 e1 ⊢;refine⟨_,rfl,a,rfl,⟨_,SqL.of (s1 _ _ ea)⟩,?_⟩;refine gS (xs:=xs) (fun i σ H'=>aY H H'/\∃(zs:List V) (ti:Int) (z5 z6:Option V),σ=[some (.ref a),some (.ref b),some (.ref h),some (.ref l),some (.int ti),z5,z6]/\ti=((bG (ds.take i):Nat):Int)/\H' l=some (.lst zs)/\Fqs K H' zs (gK lv hs 0 (ds.take i))) ⟨s1,[],0,none,none,rfl,rfl,e1,.nil⟩ (fun i σ H' _ h=>h.1.seq (SqL.of ea)) ?_ ?_
 ·rintro i x σ H2 hx ⟨s2,zs,ti,z5,z6,rfl,hti,e2,F2⟩;have hi:i < ds.length:=by have:=(List.getElem?_eq_some_iff.mp hx).1;lia
  obtain⟨⟨k0,u,v,p⟩,hd⟩:∃d,ds[i]?=some d:=⟨_,getElem?_eq_getElem hi⟩
  obtain⟨y,z,ey,rw0,fz0⟩:=Rb.at hd;have ex:x=.ref y:=by rw[ey] at hx;exact(Option.some.inj hx).symm
  subst ex;have rd:=hK _ (mem_of_getElem? hd);have pt:cO (m:Int) u v:=⟨rd.1,rd.2.1,rd.2.2.1,rd.2.2.2.1⟩
  have lp:Low p:=rd.2.2.2.2.1;have p0:k0=.pc->0 < p.1:=rd.2.2.2.2.2.1;have bp:Bd 1000 p:=rd.2.2.2.2.2.2;have et:ds.take (i+1)=ds.take i++[(k0,u,v,p)]:=by rw[take_add_one,hd];rfl
  have hcnt:bG (ds.take i)+bL k0+bG (ds.drop (i+1))=bG ds:=by
   have h1:ds=ds.take (i+1)++ds.drop (i+1):=(take_append_drop _ _).symm;have h2:bG ds=bG (ds.take (i+1))+bG (ds.drop (i+1)):=by
    unfold bG eT;rw[<- List.length_append,<- filter_append,take_append_drop]
   rw[h2,et,iD]
  have rw2:=rw0.same s2;obtain⟨dr,hy⟩:=id rw2;refine⟨_,rfl,_,rfl,y,b,(k0,u,v,p),.ref z,ls,lv,m,rfl,rw2,SA.same s2,pt,fun fa H3 s3 e3=>?_⟩;have flow:Low (flF lv (k0,u,v,p))/\Bd 7801 (flF lv (k0,u,v,p)):=by
   have hb:=SA.b;have hn:=SA.l;have g1:lv.getD u.toNat (0,1)∈lv:=mem_of_getElem? (Mq.Na (by have:=pt.1;have:=pt.2.1;lia));have g2:lv.getD v.toNat (0,1)∈lv:=mem_of_getElem? (Mq.Na (by have:=pt.2.2.1;have:=pt.2.2.2;lia));exact⟨cT (hb _ g1).1.pos (hb _ g2).1.pos,(iN (hb _ g1).2 (hb _ g2).2 (hb _ g1).1.pos (hb _ g2).1.pos).mono (by lia)⟩
  have fa3:Fq K H3 fa (flF lv (k0,u,v,p)):=Fq.of e3;have s23:=s2.trans s3;have rw3:=rw0.same s23;obtain⟨dr3,hy3⟩:=id rw3;have fz3:=s23.fq fz0;have e23:=s3 _ _ e2;have lzs:=F2.length;rw[tD,length_take] at lzs;rw[et,vZ,Nat.zero_add];refine⟨_,rfl,k0,y,dr3,_,rfl,hy3,(dG _ _ _ (by decide +kernel) (by decide +kernel) (by decide +kernel)),_,rfl,rfl,_,rfl,?_⟩
  by_cases hk:k0=.ho
  ·refine L2.ifT (by show decide (V.str k0.wd=V.str Kd.ho.wd)=true;rw[bY];exact decide_eq_true hk) ?_;have hc:bL k0=1:=by unfold bL;rw[if_pos hk]
   obtain⟨w1,ew,fw⟩:=hF.at (Mq.Na (show bG (ds.take i) < hs.length by lia));refine⟨_,rfl,.inl ⟨rfl,_,SqL.of e23⟩,_,rfl,k0,y,dr3,_,rfl,hy3,(dG _ _ _ (by decide +kernel) (by decide +kernel) (by decide +kernel)),?_⟩;refine⟨_,rfl,_,rfl,_,rfl,h,ys,_,_,rfl,rfl,s23.seq hS,by rw[hti];exact bV ew,y,z,fa,w1,.int u,.int v,p,_,_,1000,7801,rfl,rw3,fz3,fa3,s23.fq fw,lp.pos,flow.1.pos,bp,flow.2,by lia,p0,fun r H4 s4 f4=>?_⟩;have e4:=s4 _ _ e23;refine⟨l,_,_,rfl,rfl,e4,bC (by lia),?_⟩;refine⟨_,rfl,_,_,rfl,rfl,?_⟩;refine⟨(s23.trans s4).change hl,_,ti+1,_,_,rfl,by rw[iD,hti,hc];lia,aE,?_⟩;have fl:jO lv hs (bG (ds.take i)) (k0,u,v,p)=Jd k0 (flF lv (k0,u,v,p)) (hs.getD (bG (ds.take i)) Mq.z0) p:=by
    show Jd k0 _ (if k0=.ho then _ else _) _=_;rw[if_pos hk]
   rw[fl];exact((F2.same (s3.trans s4)).app (.cons f4 .nil)).upd e4
  ·refine L2.ifF (by show decide (V.str k0.wd=V.str Kd.ho.wd)=false;rw[bY];exact decide_eq_false hk) ?_;have hc:bL k0=0:=by unfold bL;rw[if_neg hk]
   refine⟨_,rfl,.inl ⟨rfl,_,SqL.of e23⟩,_,rfl,k0,y,dr3,_,rfl,hy3,(dG _ _ _ (by decide +kernel) (by decide +kernel) (by decide +kernel)),_,rfl,y,z,fa,aN,.int u,.int v,p,_,(0,1),1000,7801,rfl,rw3,fz3,fa3,fN _,lp.pos,flow.1.pos,bp,flow.2,by lia,p0,fun r H4 s4 f4=>?_⟩;have e4:=s4 _ _ e23;refine⟨l,_,_,rfl,rfl,e4,bC (by lia),?_⟩;refine⟨(s23.trans s4).change hl,_,ti,_,_,rfl,by rw[iD,hti,hc];rfl,aE,?_⟩;have fl:jO lv hs (bG (ds.take i)) (k0,u,v,p)=Jd k0 (flF lv (k0,u,v,p)) (0,1) p:=by
    show Jd k0 _ (if k0=.ho then _ else _) _=_;rw[if_neg hk]
   rw[fl];exact((F2.same (s3.trans s4)).app (.cons f4 .nil)).upd e4
 rintro σ H2 ⟨s2,zs,ti,z5,z6,rfl,hti,e2,F2⟩;rw[lxs,take_length] at F2;exact⟨_,rfl,q l zs H2 s2 hl e2 F2⟩
abbrev Pe:Stmt:=cU (top 68) 1
theorem Wl:aP ["self"] ["self"] (aH Pe):=sK9 rfl rfl rfl rfl (by decide +kernel)
theorem Sm {dV:Value}{CA:Addr}(F:aV K "heights" "Answer.heights" Pe dV f fd)(ABx:AB K mg CA)(mli:mg "list"=none):aL P w K mg base CX 1 f fd ["self"] (xD CA K):=by
 refine F.ok Wl (fun vs H Q E h=>?_) fun cdv A outer s H vs Q E hr h=>?_
 ·obtain⟨_,_,_,rfl,_⟩:=h;rfl
 obtain⟨a,lv,fl,rfl,⟨⟨dx,li,le,fo,xs,ys,ha,hle,Fle,hfo,Ffo⟩⟩,q⟩:=h;refine⟨_,(aF (aX (jV gU rfl mli PyProof.Rows.boot_list (aA (bU (pv 0) rfl) aB)))),?_⟩;refine⟨_,rfl,a,CA,_,_,_,rfl,ha,ABx.cl,ABx.nE,Rf _ _ _,le,_,rfl,.inl hle,fun l hl=>?_⟩;have sl:=aI hl (.lst xs);exact q l _ _ sl hl aE (Fle.same sl)
abbrev Ma:Stmt:=cU (top 68) 2
theorem Wp:aP ["self"] ["self"] (aH Ma):=sK9 rfl rfl rfl rfl (by decide +kernel)
theorem Sb {dV:Value}{CA:Addr}(F:aV K "streams" "Answer.streams" Ma dV f fd)(ABx:AB K mg CA)(mli:mg "list"=none):aL P w K mg base CX 1 f fd ["self"] (wT CA K):=by
 refine F.ok Wp (fun vs H Q E h=>?_) fun cdv A outer s H vs Q E hr h=>?_
 ·obtain⟨_,_,_,rfl,_⟩:=h;rfl
 obtain⟨a,lv,fl,rfl,⟨⟨dx,li,le,fo,xs,ys,ha,hle,Fle,hfo,Ffo⟩⟩,q⟩:=h;refine⟨_,(aF (aX (jV gU rfl mli PyProof.Rows.boot_list (aA (bU (pv 0) rfl) aB)))),?_⟩;refine⟨_,rfl,a,CA,_,_,_,rfl,ha,ABx.cl,ABx.nO,Tj _ _ _,fo,_,rfl,.inl hfo,fun l hl=>?_⟩;have sl:=aI hl (.lst ys);exact q l _ _ sl hl aE (Ffo.same sl)
theorem Ft {K:Frag}{H0 H:Hp}{D:Addr}:∀{us:List V} {X:List (List Q2)},Fms K H0 H us X->(∀x∈us,x≠.ref D)->Fmd K H0 D H us X
 | [],[],_,_=>.nil
 | [],_ :: _,h,_=>by have:=h.l;simp at this
 |_ :: _,[],h,_=>by have:=h.l;simp at this
 |x :: us,ps :: X,h,n=>by
  obtain⟨a,xs,rfl,n0,h1,h2⟩:=h.r 0 x ps rfl rfl;exact .cons n0 (fun z=>n _ (mem_cons_self ..) (by rw[z])) h1 h2 (Ft ⟨by have:=h.l;simpa using this,fun i y qs e1 e2=>h.r (i+1) y qs (by simpa using e1) (by simpa using e2)⟩ fun y hy=>n y (mem_cons_of_mem _ hy))
theorem Yr (xs:List V)(k:Nat):kZ xs none (some (k:Int))=xs.take k:=by
 unfold kZ;have h1:HT.sIx xs.length 0 none=0:=rfl;have h2:HT.sIx xs.length xs.length (some (k:Int))=min k xs.length:=by simp[HT.sIx];lia
 rw[h1,h2,drop_zero,Nat.sub_zero,take_eq_take_iff];lia
theorem cK.rtsI {K:Frag}{t C dx:Addr}{fs:List (Str × V)}{H H':Hp}(ht:H t=some (.ins C dx fs))(e:cK t H H'):∀{xs:List V} {ds:List RD},Rts K H xs ds->Rts K H' xs ds
 |_,_,.nil=>.nil
 |_,_,.cons h f q=>.cons (cK.seqTI ht e h) (cK.seqTI ht e f) (cK.rtsI ht e q)
theorem cV.xI {CN C dx:Addr}{K:Frag}{fs:List (Str × V)}{H H':Hp}{n l q:Addr}{m:Int}{ds:List RD}(hq:H q=some (.ins C dx fs))(e:cK q H H')(ne:n≠q)(h:cV CN K H n l m ds):cV CN K H' n l m ds:=
 let ⟨⟨dx,a⟩,ts,b,c⟩:=h;⟨⟨dx,e _ _ a ne⟩,ts,e _ _ b (eY b hq (fun z=>by cases z)),cK.rtsI hq e c⟩
theorem Yo {CN C dx:Addr}{K:Frag}{H:Hp}{n l q:Addr}{m:Int}{ds:List RD}(hq:H q=some (.ins C dx []))(h:cV CN K H n l m ds):n≠q:=fun z=>by
 obtain⟨dn,a⟩:=h.ob;rw[z,hq] at a;injection a with a
 injection a with _ _ a
 unfold iJ at a;have:=bK ("kept":Str) "kept" (.ref l) (dE "point_count" (.int m) []);rw[<- a,if_pos rfl] at this
 cases this
theorem Fqs.drop {K:Frag}{H:Hp}:∀(k:Nat) {xs:List V} {ps:List Q2},Fqs K H xs ps->Fqs K H (xs.drop k) (ps.drop k)
 |0,_,_,h=>h
 |_+1,_,_,.nil=>.nil
 |k+1,_,_,.cons _ q=>Fqs.drop k q
theorem Fqs.take {K:Frag}{H:Hp}:∀(k:Nat) {xs:List V} {ps:List Q2},Fqs K H xs ps->Fqs K H (xs.take k) (ps.take k)
 |0,_,_,h=>.nil
 |_+1,_,_,.nil=>.nil
 |k+1,_,_,.cons f q=>.cons f (Fqs.take k q)
structure Zt (CN:Addr) (K:Frag) (H:Hp) (n l:Addr) (m b:Nat) (kb wb:Nat->Nat) (L:Int) (ds:List RD):Prop where
 nt:cV CN K H n l (m:Int) ds
 ok:∀i d,ds[i]?=some d->RwW m (kb i) (wb i) d
 m20:m<=20
 h40:ds.length<=40
 cu:jT wb ds.length+30<=8900
 eb:EqB m b L ds
def Ao (CN CA:Addr)(K:Frag):Sp:=fun vs H Q _=>∃(x dx n l:Addr) (m b:Nat) (kb wb:Nat->Nat) (L:Int) (ds:List RD),vs=[.ref x,.ref n]/\H x=some (.ins CA dx [])/\Zt CN K H n l m b kb wb L ds/\bw b (wd m ds)<=3900/\(∀i,∃a:Int,Mq.B b a/\eqR m ds (i+1)=(a:Rat) / (L:Rat))/\(fB wHo (skl ds) ds.length).2=[]/\Ju m ds=[]/\
 ∀ps H',cK x H H'->qi7 CA K H H' x (lvS m ps) (gK (lvS m ps) (ps.drop (m - 1)) 0 ds)->ps.length=wd m ds->iZ ps->Ovr (bw b (wd m ds)) ps->Sv m ds (eqR m ds) (uP ps)->Q .non H'
abbrev Cq:Stmt:=cU (top 68) 0
theorem rC:aP ["self","net","both","known","inner"] ["self","net"] (aH Cq):=sK9 rfl rfl rfl rfl (by decide +kernel)
theorem Ob {dV:Value}{CA:Addr}(F:aV K "__init__" "Answer.__init__" Cq dV f fd)(ABx:AB K mg CA){CN:Addr}(NTx:NT K mg CN){aN:Addr}(fN:∀H,Fq K H aN (0,1))(mNO:mI9 mg "NOUGHT" aN){gRo:Addr}{gdRo:FuncData}(GRo:aL P w K mg base CX0 4 gRo gdRo ["self"] (nU CN K CK))(bRo:aM K gdRo ["self"] [])(mRo:gE K CN "rows" gRo){gMa:Addr}{gdMa:FuncData}(GMa:aL P w K mg base CX0 1 gMa gdMa ["self"] (zK CN K))(bMa:aM K gdMa ["self"] [])(mMa:gE K CN "many" gMa)(G1:aL P w K mg base CX0 7 g1 gd1 ["net"] (Ve CN K))(b1:aM K gd1 ["net"] [])(k1:kI9 K g1)(m1:mI9 mg "refuse_unanswered" g1)(G2:aL P w K mg base CX0 7 g2 gd2 ["net"] (Pp CN K))(b2:aM K gd2 ["net"] [])(k2:kI9 K g2)(m2:mI9 mg "equations" g2)(G3:aL P w K mg base CX0 5 g3 gd3 ["matrix","right"] (vU K))(b3:aM K gd3 ["matrix","right"] [])(k3:kI9 K g3)(m3:mI9 mg "solved" g3)(G4:aL P w K mg base CX0 5 g4 gd4 ["rows","levels","held"] (Hr K CK))(b4:aM K gd4 ["rows","levels","held"] [])(k4:kI9 K g4)(m4:mI9 mg "flows_of" g4):aL P w K mg base CX 8 f fd ["self","net"] (Ao CN CA K):=by
 refine F.ok rC (fun vs H Q E h=>?_) fun cdv A outer s H vs Q E hr h=>?_
 ·obtain⟨_,_,_,_,_,_,_,_,_,_,rfl,_⟩:=h;rfl
 obtain⟨x,dx,n,l,m,b,kb,wb,L,ds,rfl,hx,NB,hw39,h01,hR,hF,q⟩:=h;have r1:=hr.mono (show 1<=7 by lia);have r4:=hr.mono (show 4<=7 by lia);have r5:=hr.mono (show 5<=7 by lia);have r7:=hr;refine⟨_,(aC (bQ (aG G1 r7 rfl m1 k1 b1 .nil aK (aA (pv 1) aB)))
  (aC (aR (i:=2) rC.nd rfl (Or.inl rfl) (aG G2 r7 rfl m2 k2 b2 .nil aK (aA (pv 1) aB)))
  (aC (aR (i:=3) rC.nd rfl (Or.inl rfl) (aG G3 r5 rfl m3 k3 b3 .nil aK (aA (aQ aT (pv 2) aD (fun _ _=>rfl)) (aA (aQ aT (pv 2) aD (fun _ _=>rfl)) aB))))
  (aC (aR (i:=4) rC.nd rfl (Or.inl rfl) (aU jR (fE (pv 1) NTx.cl mMa GMa r1 bMa .nil aK) aD))
  (aC (kL (pv 0) (aQ aT (pv 2) aD (fun _ _=>rfl)) rfl)
  (aC (kL (pv 0) (aU yG (dH (aA (dI (v:=.ref aN) rfl mNO rfl) aB)) (jC kO (pv 3) oX (iK (pv 4)))) rfl)
  (aF (kL (pv 0) (aG G4 r5 rfl m4 k4 b4 .nil aK (aA (fE (pv 1) NTx.cl mRo GRo r4 bRo .nil aK) (aA (bU (pv 0) rfl) (aA (jC kO (pv 3) (iK (pv 4)) oX) aB)))) rfl)))))))),?_⟩
 have nt:=NB.nt;have hK:∀i d,ds[i]?=some d->qM (m:Int) d/\Bd (kb i) d.2.2.2:=fun i d hd=>⟨(NB.ok i d hd).ok,(NB.ok i d hd).bd⟩
 have m20:=NB.m20;have h40:=NB.h40;have hbig:=NB.cu;have EB:=NB.eb;have mo:=EB.o.m1;refine⟨_,rfl,n,l,m,ds,rfl,nt,EB.o.pt,mo,m20,h40,hR,hF,fun H1 s1=>?_⟩;refine⟨_,rfl,n,l,m,kb,wb,ds,rfl,nt.same s1,NB.ok,mo,m20,h40,hbig,fun tt p r us ys X Y H2 s2 et np nr ep er FM FY nx EO=>?_⟩;have s02:=s1.trans s2;have lX:X.length=m - 1+bG ds:=EO.x.h;have lY:Y.length=X.length:=by rw[EO.y.w,lX]
 have w26:=EB.w26;have lw:wd m ds=m - 1+bG ds:=rfl;have yq:∀p∈Y,(Bd b p/\p.2 ∣ L)/\∃a:Int,Mq.B b a/\Mq.val p=(a:Rat) / (L:Rat):=fun p hp=>by
  obtain⟨i,hi⟩:=getElem?_of_mem hp;have ep:p=Y.getD i (0,1):=by rw[getD_eq_getElem?_getD,hi];rfl
  obtain⟨z,hz,ez⟩:=h01 i;have hv:Mq.val p=(z:Rat) / (L:Rat):=by rw[ep,EO.vy,ez]
  exact⟨kC (EO.y.l p hp).1 EB.L1 EB.LB hz hv,z,hz,hv⟩
 refine⟨_,rfl,tt,_,0,_,rfl,rfl,SqT.of et,rfl,_,rfl,tt,_,1,_,rfl,rfl,SqT.of et,rfl,?_⟩;refine⟨p,r,p,H1,us,ys,X,Y,b,b,rfl,SqL.of ep,Ft FM (fun x hx=>(nx x hx).1),SqL.of er,FY,lY,fun p hp=>(EO.y.l p hp).1,fun p hp=>(yq p hp).1.1,EqB.pos EO,fun row hr=>⟨fun p hp=>((EB.cell EO row hr).1 p hp).1,(EB.cell EO row hr).2⟩,by lia,by rw[lX];exact EB.hb,Ul (EqB.pos EO) (fun p hp=>(EO.y.l p hp).1.pos) lY (fun row hr p hp=>((EB.cell EO row hr).1 p hp).2) (fun p hp=>⟨(yq p hp).1.2,(yq p hp).2⟩) EB.L1,EB.b1,by rw[lX];exact Nat.le_trans EB.hbw (by decide),EB.wgt EO,fun kn zk ps H3 s3 nkn ekn Fk SU OV=>?_⟩;rw[lX] at OV;have lps:ps.length=wd m ds:=by rw[SU.len,lX]
 have lo:=SU.low;have b39:=Yl (n:=bw b (wd m ds)) OV lo hw39;have s03:=s02.trans s3;obtain⟨dn,hn⟩:=(nt.same s03).ob;refine⟨_,rfl,n,dn,_,rfl,hn,fF _ _ (by decide +kernel) (by decide +kernel),n,l,_,ds,rfl,nt.same s03,_,_,rfl,rfl,?_⟩;have et3:=s3 _ _ et;have hx3:=s03 _ _ hx;have em:(m:Int) - 1=((m - 1:Nat):Int):=by lia
 show gO _ _ _ [some (.ref x),some (.ref n),some (.ref tt),some (.ref kn),some (.int ((m:Int) - 1))] H3;rw[em];refine⟨_,rfl,tt,_,0,_,rfl,rfl,SqT.of et3,rfl,_,rfl,x,CA,dx,[],rfl,hx3,ABx.cl,ABx.nI,(by show 0 < 1000;decide),?_⟩;have x4:cK x H (upd H3 x (.ins CA dx (dE "lines" (.ref p) []))):=fun b o h nb=>by rw[aW nb];exact s03 _ _ h
 have x34:cK x H3 (upd H3 x (.ins CA dx (dE "lines" (.ref p) []))):=fun b o h nb=>by rw[aW nb];exact h
 have hx4:upd H3 x (.ins CA dx (dE "lines" (.ref p) [])) x=some (.ins CA dx (dE "lines" (.ref p) [])):=aE;have ek4:=cK.seqI hx3 x34 (SqL.of (K:=K) ekn);have Fk4:=cK.fqsI hx3 x34 Fk;generalize upd H3 x (.ins CA dx (dE "lines" (.ref p) []))=H4 at x4 x34 hx4 ek4 Fk4 ⊢;refine⟨zl9 1,fun L1 hL1=>?_⟩;have s5:=aI hL1 (.lst [.ref aN]);have e5:upd H4 L1 (.lst [.ref aN]) L1=some (.lst [.ref aN]):=aE;generalize upd H4 L1 (.lst [.ref aN])=H5 at s5 e5 ⊢;refine⟨_,rfl,_,rfl,_,rfl,kn,zk,rfl,s5.seq ek4,fun S hS=>?_⟩;rw[Yr];have s6:=aI hS (.lst (zk.take (m - 1)));have e6:upd H5 S (.lst (zk.take (m - 1))) S=some (.lst (zk.take (m - 1))):=aE;generalize upd H5 S (.lst (zk.take (m - 1)))=H6 at s6 e6 ⊢;have lzk:=Fk.length;refine⟨L1,S,_,_,rfl,rfl,s6 _ _ e5,e6,Nat.le_of_lt (bC (by rw[length_take];simp only[length_cons,length_nil];lia)),fun V1 hV1=>?_⟩;have s7:=aI hV1 (.lst ([.ref aN]++zk.take (m - 1)));have e7:upd H6 V1 (.lst ([.ref aN]++zk.take (m - 1))) V1=some (.lst ([.ref aN]++zk.take (m - 1))):=aE;generalize upd H6 V1 (.lst ([.ref aN]++zk.take (m - 1)))=H7 at s7 e7 ⊢;have s47:=s5.trans (s6.trans s7);have hx7:=s47 _ _ hx4;refine⟨_,rfl,x,CA,dx,_,rfl,hx7,ABx.cl,ABx.nE,(by have:=dD ("lines":Str) (.ref p) [];simp only[length_nil] at this;lia),?_⟩;have x78:cK x H7 (upd H7 x (.ins CA dx (dE "levels" (.ref V1) (dE "lines" (.ref p) [])))):=fun b o h nb=>by rw[aW nb];exact h
 have hx8:upd H7 x (.ins CA dx (dE "levels" (.ref V1) (dE "lines" (.ref p) []))) x=some (.ins CA dx (dE "levels" (.ref V1) (dE "lines" (.ref p) []))):=aE;generalize upd H7 x (.ins CA dx (dE "levels" (.ref V1) (dE "lines" (.ref p) [])))=H8 at x78 hx8 ⊢;have nn:=Yo hx nt;have nt4:=cV.xI hx3 x34 nn (nt.same s03);have nt8:=cV.xI hx7 x78 nn (nt4.same s47);have ek8:=cK.seqI hx7 x78 (s47.seq ek4);have Fk8:=cK.fqsI hx7 x78 (Fk4.same s47);have nV1x:V1≠x:=eY e7 hx7 (fun z=>by cases z);have ev8:=cK.seqI hx7 x78 (SqL.of (K:=K) e7);have Fv8:Fqs K H8 ([.ref aN]++zk.take (m - 1)) (lvS m ps):=.cons (fN _) (Fqs.take _ Fk8);obtain⟨dn8,hn8⟩:=nt8.ob;refine⟨_,rfl,n,dn8,_,rfl,hn8,fF _ _ (by decide +kernel) (by decide +kernel),n,l,_,ds,rfl,nt8,by lia,fun ro xr H9 s9 nro ero Rb=>?_⟩;have hx9:=s9 _ _ hx8;have ek9:=s9.seq ek8;refine⟨_,rfl,x,CA,dx,_,_,rfl,hx9,ABx.cl,ABx.nE,(by rw[bK,if_pos rfl]),_,rfl,_,rfl,_,rfl,kn,zk,rfl,ek9,fun S2 hS2=>?_⟩;rw[vG];have s10:=aI hS2 (.lst (zk.drop (m - 1)));have e10:upd H9 S2 (.lst (zk.drop (m - 1))) S2=some (.lst (zk.drop (m - 1))):=aE;generalize upd H9 S2 (.lst (zk.drop (m - 1)))=H10 at s10 e10 ⊢;have s80:=s9.trans s10;have lLv:(lvS m ps).length=m:=by
  unfold lvS;rw[length_cons,length_take];lia
 refine⟨ro,V1,S2,xr,_,_,ds,lvS m ps,ps.drop (m - 1),m,rfl,s10 _ _ ero,Rb.same s10,⟨s80.seq ev8,Fv8.same s80,lLv,fun s hs=>?_⟩,SqL.of e10,Fqs.drop _ (Fk8.same s80),fun p hp=>lo p (mem_of_mem_drop hp),fun d hd=>?_,by rw[length_drop];lia,h40,fun fo zf H11 s11 nfo efo Ffo=>?_⟩
 ·rcases mem_cons.mp hs with z | z
  ·rw[z];exact⟨⟨by decide,by decide⟩,qg0 (n:=3899)⟩
  ·exact b39 s (mem_of_mem_take z)
 ·obtain⟨i,hi⟩:=getElem?_of_mem hd;exact(hK i d hi).1
 have s81:=s80.trans s11;have hx11:=s81 _ _ hx8;refine⟨_,rfl,x,CA,dx,_,rfl,hx11,ABx.cl,ABx.nO,(by have:=dD ("lines":Str) (.ref p) [];have:=dD ("levels":Str) (.ref V1) (dE "lines" (.ref p) []);simp only[length_nil] at *;lia),?_⟩;have x12:cK x H11 (upd H11 x (.ins CA dx (jZ p V1 fo))):=fun b o h nb=>by rw[aW nb];exact h
 have hx12:upd H11 x (.ins CA dx (jZ p V1 fo)) x=some (.ins CA dx (jZ p V1 fo)):=aE;show Q .non (upd H11 x (.ins CA dx (jZ p V1 fo)));generalize upd H11 x (.ins CA dx (jZ p V1 fo))=H12 at x12 hx12 ⊢;refine q ps H12 (fun b o h nb=>x12 _ _ (s81 _ _ (x78 _ _ (s47 _ _ (x4 _ _ h nb)) nb)) nb) ⟨dx,p,V1,fo,_,zf,hx12,x12 _ _ (s81 _ _ (x78 _ _ e7 nV1x)) nV1x,cK.fqsI hx11 x12 (Fv8.same s81),x12 _ _ efo (eY efo hx11 (fun z=>by cases z)),cK.fqsI hx11 x12 Ffo,fun l0 o0 h0 n0=>⟨fun z=>?_,fun z=>?_⟩⟩ lps lo OV (EqB.sol EO SU fun i _=>EO.vy i)
 ·rw[z,(s5.trans s6) _ _ (x4 _ _ h0 n0)] at hV1;cases hV1
 ·rw[z,s80 _ _ (x78 _ _ (s47 _ _ (x4 _ _ h0 n0)) n0)] at nfo;cases nfo
abbrev Ey:Stmt:=top 24
theorem rJ:aP ["some","so_far","one"] ["some"] (aH Ey):=sK9 rfl rfl rfl rfl (by decide +kernel)
theorem Nl {dV:Value}{aN:Addr}(F:aV K "total" "total" Ey dV f fd)(fN:∀H,Fq K H aN (0,1))(mNO:mI9 mg "NOUGHT" aN)(G2:aL P w K mg base CX0 3 g2 gd2 ["one","other"] (eP K gY))(b2:aM K gd2 ["one","other"] [])(k2:kI9 K g2)(m2:mI9 mg "plus" g2) :
  aL P w K mg base CX 4 f fd ["some"] (zF K):=by
 refine F.ok rJ (fun vs H Q E h=>?_) fun cdv A outer s H vs Q E hr h=>?_
 ·obtain⟨_,_,_,_,rfl,_⟩:=h;rfl
 obtain⟨a,xs,ps,w0,rfl,hS,hF,hP,hW,hn,z⟩:=h;refine⟨_,aC (aR (i:=1) rJ.nd rfl (Or.inl rfl) (dI (v:=.ref aN) rfl mNO rfl))
  (aC (dQ PassesOwn.never rfl (cW (pv 0)) (aZ (i:=2) rJ.nd rfl (Or.inl rfl)) (aF (aR (i:=1) rJ.nd rfl (Or.inl rfl) (aG G2 hr rfl m2 k2 b2 .nil aK (aA (pv 1) (aA (pv 2) aB))))))
  (aF (aX (pv 1)))),?_⟩
 have hl:=hF.length;refine⟨_,rfl,a,rfl,⟨_,hS⟩,?_⟩;refine gS (xs:=xs) (fun i σ H'=>aY H H'/\∃r y,σ=[some (.ref a),some (.ref r),y]/\Fq K H' r (tot (ps.take i))) ⟨aY.refl H,aN,none,rfl,fN H⟩ (fun i σ H' _ h=>h.1.seq hS) ?_ ?_
 ·rintro i x σ H' hx ⟨sH,r,y,rfl,er⟩;obtain⟨ap,p,rfl,hp,fp⟩:=hF.get hx;have hi:i < ps.length:=(List.getElem?_eq_some_iff.mp hp).1;have mem:p∈ps:=mem_of_getElem? hp;have pt:Mq.Pos (ps.take i):=fun f hf=>hP f (mem_of_mem_take hf);obtain⟨w',n,hw',bn,hle⟩:=hW.at hp;have bt:=hw'.tot pt;refine⟨_,rfl,_,rfl,r,ap,tot (ps.take i),p,_,n,rfl,er,sH.fq fp,(jF pt).pos,hP p mem,bt,bn,by lia,fun a1 H1 s1 e1=>?_⟩;refine⟨sH.trans s1,a1,_,rfl,?_⟩;have ee:ps.take (i+1)=ps.take i++[p]:=by rw[take_add_one,hp];rfl
  have et:tot (ps.take (i+1))=gY (tot (ps.take i)) p:=by
   rw[ee];unfold tot;rw[foldl_append];rfl
  rw[et];exact Fq.of e1
 ·rintro σ H' ⟨sH,r,y,rfl,er⟩;refine⟨_,rfl,?_⟩;refine z r H' sH ?_;rw[hl,take_length] at er;exact er
theorem zT:(["row","word"]:List Str).Nodup:=by decide +kernel
abbrev zM:Stmt:=top 71
theorem Ox:aP ["net","word"] ["net","word"] (aH zM):=sK9 rfl rfl rfl rfl (by decide +kernel)
theorem Ja {dV:Value}(F:aV K "rows_of" "rows_of" zM dV f fd){CN:Addr}(NTx:NT K mg CN)(T:RT K mg CR CK)(GW:∀k,aL P w K mg base CX0 1 (fW k) (fdW k) ["self"] (jL k))(bW:∀k,aM K (fdW k) ["self"] [])(mW:∀k,gE K (CK k) "word" (fW k)){gRo:Addr}{gdRo:FuncData}(GRo:aL P w K mg base CX0 4 gRo gdRo ["self"] (nU CN K CK))(bRo:aM K gdRo ["self"] [])(mRo:gE K CN "rows" gRo) :
  aL P w K mg base CX 5 f fd ["net","word"] (wJ CN K CK):=by
 refine F.ok Ox (fun vs H Q E h=>?_) fun cdv A outer s H vs Q E hr h=>?_
 ·obtain⟨_,_,_,_,_,rfl,_⟩:=h;rfl
 obtain⟨n,l,m,ds,k0,rfl,nt,h100,q⟩:=h;have r1:=hr.mono (show 1<=4 by lia);refine⟨_,(aF (aX (dW (nl:=1) (fr:=[1]) (Nc:=["row","word"]) (cl:=[("word",s.heap.objs.size+1)]) rfl ⟨rfl,rfl,by decide +kernel,by decide +kernel,fun x c h=>h,fD rfl,rfl,fun i n h=>match i,h with | 0,h=>by cases h;exact⟨1,rfl,rfl,rfl,rfl,.inl rfl⟩ | k+1,h=>by rw[show 1+(k+1)=k+2 by lia] at h;cases h⟩
    (cW (fE (pv 0) NTx.cl mRo GRo hr bRo .nil aK)) (fun C s3 H3 fp pins=>(aZ (i:=0) zT rfl (Or.inl rfl))) (fun C s3 H3 fp pins=>(qT (bF dZ (fI (pv 0) T.cl mW GW r1 bW .nil aK) (pv 1) (bM _))))
    (fun C s3 H3 fp pins=>(pv 0))))),?_⟩
 obtain⟨dx,hn⟩:=nt.ob;refine⟨_,rfl,n,dx,_,rfl,hn,fF _ _ (by decide +kernel) (by decide +kernel),n,l,m,ds,rfl,nt,h100,fun a xs H1 s1 na ea Rb=>?_⟩;have lxs:=Rb.length;refine⟨a,rfl,⟨_,SqL.of ea⟩,fun D hD=>?_⟩;have sD:=aI hD (.lst []);refine dR (xs:=xs) (fun i zs H'=>aY H1 H'/\H' D=some (.lst zs)/\gJ CK K H' zs (eT k0 (ds.take i))/\zs.length<=i) ⟨sD,aE,.nil,Nat.le_refl _⟩ (fun i zs H' h=>h.2.1) (fun i zs H' _ h=>h.1.seq (SqL.of ea)) ?_ ?_
 ·rintro i zs x H2 hx ⟨s2,e2,R2,lz⟩ C hC;have hi:i < ds.length:=by
   have:=(List.getElem?_eq_some_iff.mp hx).1;lia
  obtain⟨⟨k,u,v,p⟩,hd⟩:∃d,ds[i]?=some d:=⟨_,getElem?_eq_getElem hi⟩
  obtain⟨y,z,ey,rw,fz⟩:=Rb.at hd;have ex:x=.ref y:=by rw[ey] at hx;exact(Option.some.inj hx).symm
  subst ex;have rw2:=rw.same s2;obtain⟨dr,hy⟩:=id rw2;refine⟨fQ.1,fQ.2,?_⟩;refine⟨_,rfl,k,y,dr,_,rfl,hy,(dG _ _ _ (by decide +kernel) (by decide +kernel) (by decide +kernel)),_,rfl,_,rfl,rfl,_,rfl,?_⟩;have et:ds.take (i+1)=ds.take i++[(k,u,v,p)]:=by rw[take_add_one,hd];rfl
  by_cases hk:k=k0
  ·refine L2.ifT (by rw[bY];exact decide_eq_true hk) ⟨_,rfl,e2,bC (by lia),hC _ _ ⟨s2.change hD,aE,?_,by rw[List.length_append];simp only[length_cons,length_nil];lia⟩⟩;rw[et,pN,if_pos hk];exact gJ.upd e2 (R2.app (.cons rw2 (s2.fq fz) .nil))
  ·refine L2.ifF (by rw[bY];exact decide_eq_false hk) (hC _ _ ⟨s2,e2,?_,by lia⟩);rw[et,pN,if_neg hk];exact R2
 ·rintro zs H2 ⟨s2,e2,R2,_⟩;rw[lxs,take_length] at R2;exact q D zs H2 (s1.trans s2) e2 R2
theorem iO:(["row","stream","word"]:List Str).Nodup:=by decide +kernel
abbrev De:Stmt:=top 73
theorem Uq:aP ["net","word","streams"] ["net","word","streams"] (aH De):=sK9 rfl rfl rfl rfl (by decide +kernel)
theorem On {dV:Value}(F:aV K "with_streams" "with_streams" De dV f fd){CN:Addr}(NTx:NT K mg CN)(T:RT K mg CR CK)(mz:mg "zip"=none)(GW:∀k,aL P w K mg base CX0 1 (fW k) (fdW k) ["self"] (jL k))(bW:∀k,aM K (fdW k) ["self"] [])(mW:∀k,gE K (CK k) "word" (fW k)){gRo:Addr}{gdRo:FuncData}(GRo:aL P w K mg base CX0 4 gRo gdRo ["self"] (nU CN K CK))(bRo:aM K gdRo ["self"] [])(mRo:gE K CN "rows" gRo) :
  aL P w K mg base CX 5 f fd ["net","word","streams"] (yH CN K CK):=by
 refine F.ok Uq (fun vs H Q E h=>?_) fun cdv A outer s H vs Q E hr h=>?_
 ·obtain⟨_,_,_,_,_,_,_,_,rfl,_⟩:=h;rfl
 obtain⟨n,l,b,m,ds,k0,ys,ss,rfl,nt,h100,st,q⟩:=h;have r1:=hr.mono (show 1<=4 by lia);refine⟨_,(aF (aX (dW (nl:=2) (fr:=[1]) (Nc:=["row","stream","word"]) (cl:=[("word",s.heap.objs.size+1)]) (g:=(Bh K 2 (iS (iC 0) (iS (iC 1) Ah)))) rfl ⟨rfl,rfl,by decide +kernel,by decide +kernel,fun x c h=>h,fD rfl,rfl,fun i n h=>match i,h with | 0,h=>by cases h;exact⟨1,rfl,rfl,rfl,rfl,.inl rfl⟩ | k+1,h=>by rw[show 2+(k+1)=k+3 by lia] at h;cases h⟩
    (pQ rfl mz rfl (aA (fE (pv 0) NTx.cl mRo GRo hr bRo .nil aK) (aA (pv 2) aB))) (fun C s3 H3 fp pins=>(gR rfl (bO (aZ (i:=0) iO rfl (Or.inl rfl)) (bO (aZ (i:=1) iO rfl (Or.inl rfl)) fR)))) (fun C s3 H3 fp pins=>(qT (bF dZ (fI (pv 0) T.cl mW GW r1 bW .nil aK) (pv 2) (bM _))))
    (fun C s3 H3 fp pins=>(dP (aA (pv 0) (aA (pv 1) aB))))))),?_⟩
 obtain⟨dx,hn⟩:=nt.ob;refine⟨_,rfl,n,dx,_,rfl,hn,fF _ _ (by decide +kernel) (by decide +kernel),n,l,m,ds,rfl,nt,h100,fun a xs H1 s1 na ea Rb=>?_⟩;have lxs:=Rb.length;have st1:=st.same s1;have lys:=st1.f.length;have lss:=st1.l;refine⟨_,rfl,a,b,rfl,⟨_,SqL.of ea⟩,⟨_,st1.s⟩,fun D hD=>?_⟩;have sD:=aI hD (.lst []);refine rS (xs:=xs) (ys:=ys) (fun i zs H'=>aY H1 H'/\H' D=some (.lst zs)/\Rss CK K H' zs (fG k0 ((ds.zip ss).take i))/\zs.length<=i) ⟨sD,aE,.nil,Nat.le_refl _⟩ (fun i zs H' h=>h.2.1) (fun i zs H' _ h=>⟨h.1.seq (SqL.of ea),h.1.seq st1.s⟩) ?_ ?_
 ·rintro i zs x y H2 T1 ex ey ⟨s2,e2,R2,lz⟩ hT C hC;have hi:i < ds.length:=by
   have:=(List.getElem?_eq_some_iff.mp ex).1;lia
  obtain⟨⟨k,u,v,p⟩,hd⟩:∃d,ds[i]?=some d:=⟨_,getElem?_eq_getElem hi⟩
  obtain⟨yr,z,eyr,rw,fz⟩:=Rb.at hd;have exx:x=.ref yr:=by rw[eyr] at ex;exact(Option.some.inj ex).symm
  subst exx;obtain⟨w',s',rfl,es,fw⟩:=st1.f.get ey;have ez:(ds.zip ss)[i]?=some ((k,u,v,p),s'):=getElem?_zip_eq_some.mpr ⟨hd,es⟩;have et:(ds.zip ss).take (i+1)=(ds.zip ss).take i++[((k,u,v,p),s')]:=by rw[take_add_one,ez];rfl
  have sT:=aI hT (.tup [.ref yr,.ref w']);refine⟨T1,_,rfl,SqT.of aE,rfl,_,_,rfl,_,_,rfl,rfl,jE.1,jE.2,?_⟩;have e3:=sT _ _ e2;generalize upd H2 T1 (.tup [.ref yr,.ref w'])=H3 at sT e3 ⊢;have s3:=s2.trans sT;have rw2:=rw.same s3;obtain⟨dr,hy⟩:=id rw2;refine⟨_,rfl,k,yr,dr,_,rfl,hy,(dG _ _ _ (by decide +kernel) (by decide +kernel) (by decide +kernel)),_,rfl,_,rfl,rfl,_,rfl,?_⟩
  by_cases hk:k=k0
  ·refine L2.ifT (by rw[bY];exact decide_eq_true hk) ⟨_,rfl,_,rfl,zl9 2,fun t2 ht2=>?_⟩;have s4:=aI ht2 (.tup [.ref yr,.ref w']);have e4:=s4 _ _ e3;refine⟨e4,bC (by lia),hC _ _ ⟨(s3.trans s4).change hD,aE,?_,by rw[List.length_append];simp only[length_cons,length_nil];lia⟩⟩;rw[et,mI,if_pos hk];exact Rss.upd e4 ((R2.same (sT.trans s4)).app (.cons (SqT.of aE) (rw2.same s4) ((s3.trans s4).fq fz) ((s3.trans s4).fq fw) .nil))
  ·refine L2.ifF (by rw[bY];exact decide_eq_false hk) (hC _ _ ⟨s3,e3,?_,by lia⟩);rw[et,mI,if_neg hk];exact R2.same sT
 ·rintro zs H2 ⟨s2,e2,R2,_⟩;rw[show min xs.length ys.length=(ds.zip ss).length by rw[length_zip];lia,take_length] at R2;exact q D zs H2 (s1.trans s2) e2 R2
theorem iB:(["row","stream"]:List Str).Nodup:=by decide +kernel
abbrev Du:Stmt:=top 72
theorem Uc:aP ["net","streams"] ["net","streams"] (aH Du):=sK9 rfl rfl rfl rfl (by decide +kernel)
theorem Mo {dV:Value}(F:aV K "waste" "waste" Du dV f fd){CN:Addr}(T:RT K mg CR CK)(G1:aL P w K mg base CX0 4 g1 gd1 ["some"] (zF K))(b1:aM K gd1 ["some"] [])(k1:kI9 K g1)(m1:mI9 mg "total" g1)(G2:aL P w K mg base CX0 3 g2 gd2 ["one","other"] (eP K gB))(b2:aM K gd2 ["one","other"] [])(k2:kI9 K g2)(m2:mI9 mg "times" g2)(G3:aL P w K mg base CX0 5 g3 gd3 ["net","word","streams"] (yH CN K CK))(b3:aM K gd3 ["net","word","streams"] [])(k3:kI9 K g3)(m3:mI9 mg "with_streams" g3) :
  aL P w K mg base CX 6 f fd ["net","streams"] (zC CN K .pc gW):=by
 refine F.ok Uc (fun vs H Q E h=>?_) fun cdv A outer s H vs Q E hr h=>?_
 ·obtain⟨_,_,_,_,_,_,_,_,rfl,_⟩:=h;rfl
 obtain⟨n,l,b,m,ds,ys,ss,w0,rfl,nt,h100,hK,st,hW,hw,q⟩:=h;have r3:=hr.mono (show 3<=5 by lia);have r4:=hr.mono (show 4<=5 by lia);refine⟨_,(aF (aX (aG G1 r4 rfl m1 k1 b1 .nil aK (aA (dW (nl:=2) (fr:=[]) (Nc:=["row","stream"]) (cl:=[]) (g:=(Bh K 2 (iS (iC 0) (iS (iC 1) Ah)))) rfl ⟨rfl,rfl,by decide +kernel,by decide +kernel,fun x c h=>(by cases h),fD rfl,rfl,fun i n h=>(by simp at h)⟩
    (cW (aG G3 hr rfl m3 k3 b3 .nil aK (aA (pv 0) (aA cH (aA (pv 1) aB))))) (fun C s3 H3 fp pins=>(gR rfl (bO (aZ (i:=0) iB rfl (Or.inl rfl)) (bO (aZ (i:=1) iB rfl (Or.inl rfl)) fR)))) (fun C s3 H3 fp pins=>fC)
    (fun C s3 H3 fp pins=>(aG G2 r3 rfl m2 k2 b2 .nil aK (aA (yP (K:=K) rfl (pv 0) rfl) (aA (aG G2 r3 rfl m2 k2 b2 .nil aK (aA (pv 1) (aA (pv 1) aB))) aB))))) aB)))),?_⟩
 refine⟨_,rfl,_,rfl,n,l,b,_,ds,.pc,ys,ss,rfl,nt,h100,st,fun a zs H1 s1 ea Rs=>?_⟩;have lz:=Rs.length;have hE:∀e∈fG .pc (ds.zip ss),Low e.1.2.2.2/\Bd 1000 e.1.2.2.2/\Low e.2/\Bd 3900 e.2:=fun e he=>by
  have hm:=of_mem_zip (jX he).1;exact⟨(hK _ hm.1).2.2.2.2.1,(hK _ hm.1).2.2.2.2.2.2,(st.b _ hm.2).1,(st.b _ hm.2).2⟩
 have lE:(fG .pc (ds.zip ss)).length<=100:=by
  have h1:(fG .pc (ds.zip ss)).length<=(ds.zip ss).length:=length_filter_le _ _;have h2:(ds.zip ss).length<=ds.length:=by rw[length_zip];lia
  lia
 generalize hEs:fG .pc (ds.zip ss)=es at *
 refine⟨a,rfl,⟨_,SqL.of ea⟩,fun D hD=>?_⟩;have sD:=aI hD (.lst []);refine dR (xs:=zs) (fun i us H'=>aY H1 H'/\H' D=some (.lst us)/\Fqs K H' us ((es.take i).map gW)) ⟨sD,aE,.nil⟩ (fun i us H' h=>h.2.1) (fun i us H' _ h=>h.1.seq (SqL.of ea)) ?_ ?_
 ·rintro i us x H2 hx ⟨s2,e2,F2⟩ C hC;obtain⟨t,y,z,s',e,rfl,ee,ht,rw,fz,fs⟩:=(Rs.same s2).get hx;have hi:i < es.length:=(List.getElem?_eq_some_iff.mp ee).1;obtain⟨l1,b1,l2,b2⟩:=hE e (mem_of_getElem? ee);have lu:=F2.length;rw[length_map,length_take] at lu;refine⟨t,_,rfl,ht,rfl,_,_,rfl,_,_,rfl,rfl,jE.1,jE.2,gL ?_⟩;obtain⟨dr,hy⟩:=id rw;refine⟨_,rfl,y,CK _,_,_,_,rfl,hy,T.cl _,T.nZ _,eJ _ _ _,_,rfl,_,rfl,s',s',_,_,3900,3900,rfl,fs,fs,l2.pos,l2.pos,b2,b2,by lia,fun u H3 s3 e3=>?_⟩;have tl:=cP l2.pos l2.pos;have tb:=eE b2 b2 l2.pos l2.pos;refine⟨z,u,_,_,1000,7800,rfl,s3.fq fz,Fq.of e3,l1.pos,tl.pos,b1,tb,by lia,fun v H4 s4 e4=>?_⟩;have s34:=s3.trans s4;have e2':=s34 _ _ e2;refine⟨e2',bC (by lia),hC _ _ ⟨(s2.trans s34).change hD,aE,?_⟩⟩;rw[take_add_one,ee,map_append];exact((F2.same s34).app (.cons (Fq.of e4) .nil)).upd e2'
 ·rintro us H2 ⟨s2,e2,F2⟩;rw[lz,take_length] at F2;refine⟨D,us,_,w0,rfl,SqL.of e2,F2,iL fun e he=>?_,hW,by lia,fun r H3 s3 f3=>q r H3 (s1.trans (s2.trans s3)) f3⟩;obtain⟨l1,b1,l2,b2⟩:=hE e he;exact(Vc l1 b1 l2 b2).1
abbrev Ml:Stmt:=top 74
theorem Yu:aP ["net","streams"] ["net","streams"] (aH Ml):=sK9 rfl rfl rfl rfl (by decide +kernel)
theorem Ru {dV:Value}(F:aV K "held_total" "held_total" Ml dV f fd){CN:Addr}(T:RT K mg CR CK)(G1:aL P w K mg base CX0 4 g1 gd1 ["some"] (zF K))(b1:aM K gd1 ["some"] [])(k1:kI9 K g1)(m1:mI9 mg "total" g1)(G2:aL P w K mg base CX0 3 g2 gd2 ["one","other"] (eP K gB))(b2:aM K gd2 ["one","other"] [])(k2:kI9 K g2)(m2:mI9 mg "times" g2)(G3:aL P w K mg base CX0 5 g3 gd3 ["net","word","streams"] (yH CN K CK))(b3:aM K gd3 ["net","word","streams"] [])(k3:kI9 K g3)(m3:mI9 mg "with_streams" g3) :
  aL P w K mg base CX 6 f fd ["net","streams"] (zC CN K .ho gH):=by
 refine F.ok Yu (fun vs H Q E h=>?_) fun cdv A outer s H vs Q E hr h=>?_
 ·obtain⟨_,_,_,_,_,_,_,_,rfl,_⟩:=h;rfl
 obtain⟨n,l,b,m,ds,ys,ss,w0,rfl,nt,h100,hK,st,hW,hw,q⟩:=h;have r3:=hr.mono (show 3<=5 by lia);have r4:=hr.mono (show 4<=5 by lia);refine⟨_,(aF (aX (aG G1 r4 rfl m1 k1 b1 .nil aK (aA (dW (nl:=2) (fr:=[]) (Nc:=["row","stream"]) (cl:=[]) (g:=(Bh K 2 (iS (iC 0) (iS (iC 1) Ah)))) rfl ⟨rfl,rfl,by decide +kernel,by decide +kernel,fun x c h=>(by cases h),fD rfl,rfl,fun i n h=>(by simp at h)⟩
    (cW (aG G3 hr rfl m3 k3 b3 .nil aK (aA (pv 0) (aA cH (aA (pv 1) aB))))) (fun C s3 H3 fp pins=>(gR rfl (bO (aZ (i:=0) iB rfl (Or.inl rfl)) (bO (aZ (i:=1) iB rfl (Or.inl rfl)) fR)))) (fun C s3 H3 fp pins=>fC)
    (fun C s3 H3 fp pins=>(aG G2 r3 rfl m2 k2 b2 .nil aK (aA (yP (K:=K) rfl (pv 0) rfl) (aA (pv 1) aB))))) aB)))),?_⟩
 refine⟨_,rfl,_,rfl,n,l,b,_,ds,.ho,ys,ss,rfl,nt,h100,st,fun a zs H1 s1 ea Rs=>?_⟩;have lz:=Rs.length;have hE:∀e∈fG .ho (ds.zip ss),Low e.1.2.2.2/\Bd 1000 e.1.2.2.2/\Low e.2/\Bd 3900 e.2:=fun e he=>by
  have hm:=of_mem_zip (jX he).1;exact⟨(hK _ hm.1).2.2.2.2.1,(hK _ hm.1).2.2.2.2.2.2,(st.b _ hm.2).1,(st.b _ hm.2).2⟩
 have lE:(fG .ho (ds.zip ss)).length<=100:=by
  have h1:(fG .ho (ds.zip ss)).length<=(ds.zip ss).length:=length_filter_le _ _;have h2:(ds.zip ss).length<=ds.length:=by rw[length_zip];lia
  lia
 generalize hEs:fG .ho (ds.zip ss)=es at *
 refine⟨a,rfl,⟨_,SqL.of ea⟩,fun D hD=>?_⟩;have sD:=aI hD (.lst []);refine dR (xs:=zs) (fun i us H'=>aY H1 H'/\H' D=some (.lst us)/\Fqs K H' us ((es.take i).map gH)) ⟨sD,aE,.nil⟩ (fun i us H' h=>h.2.1) (fun i us H' _ h=>h.1.seq (SqL.of ea)) ?_ ?_
 ·rintro i us x H2 hx ⟨s2,e2,F2⟩ C hC;obtain⟨t,y,z,s',e,rfl,ee,ht,rw,fz,fs⟩:=(Rs.same s2).get hx;have hi:i < es.length:=(List.getElem?_eq_some_iff.mp ee).1;obtain⟨l1,b1,l2,b2⟩:=hE e (mem_of_getElem? ee);have lu:=F2.length;rw[length_map,length_take] at lu;refine⟨t,_,rfl,ht,rfl,_,_,rfl,_,_,rfl,rfl,jE.1,jE.2,gL ?_⟩;obtain⟨dr,hy⟩:=id rw;refine⟨_,rfl,y,CK _,_,_,_,rfl,hy,T.cl _,T.nZ _,eJ _ _ _,_,rfl,z,s',_,_,1000,3900,rfl,fz,fs,l1.pos,l2.pos,b1,b2,by lia,fun v H4 s4 e4=>?_⟩;have e2':=s4 _ _ e2;refine⟨e2',bC (by lia),hC _ _ ⟨(s2.trans s4).change hD,aE,?_⟩⟩;rw[take_add_one,ee,map_append];exact((F2.same s4).app (.cons (Fq.of e4) .nil)).upd e2'
 ·rintro us H2 ⟨s2,e2,F2⟩;rw[lz,take_length] at F2;refine⟨D,us,_,w0,rfl,SqL.of e2,F2,iL fun e he=>?_,hW,by lia,fun r H3 s3 f3=>q r H3 (s1.trans (s2.trans s3)) f3⟩;obtain⟨l1,b1,l2,b2⟩:=hE e he;exact(Lj l1 b1 l2 b2).1
theorem sQ:(["row","heights"]:List Str).Nodup:=by decide +kernel
abbrev Dr:Stmt:=top 75
theorem Rr:aP ["net","heights"] ["net","heights"] (aH Dr):=sK9 rfl rfl rfl rfl (by decide +kernel)
theorem Pa {dV:Value}(F:aV K "pushed_total" "pushed_total" Dr dV f fd){CN:Addr}(T:RT K mg CR CK){aN:Addr}(fN:∀H,Fq K H aN (0,1))(mNO:mI9 mg "NOUGHT" aN)(G1:aL P w K mg base CX0 3 g1 gd1 ["one","other"] (eP K Mq.minus))(b1:aM K gd1 ["one","other"] [])(k1:kI9 K g1)(m1:mI9 mg "minus" g1)(G2:aL P w K mg base CX0 4 g2 gd2 ["some"] (zF K))(b2:aM K gd2 ["some"] [])(k2:kI9 K g2)(m2:mI9 mg "total" g2)(G3:aL P w K mg base CX0 3 g3 gd3 ["one","other"] (eP K gB))(b3:aM K gd3 ["one","other"] [])(k3:kI9 K g3)(m3:mI9 mg "times" g3)(G4:aL P w K mg base CX0 4 g4 gd4 ["row","heights"] (yX K CK))(b4:aM K gd4 ["row","heights"] [])(k4:kI9 K g4)(m4:mI9 mg "fall_of" g4)(G5:aL P w K mg base CX0 5 g5 gd5 ["net","word"] (wJ CN K CK))(b5:aM K gd5 ["net","word"] [])(k5:kI9 K g5)(m5:mI9 mg "rows_of" g5) :
  aL P w K mg base CX 6 f fd ["net","heights"] (Hu CN K):=by
 refine F.ok Rr (fun vs H Q E h=>?_) fun cdv A outer s H vs Q E hr h=>?_
 ·obtain⟨_,_,_,_,_,_,_,_,rfl,_⟩:=h;rfl
 obtain⟨n,l,a,m,ds,xs,hp,w0,rfl,nt,h100,hK,st,hW,hw,q⟩:=h;have r3:=hr.mono (show 3<=5 by lia);have r4:=hr.mono (show 4<=5 by lia);refine⟨_,(aF (aX (aG G1 r3 rfl m1 k1 b1 .nil aK (aA (dI (v:=.ref aN) rfl mNO rfl) (aA (aG G2 r4 rfl m2 k2 b2 .nil aK (aA (dW (nl:=1) (fr:=[1]) (Nc:=["row","heights"]) (cl:=[("heights",s.heap.objs.size+1)]) rfl ⟨rfl,rfl,by decide +kernel,by decide +kernel,fun x c h=>h,fD rfl,rfl,fun i n h=>match i,h with | 0,h=>by cases h;exact⟨1,rfl,rfl,rfl,rfl,.inl rfl⟩ | k+1,h=>by rw[show 1+(k+1)=k+2 by lia] at h;cases h⟩
    (cW (aG G5 hr rfl m5 k5 b5 .nil aK (aA (pv 0) (aA cH aB)))) (fun C s3 H3 fp pins=>(aZ (i:=0) sQ rfl (Or.inl rfl))) (fun C s3 H3 fp pins=>fC)
    (fun C s3 H3 fp pins=>(aG G3 r3 rfl m3 k3 b3 .nil aK (aA (yP (K:=K) rfl (pv 0) rfl) (aA (aG G4 r4 rfl m4 k4 b4 .nil aK (aA (pv 0) (aA (pv 1) aB))) aB))))) aB)) aB))))),?_⟩
 have hD:∀k,∀d∈eT k ds,qM (m:Int) d/\d.1=k/\Low (flF hp d)/\Bd 7801 (flF hp d):=fun k d hd=>by
  have hm:=uC hd;have h:=hK _ hm.1;have fo:=Ev (d:=d) st.b st.l ⟨h.1,h.2.1,h.2.2.1,h.2.2.2.1⟩;exact⟨h,hm.2,fo.1,fo.2.mono (by lia)⟩
 have lD:(eT .pu ds).length<=100:=by
  have h1:(eT .pu ds).length<=ds.length:=length_filter_le _ _;lia
 have PP:Mq.Pos ((eT .pu ds).map (gP hp)):=iL fun d hd=>by obtain⟨h,_,l2,b2⟩:=hD _ d hd;exact(Qp h.2.2.2.2.1 h.2.2.2.2.2.2 l2 b2).1
 refine⟨_,rfl,n,l,_,ds,.pu,rfl,nt,h100,fun c zs H1 s1 ec Rb=>?_⟩;have lz:=Rb.length;refine⟨c,rfl,⟨_,SqL.of ec⟩,fun D hD'=>?_⟩;have sD:=aI hD' (.lst []);refine dR (xs:=zs) (fun i us H'=>aY H1 H'/\H' D=some (.lst us)/\Fqs K H' us (((eT .pu ds).take i).map (gP hp))) ⟨sD,aE,.nil⟩ (fun i us H' h=>h.2.1) (fun i us H' _ h=>h.1.seq (SqL.of ec)) ?_ ?_
 ·rintro i us x H2 hx ⟨s2,e2,F2⟩ C hC;have hi:i < (eT .pu ds).length:=by
   have:=(List.getElem?_eq_some_iff.mp hx).1;lia
  obtain⟨⟨k,u1,v1,p⟩,hd⟩:∃d,(eT .pu ds)[i]?=some d:=⟨_,getElem?_eq_getElem hi⟩
  obtain⟨y,z,ey,rw,fz⟩:=Rb.at hd;have ex:x=.ref y:=by rw[ey] at hx;exact(Option.some.inj hx).symm
  subst ex;obtain⟨h,_,l2,b2⟩:=hD _ _ (mem_of_getElem? hd);have lu:=F2.length;rw[length_map,length_take] at lu;have rw2:=rw.same s2;obtain⟨dr,hy⟩:=id rw2;refine⟨fQ.1,fQ.2,gL ?_⟩;refine⟨_,rfl,y,CK _,_,_,_,rfl,hy,T.cl _,T.nZ _,eJ _ _ _,_,rfl,_,rfl,y,a,(k,u1,v1,p),_,xs,hp,m,rfl,rw2,st.same (s1.trans s2),⟨h.1,h.2.1,h.2.2.1,h.2.2.2.1⟩,fun u H3 s3 e3=>?_⟩;refine⟨z,u,_,_,1000,7801,rfl,(s2.trans s3).fq fz,Fq.of e3,h.2.2.2.2.1.pos,l2.pos,h.2.2.2.2.2.2,b2,by lia,fun v H4 s4 e4=>?_⟩;have s34:=s3.trans s4;have e2':=s34 _ _ e2;refine⟨e2',bC (by lia),hC _ _ ⟨(s2.trans s34).change hD',aE,?_⟩⟩;rw[take_add_one,hd,map_append];exact((F2.same s34).app (.cons (Fq.of e4) .nil)).upd e2'
 ·rintro us H2 ⟨s2,e2,F2⟩;rw[lz,take_length] at F2;refine⟨D,us,_,w0,rfl,SqL.of e2,F2,PP,hW,by lia,fun r H3 s3 f3=>?_⟩;exact⟨aN,r,(0,1),_,1,_,rfl,fN _,f3,by decide,(jF PP).pos,⟨show (0:Nat) < 2 ^ 1 by decide,show (1:Nat) < 2 ^ 1 by decide⟩,hW.tot PP,by lia,fun v H4 s4 e4=>q v H4 (s1.trans (s2.trans (s3.trans s4))) e4⟩
abbrev Ll:Stmt:=cU (top 45) 7
theorem Lc:aP ["self","made"] ["self"] (aH Ll):=sK9 rfl rfl rfl rfl (by decide +kernel)
theorem Sz {dV:Value}{CN:Addr}(F:aV K "copy" "Net.copy" Ll dV f fd)(NTx:NT K mg CN)(mli:mg "list"=none){gNI:Addr}{gdNI:FuncData}(GNI:aL P w K mg base CX0 2 gNI gdNI ["self","many"] (zJ CN))(bNI:aM K gdNI ["self","many"] [])(MN:Mk K CN gNI):aL P w K mg base CX 4 f fd ["self"] (Om CN K):=by
 refine F.ok Lc (fun vs H Q E h=>?_) fun cdv A outer s H vs Q E hr h=>?_
 ·obtain⟨_,_,_,_,rfl,_⟩:=h;rfl
 obtain⟨n,l,m,ds,rfl,⟨⟨dx,hn⟩,ts,hl,hR⟩,h1,h20,q⟩:=h;refine⟨_,(aC (aR (i:=1) Lc.nd rfl (Or.inl rfl) (mF MN GNI hr rfl NTx.mN bNI .nil aK (aA (bU (pv 0) rfl) aB)))
  (aC (kL (pv 1) (jV gU rfl mli PyProof.Rows.boot_list (aA (bU (pv 0) rfl) aB)) rfl)
  (aF (aX (pv 1))))),?_⟩
 refine⟨_,rfl,n,CN,dx,_,_,rfl,hn,NTx.cl,NTx.nP,tK _ _,fun x ex hx1 hx2 ne=>⟨x,ex,m,rfl,aE,h1,h20,fun l0 H1 nl0 keep hx hl0=>⟨rfl,?_⟩⟩⟩;have s1:aY H H1:=fun b o e=>keep b o (by rw[aW (bA e hx1),aW (bA e hx2)];exact e) (bA e hx1);have hn1:=s1 _ _ hn;have hl1:=s1 _ _ hl;refine⟨_,rfl,n,CN,dx,_,_,rfl,hn1,NTx.cl,NTx.nK,fX _ _,l,ts,rfl,.inl (SqL.of hl1),fun l2 hl2=>?_⟩;have s2:=aI hl2 (.lst ts);have el2:upd H1 l2 (.lst ts) l2=some (.lst ts):=aE;generalize upd H1 l2 (.lst ts)=H2 at s2 el2 ⊢;have hx2':=s2 _ _ hx;refine⟨_,rfl,x,CN,ex,_,rfl,hx2',NTx.cl,NTx.nK,Nat.lt_of_le_of_lt (Jf _ _) (by decide),?_⟩;have s12:=s1.trans s2;have sF:aY H (upd H2 x (.ins CN ex (dE "kept" (.ref l2) (iJ m l0)))):=s12.change hx1;have nx:l2≠x:=eY el2 hx2' (fun z=>by cases z);refine⟨_,rfl,q x l2 _ sF hx1 (s1.free hl2) ⟨⟨ex,by rw[aE,Jn]⟩,ts,by rw[aW nx];exact el2,hR.same sF⟩⟩
structure Lv (m:Nat) (ds:List RD) (sol:List Q2):Prop where
 len:sol.length=wd m ds
 low:iZ sol
 sv:Sv m ds (eqR m ds) (uP sol)
theorem Lv.uni {m:Nat}{ds:List RD}{ps qs:List Q2}(o:Nof m ds)(h:Lv m ds ps)(g:Lv m ds qs):ps=qs:=by
 have l1:=h.len;have l2:=g.len;refine ext_getElem (by lia) fun i hi hi'=>?_;have:=Sv.uni o h.sv g.sv (i+1) (by lia);unfold uP at this;rw[if_neg (by lia),if_neg (by lia),Nat.add_sub_cancel,getD_eq_getElem?_getD,getD_eq_getElem?_getD,getElem?_eq_getElem hi,getElem?_eq_getElem hi'] at this;exact rB (h.low _ (getElem_mem hi)) (g.low _ (getElem_mem hi')) this
abbrev flS (m:Nat)(ds:List RD)(sol:List Q2):List Q2:=gK (lvS m sol) (sol.drop (m - 1)) 0 ds
structure qb3 (m:Nat) (ds:List RD) (sol:List Q2):Prop where
 k:Lv m ds sol
 lv:∀p∈lvS m sol,Low p/\Bd 3900 p
 fl:∀p∈flS m ds sol,Low p/\Bd 3900 p
 w1:∃w,Wt ((eT .pu ds).map (gP (lvS m sol))) w/\w<=6000
 w2:∃w,Wt ((fG .ho (ds.zip (flS m ds sol))).map gH) w/\w<=2500
def Nw (CN:Addr)(K:Frag):Sp:=fun vs H Q _=>∃(n l:Addr) (m b:Nat) (kb wb:Nat->Nat) (L:Int) (ds:List RD) (sol:List Q2),vs=[.ref n]/\Zt CN K H n l m b kb wb L ds/\bw b (wd m ds)<=3900/\(∀i,∃a:Int,Mq.B b a/\eqR m ds (i+1)=(a:Rat) / (L:Rat))/\qb3 m ds sol/\jQ H Q (Ny (lvS m sol) (flS m ds sol) ds)
theorem Th (k:Kd):wHo k=true↔k=.ho:=by
 cases k
 ·exact⟨fun h=>absurd h (by decide +kernel),fun h=>by cases h⟩
 ·exact⟨fun h=>absurd h (by decide +kernel),fun h=>by cases h⟩
 ·exact⟨fun _=>rfl,fun _=>by decide +kernel⟩
theorem Ss {m:Nat}{ds:List RD}(o:Nof m ds):Ju m ds=[]:=by
 unfold Ju;rw[filter_eq_nil_iff.mpr fun p hp=>?_]
 ·rfl
 ·have pm:=mem_range.mp hp;rw[(Lu o.pt pm (by have:=o.m1;lia)).mpr (o.cn p pm).symm];simp
theorem Qm {H H':Hp}{x dx C:Addr}(hx:H x=none)(hd:H dx=none)(s:cK x (upd (upd H dx (.own x)) x (.ins C dx [])) H'):aY H H':=fun b o h=>by
 have n1:b≠x:=fun z=>by rw[z,hx] at h;cases h
 have n2:b≠dx:=fun z=>by rw[z,hd] at h;cases h
 exact s b o (by rw[aW n1,aW n2];exact h) n1
theorem Rg {H:Hp}{x dx C:Addr}(hx:H x=none)(hd:H dx=none):aY H (upd (upd H dx (.own x)) x (.ins C dx [])):=fun b o h=>by
 have n1:b≠x:=fun z=>by rw[z,hx] at h;cases h
 have n2:b≠dx:=fun z=>by rw[z,hd] at h;cases h
 rw[aW n1,aW n2];exact h
abbrev Wy:Stmt:=top 76
theorem Vq:aP ["net","answer"] ["net"] (aH Wy):=sK9 rfl rfl rfl rfl (by decide +kernel)
theorem Yf {dV:Value}(F:aV K "supplied" "supplied" Wy dV f fd){CN CA:Addr}(ABx:AB K mg CA){gAI:Addr}{gdAI:FuncData}(GAI:aL P w K mg base CX0 8 gAI gdAI ["self","net"] (Ao CN CA K))(bAI:aM K gdAI ["self","net"] [])(MA:Mk K CA gAI){gHt:Addr}{gdHt:FuncData}(GHt:aL P w K mg base CX0 1 gHt gdHt ["self"] (xD CA K))(bHt:aM K gdHt ["self"] [])(mHt:gE K CA "heights" gHt){gSt:Addr}{gdSt:FuncData}(GSt:aL P w K mg base CX0 1 gSt gdSt ["self"] (wT CA K))(bSt:aM K gdSt ["self"] [])(mSt:gE K CA "streams" gSt)(G1:aL P w K mg base CX0 3 g1 gd1 ["one","other"] (eP K Mq.minus))(b1:aM K gd1 ["one","other"] [])(k1:kI9 K g1)(m1:mI9 mg "minus" g1)(G2:aL P w K mg base CX0 6 g2 gd2 ["net","heights"] (Hu CN K))(b2:aM K gd2 ["net","heights"] [])(k2:kI9 K g2)(m2:mI9 mg "pushed_total" g2)(G3:aL P w K mg base CX0 6 g3 gd3 ["net","streams"] (zC CN K .ho gH))(b3:aM K gd3 ["net","streams"] [])(k3:kI9 K g3)(m3:mI9 mg "held_total" g3) :
  aL P w K mg base CX 10 f fd ["net"] (Nw CN K):=by
 refine F.ok Vq (fun vs H Q E h=>?_) fun cdv A outer s H vs Q E hr h=>?_
 ·obtain⟨_,_,_,_,_,_,_,_,_,rfl,_⟩:=h;rfl
 obtain⟨n,l,m,b,kb,wb,L,ds,sol,rfl,NB,hw39,hR,SK,q⟩:=h;have r1:=hr.mono (show 1<=9 by lia);have r3:=hr.mono (show 3<=9 by lia);have r6:=hr.mono (show 6<=9 by lia);have r9:=hr;refine⟨_,(aC (aR (i:=1) Vq.nd rfl (Or.inl rfl) (mF MA GAI r9 rfl ABx.mA bAI .nil aK (aA (pv 0) aB)))
  (aF (aX (aG G1 r3 rfl m1 k1 b1 .nil aK (aA (aG G2 r6 rfl m2 k2 b2 .nil aK (aA (pv 0) (aA (fE (pv 1) ABx.cl mHt GHt r1 bHt .nil aK) aB))) (aA (aG G3 r6 rfl m3 k3 b3 .nil aK (aA (pv 0) (aA (fE (pv 1) ABx.cl mSt GSt r1 bSt .nil aK) aB))) aB)))))),?_⟩
 try dsimp only
 have o:=NB.eb.o;have m20:=NB.m20;have h40:=NB.h40;have m1:=o.m1;have nt:=NB.nt;have rd:∀d∈ds,qM (m:Int) d:=fun d hd=>by
  obtain⟨i,hi⟩:=getElem?_of_mem hd;exact(NB.ok i d hi).ok
 obtain⟨w1,W1,l1⟩:=SK.w1;obtain⟨w2,W2,l2⟩:=SK.w2;have lvl:(lvS m sol).length=m:=by
  have:=SK.k.len;unfold lvS;rw[length_cons,length_take,this];show min (m - 1) (m - 1+bG ds)+1=m;lia
 refine kA (fun σ' H'=>aY H H'/\∃x:Addr,σ'=[some (.ref n),some (.ref x)]/\vY CA K H' x (lvS m sol) (flS m ds sol)) (fun X hX=>?_) ?_
 ·refine⟨_,rfl,fun x dx hx0 hdx nxd=>?_⟩;have sm:=Rg (C:=CA) hx0 hdx;refine⟨x,dx,n,l,m,b,kb,wb,L,ds,rfl,aE,⟨nt.same sm,NB.ok,m20,h40,NB.cu,NB.eb⟩,hw39,hR,vX Th o.pt m20 o.fr _ (Nat.le_refl _),Ss o,fun ps H2 sx2 an lps lo OV SV=>⟨rfl,?_⟩⟩;have s2:=Qm hx0 hdx sx2;have ep:ps=sol:=Lv.uni o ⟨lps,lo,SV⟩ SK.k;subst ep;obtain⟨dxa',li,le,fo,xs,ys,ha,hle,Fle,hfo,Ffo,nw⟩:=an.e;exact hX _ _ ⟨s2,x,rfl,⟨_,_,_,_,_,_,ha,SqL.of hle,Fle,SqL.of hfo,Ffo⟩⟩
 rintro σ1 H1 ⟨s1,x,rfl,an⟩;obtain⟨dx,li,le,fo,xs,ys,ha,_⟩:=an.e;refine⟨_,rfl,_,rfl,x,dx,_,rfl,ha,Bg _ _ _ (by decide +kernel) (by decide +kernel) (by decide +kernel),x,_,_,rfl,an,fun t1 xs1 H2 s2 n1 e1 F1=>?_⟩;refine⟨n,l,t1,m,ds,xs1,_,w1,rfl,nt.same (s1.trans s2),by lia,rd,⟨SqL.of e1,F1,lvl,SK.lv⟩,W1,by lia,fun u H3 s3 e3=>?_⟩;have s13:=s2.trans s3;refine⟨_,rfl,_,rfl,x,dx,_,rfl,s13 _ _ ha,Bg _ _ _ (by decide +kernel) (by decide +kernel) (by decide +kernel),x,_,_,rfl,an.same s13,fun t2 xs2 H4 s4 n2 e2 F2=>?_⟩;refine⟨n,l,t2,m,ds,xs2,_,w2,rfl,nt.same (s1.trans (s13.trans s4)),by lia,rd,⟨SqL.of e2,F2,tD _ _ _ _,SK.fl⟩,W2,by lia,fun v H5 s5 f5=>?_⟩;have PP:Mq.Pos ((eT .pu ds).map (gP (lvS m sol))):=iL fun d hd=>by
  have hm:=uC hd;have h:=rd _ hm.1;have fo:=Ev (d:=d) SK.lv lvl ⟨h.1,h.2.1,h.2.2.1,h.2.2.2.1⟩;exact(Qp h.2.2.2.2.1 h.2.2.2.2.2.2 fo.1 fo.2).1
 have PH:Mq.Pos ((fG .ho (ds.zip (flS m ds sol))).map gH):=iL fun e he=>by
  have hm:=of_mem_zip (jX he).1;have h:=rd _ hm.1;have f:=SK.fl _ hm.2;exact(Lj h.2.2.2.2.1 h.2.2.2.2.2.2 f.1 f.2).1
 have b01:Bd 1 (0,1):=⟨show (0:Nat) < 2 ^ 1 by decide,show (1:Nat) < 2 ^ 1 by decide⟩
 have lt:=(jF PP).pos;refine⟨u,v,_,_,1+(1+w1)+1,1+w2,rfl,(s4.trans s5).fq (Fq.of e3),f5,(cT (by decide) lt).pos,(jF PH).pos,(iN b01 (W1.tot PP) (by decide) lt).mono (by lia),W2.tot PH,by lia,fun r H6 s6 e6=>?_⟩;exact q r H6 (s1.trans (s13.trans (s4.trans (s5.trans s6)))) e6
abbrev Mm:Stmt:=top 78
theorem Od:aP ["_law_script","_law_k","_law_found"] ["_law_script","_law_k"] (aH Mm):=sK9 rfl rfl rfl rfl (by decide +kernel)
def Ee (K:Frag):Sp:=fun vs H Q _=>∃(a:Addr) (ns:List Int) (j:Int) (k:Nat),vs=[.ref a,.int j]/\j=(k:Int)/\SqL K H a (ns.map V.int)/\ns.length<=63/\∀i H',aY H H'->Q (.int i) H'
theorem Up {dV:Value}(F:aV K "_law_draw" "_law_draw" Mm dV f fd) :
  aL P w K mg base CX 1 f fd ["_law_script","_law_k"] (Ee K):=by
 refine F.ok Od (fun vs H Q E h=>?_) fun cdv A outer s H vs Q E hr h=>?_
 ·obtain⟨_,_,_,_,rfl,_⟩:=h;rfl
 obtain⟨a,ns,j,k,rfl,hj,hS,h63,q⟩:=h;have hu:=hr.units;refine⟨_,(aC (aR (i:=2) Od.nd rfl (Or.inl rfl) (jC kO (pv 0) (iK (pv 1)) (iK (aU cZ (pv 1) aD))))
  (aC (cC (bF (Pw hu) (pv 2) (dH aB) (bM _)) (aF (aX aD)) bH)
  (aF (aX (aQ bN (pv 2) aD (fun _ _=>rfl)))))),?_⟩
 refine⟨_,rfl,_,rfl,j,rfl,_,rfl,_,_,rfl,rfl,j+1,rfl,a,_,rfl,hS,fun l hl=>?_⟩;have s1:=aI hl (.lst (kZ (ns.map V.int) (some j) (some (j+1))));have e1:upd H l (.lst (kZ (ns.map V.int) (some j) (some (j+1)))) l=some (.lst (kZ (ns.map V.int) (some j) (some (j+1)))):=aE;obtain⟨ms,em,lm⟩:=Pl ns (some j) (some (j+1));rw[em] at e1 s1 ⊢;generalize upd H l (.lst (ms.map V.int))=H1 at e1 s1 ⊢;refine⟨_,rfl,zl9 0,fun e he=>?_⟩;have s2:=aI he (.lst []);refine Np (s2.seq (SqL.of e1)) (SqL.of aE) ⟨_,rfl,?_⟩;rcases ms with _ | ⟨m,ms⟩
 ·exact gL (q 0 _ (s1.trans s2))
 ·refine fU ⟨_,rfl,l,_,_,_,rfl,rfl,s2.seq (SqL.of e1),bV (j:=0) rfl,q m _ (s1.trans s2)⟩
abbrev xY:Stmt:=top 79
theorem rP:aP ["_law_cell","_law_turn","_law_many","_law_left","_law_k","_law_by_here","_law_prime","_law_x"] ["_law_cell","_law_turn","_law_many"] (aH xY):=sK9 rfl rfl rfl rfl (by decide +kernel)
def rZ:Sp:=fun vs H Q _=>∃c t m:Int,vs=[.int c,.int t,.int m]/\0<=t/\t<=9/\0 < m/\∀r H',0<=r->r < m->aY H H'->Q (.int r) H'
theorem qb4 {a0 a1 a2 a3 a4 a5 a6 a7 a8 a9:Int}(hp:0 < a0/\0 < a1/\0 < a2/\0 < a3/\0 < a4/\0 < a5/\0 < a6/\0 < a7/\0 < a8/\0 < a9)(hm:a0 < 1000000/\a1 < 1000000/\a2 < 1000000/\a3 < 1000000/\a4 < 1000000/\a5 < 1000000/\a6 < 1000000/\a7 < 1000000/\a8 < 1000000/\a9 < 1000000){t:Int}(h0:0<=t)(h9:t<=9) :
  ∃v,atI [V.int a0,.int a1,.int a2,.int a3,.int a4,.int a5,.int a6,.int a7,.int a8,.int a9] t=some (.int v)/\0 < v/\v < 1000000:=by
 have:t=0\/t=1\/t=2\/t=3\/t=4\/t=5\/t=6\/t=7\/t=8\/t=9:=by lia
 rcases this with rfl | rfl | rfl | rfl | rfl | rfl | rfl | rfl | rfl | rfl
 all_goals exact⟨_,rfl,by lia,by lia⟩
abbrev l48:List Int:=[48271,69621,16807,40692,39373,30269,27183,60013,51749,35969]
abbrev l99:List Int:=[999983,999979,999961,999959,999953,999931,999917,999907,999883,999863]
@[irreducible] def md1:Stmt:=(cQ xY).getD 1 (.Pass ⟨0,0,0,0⟩)
@[irreducible] def md2:Stmt:=(cQ xY).getD 2 (.Pass ⟨0,0,0,0⟩)
def md0:Stmt:=(cQ xY).getD 0 (.Pass ⟨0,0,0,0⟩)
def md3:Stmt:=(cQ xY).getD 3 (.Pass ⟨0,0,0,0⟩)
def md4:Stmt:=(cQ xY).getD 4 (.Pass ⟨0,0,0,0⟩)
theorem qf1:cQ xY=[md0,md1,md2,md3,md4]:=by unfold md1 md2;rfl
theorem Yh:∃(q q2 p2 p3 p:Pos) (l:List (Int × _ × Pos)),md1=.Assign [.Name "_law_by_here" q] (.Subscript (.List (l.map fun q=>Expr.Constant (.int q.1) q.2.1 q.2.2) p2) (.Name "_law_turn" q2) p3) p/\l.map (fun q=>V.int q.1)=l48.map V.int:=by
 unfold md1;exact⟨_,_,_,_,_,[(48271,_,_),(69621,_,_),(16807,_,_),(40692,_,_),(39373,_,_),(30269,_,_),(27183,_,_),(60013,_,_),(51749,_,_),(35969,_,_)],rfl,rfl⟩
theorem Wf:∃(q q2 p2 p3 p:Pos) (l:List (Int × _ × Pos)),md2=.Assign [.Name "_law_prime" q] (.Subscript (.List (l.map fun q=>Expr.Constant (.int q.1) q.2.1 q.2.2) p2) (.Name "_law_turn" q2) p3) p/\l.map (fun q=>V.int q.1)=l99.map V.int:=by
 unfold md2;exact⟨_,_,_,_,_,[(999983,_,_),(999979,_,_),(999961,_,_),(999959,_,_),(999953,_,_),(999931,_,_),(999917,_,_),(999907,_,_),(999883,_,_),(999863,_,_)],rfl,rfl⟩
theorem Wj {dV:Value}(F:aV K "_law_mix" "_law_mix" xY dV f fd)(mr:mg "range"=none) :
  aL P w K mg base CX 1 f fd ["_law_cell","_law_turn","_law_many"] rZ:=by
 refine F.ok rP (fun vs H Q E h=>?_) fun cdv A outer s H vs Q E hr h=>?_
 ·obtain⟨_,_,_,rfl,_⟩:=h;rfl
 obtain⟨c,t,m,rfl,h0,h9,hm,q⟩:=h;rw[qf1];obtain⟨q1,q2,q3,q4,q5,l1,e1,eo1⟩:=Yh;obtain⟨r1,r2,r3,r4,r5,l2,e2,eo2⟩:=Wf;rw[e1,e2];refine⟨_,(aC (cC (bF dZ (aU jP (pv 0) aD) aD (bM _)) (aC (aR (i:=3) rP.nd rfl (Or.inl rfl) (aU kM (pv 0) aD))
  (aC (dQ PassesOwn.never rfl (hG rfl mr (aA (pv 1) aB)) (aZ (i:=4) rP.nd rfl (Or.inl rfl))
   (aF (aR (i:=3) rP.nd rfl (Or.inl rfl) (aU kM (pv 3) (aU jS aD aD)))))
  (aF (aX (aU kQ (pv 3) (pv 2)))))) bH)
  (aC (aR (i:=5) rP.nd rfl (Or.inl rfl) (aQ bN (dH (yU _ l1)) (pv 1) (fun _ _=>rfl)))
  (aC (aR (i:=6) rP.nd rfl (Or.inl rfl) (aQ bN (dH (yU _ l2)) (pv 1) (fun _ _=>rfl)))
  (aC (aR (i:=7) rP.nd rfl (Or.inl rfl) (aU jP (pv 0) aD))
  (aF (aX (aU kQ (aU kM (aU kQ (aU cZ (aU cZ (aU cB (aU lL aD (pv 7)) (pv 7)) (aU cB (pv 5) (pv 7))) (aU lL aD (aU cZ (pv 1) aD))) (pv 6)) aD) (pv 2)))))))),?_⟩
 rw[eo1,eo2];have hf:∀u:Int,0<=u.fmod m/\u.fmod m < m:=fun u=>⟨Int.fmod_nonneg_of_pos u hm,Int.fmod_lt_of_pos u hm⟩
 have m0:m≠0:=by lia
 refine⟨_,rfl,_,_,rfl,rfl,(show (0:Int) < 2 by decide),rfl,_,rfl,oP (fun _=>?_) (fun _=>?_)⟩
 ·refine⟨_,rfl,_,_,rfl,rfl,⟨by decide,by decide⟩,?_⟩;refine⟨_,rfl,t,rfl,by lia,by lia,?_⟩;refine gM (n:=t.toNat) (fun i σ H'=>H'=H/\∃u z,σ=[some (.int c),some (.int t),some (.int m),some (.int u),z,none,none,none]) ⟨rfl,_,none,rfl⟩ ?_ ?_
  ·rintro i σ H' hi ⟨rfl,u,z,rfl⟩;exact⟨_,rfl,_,_,rfl,rfl,⟨by decide,by decide,by decide⟩,_,_,rfl,rfl,⟨by decide,by decide⟩,rfl,_,_,rfl⟩
  ·rintro σ H' ⟨rfl,u,z,rfl⟩;exact⟨_,rfl,_,rfl,_,_,rfl,rfl,m0,q _ _ (hf u).1 (hf u).2 (aY.refl _)⟩
 ·refine⟨zl9 10,fun l1 hl1=>?_⟩;obtain⟨by_,eb,b1,b2⟩:=qb4 (a0:=48271) (a1:=69621) (a2:=16807) (a3:=40692) (a4:=39373) (a5:=30269) (a6:=27183) (a7:=60013) (a8:=51749) (a9:=35969) (by decide) (by decide) h0 h9;have s1:=aI hl1 (.lst (l48.map V.int));have g1:upd H l1 (.lst (l48.map V.int)) l1=some (.lst (l48.map V.int)):=aE;generalize upd H l1 (.lst (l48.map V.int))=H1 at s1 g1 ⊢;refine⟨_,rfl,l1,_,_,_,rfl,rfl,SqL.of g1,eb,?_⟩;refine⟨zl9 10,fun l2 hl2=>?_⟩;obtain⟨pr,ep,p1,p2⟩:=qb4 (a0:=999983) (a1:=999979) (a2:=999961) (a3:=999959) (a4:=999953) (a5:=999931) (a6:=999917) (a7:=999907) (a8:=999883) (a9:=999863) (by decide) (by decide) h0 h9;have s2:=aI hl2 (.lst (l99.map V.int));have g2:upd H1 l2 (.lst (l99.map V.int)) l2=some (.lst (l99.map V.int)):=aE;generalize upd H1 l2 (.lst (l99.map V.int))=H2 at s2 g2 ⊢;refine⟨_,rfl,l2,_,_,_,rfl,rfl,SqL.of g2,ep,?_⟩;refine⟨_,rfl,_,_,rfl,rfl,(show (0:Int) < 2147483647 by decide),?_⟩;have x1:=Int.emod_nonneg c (show (2147483647:Int)≠0 by decide);have x2:=Int.emod_lt_of_pos c (show (0:Int) < 2147483647 by decide);generalize c % 2147483647=x at x1 x2 ⊢;refine⟨_,rfl,_,_,rfl,rfl,Or.inl ⟨by decide,by decide⟩,_,rfl,cA (n:=40) (m:=40) (lZ (by lia) (by lia)) (lZ (by lia) (by lia)) (by lia) (by lia) ?_⟩;refine⟨_,rfl,_,rfl,cA (n:=40) (m:=40) (lZ (by lia) (by lia)) (lZ (by lia) (by lia)) (by lia) (by lia) ⟨_,_,rfl,rfl,?_⟩⟩;refine⟨_,rfl,_,_,rfl,rfl,_,_,rfl,rfl,Or.inl ⟨by decide,by decide⟩,_,_,rfl,rfl,_,rfl,_,_,rfl,rfl,by lia,_,_,rfl,rfl,⟨by decide,by decide⟩,_,rfl,_,_,rfl,rfl,m0,?_⟩;exact q _ _ (hf _).1 (hf _).2 (s1.trans s2)
abbrev Py:Stmt:=top 80
theorem zP:aP ["_law_cell","_law_k","_law_left","_law_j"] ["_law_cell","_law_k"] (aH Py):=sK9 rfl rfl rfl rfl (by decide +kernel)
def Ce:Sp:=fun vs H Q _=>∃c k:Int,vs=[.int c,.int k]/\0<=k/\k<=63/\∀r,Q (.int r) H
theorem Rk {dV:Value}(F:aV K "_law_part" "_law_part" Py dV f fd)(mr:mg "range"=none) :
  aL P w K mg base CX 1 f fd ["_law_cell","_law_k"] Ce:=by
 refine F.ok zP (fun vs H Q E h=>?_) fun cdv A outer s H vs Q E hr h=>?_
 ·obtain⟨_,_,rfl,_⟩:=h;rfl
 obtain⟨c,k,rfl,h0,h9,q⟩:=h;refine⟨_,(aC (cC (bF dZ (aU jP (pv 0) aD) aD (bM _)) (aF (aX (aU cZ (aU jP (pv 0) (aU jS aD aD)) (aU cB (aU lL aD (pv 1)) (pv 1))))) bH)
  (aC (aR (i:=2) zP.nd rfl (Or.inl rfl) (aU kM (pv 0) aD))
  (aC (dQ PassesOwn.never rfl (hG rfl mr (aA (aU lL aD (pv 1)) aB)) (aZ (i:=3) zP.nd rfl (Or.inl rfl))
   (aF (aR (i:=2) zP.nd rfl (Or.inl rfl) (aU kM (pv 2) (aU jS aD aD)))))
  (aF (aX (aU cZ (aU lL aD (pv 2)) aD)))))),?_⟩
 refine⟨_,rfl,_,_,rfl,rfl,(show (0:Int) < 2 by decide),rfl,_,rfl,oP (fun _=>?_) (fun _=>?_)⟩
 ·refine⟨_,rfl,_,_,rfl,rfl,⟨by decide,by decide,by decide⟩,_,_,rfl,rfl,(show (0:Int) < 10 ^ (15:Int).toNat by decide),?_⟩;refine⟨_,rfl,_,_,rfl,rfl,Or.inl ⟨by decide,by decide⟩,_,rfl,cA (n:=40) (m:=40) (lZ (by lia) (by lia)) (lZ (by lia) (by lia)) (by lia) (by lia) ⟨_,_,rfl,rfl,q _⟩⟩
 ·refine⟨_,rfl,_,_,rfl,rfl,⟨by decide,by decide⟩,?_⟩;refine⟨_,rfl,_,_,rfl,rfl,Or.inl ⟨by decide,by decide⟩,_,rfl,by lia,by lia,?_⟩;refine gM (n:=(12*k).toNat) (fun i σ H'=>H'=H/\∃u z,σ=[some (.int c),some (.int k),some (.int u),z]) ⟨rfl,_,none,rfl⟩ ?_ ?_
  ·rintro i σ H' hi ⟨rfl,u,z,rfl⟩;exact⟨_,rfl,_,_,rfl,rfl,⟨by decide,by decide,by decide⟩,_,_,rfl,rfl,⟨by decide,by decide⟩,rfl,_,_,rfl⟩
  ·rintro σ H' ⟨rfl,u,z,rfl⟩;exact⟨_,rfl,_,_,rfl,rfl,Or.inl ⟨by decide,by decide⟩,_,_,rfl,rfl,q _⟩
abbrev Zh:Stmt:=top 81
theorem Gs:aP ["_law_cell","_law_turn","_law_left","_law_k"] ["_law_cell","_law_turn"] (aH Zh):=sK9 rfl rfl rfl rfl (by decide +kernel)
def Qb:Sp:=fun vs H Q _=>∃c t:Int,vs=[.int c,.int t]/\0<=t/\t<=9/\∀r:Int,-1000000000000<=r->r<=1000000000000->Q (.int r) H
theorem p12:(10:Int) ^ (12:Int).toNat=1000000000000:=by decide
theorem Xg {dV:Value}(F:aV K "_law_far" "_law_far" Zh dV f fd)(mr:mg "range"=none) :
  aL P w K mg base CX 1 f fd ["_law_cell","_law_turn"] Qb:=by
 refine F.ok Gs (fun vs H Q E h=>?_) fun cdv A outer s H vs Q E hr h=>?_
 ·obtain⟨_,_,rfl,_⟩:=h;rfl
 obtain⟨c,t,rfl,h0,h9,q⟩:=h;refine⟨_,(aC (cC (bF dZ (aU jP (pv 0) aD) aD (bM _)) (aC (aR (i:=2) Gs.nd rfl (Or.inl rfl) (aU kM (pv 0) aD))
  (aC (dQ PassesOwn.never rfl (hG rfl mr (aA aD aB)) (aZ (i:=3) Gs.nd rfl (Or.inl rfl))
   (aF (aR (i:=2) Gs.nd rfl (Or.inl rfl) (aU kM (pv 2) (aU jS aD aD)))))
  (aF (aX (aU jR (aU jP (pv 2) (aU cZ (aU lL aD (aU jS aD aD)) aD)) (aU jS aD aD)))))) bH)
  (aF (aX (aU jR (aU jP (aU cB (aU jP (pv 0) (aU jS aD aD)) (aU cZ (aU lL aD (pv 1)) aD)) (aU cZ (aU lL aD (aU jS aD aD)) aD)) (aU jS aD aD))))),?_⟩
 have fin:∀u:Int,Q (.int (u % (2*10 ^ (12:Int).toNat+1) - 10 ^ (12:Int).toNat)) H:=fun u=>by
  rw[p12];have x1:=Int.emod_nonneg u (show (2*1000000000000+1:Int)≠0 by decide);have x2:=Int.emod_lt_of_pos u (show (0:Int) < 2*1000000000000+1 by decide);exact q _ (by lia) (by lia)
 refine⟨_,rfl,_,_,rfl,rfl,(show (0:Int) < 2 by decide),rfl,_,rfl,oP (fun _=>?_) (fun _=>?_)⟩
 ·refine⟨_,rfl,_,_,rfl,rfl,⟨by decide,by decide⟩,?_⟩;refine⟨_,rfl,by lia,by lia,?_⟩;refine gM (n:=10) (fun i σ H'=>H'=H/\∃u z,σ=[some (.int c),some (.int t),some (.int u),z]) ⟨rfl,_,none,rfl⟩ ?_ ?_
  ·rintro i σ H' hi ⟨rfl,u,z,rfl⟩;exact⟨_,rfl,_,_,rfl,rfl,⟨by decide,by decide,by decide⟩,_,_,rfl,rfl,⟨by decide,by decide⟩,rfl,_,_,rfl⟩
  ·rintro σ H' ⟨rfl,u,z,rfl⟩;exact⟨_,rfl,_,_,rfl,rfl,⟨by decide,by decide,by decide⟩,_,_,rfl,rfl,Or.inl ⟨by decide,by decide⟩,_,_,rfl,rfl,_,_,rfl,rfl,(show (0:Int) < 2*10 ^ (12:Int).toNat+1 by decide),_,_,rfl,rfl,⟨by decide,by decide,by decide⟩,_,_,rfl,rfl,fin u⟩
 ·refine⟨_,rfl,_,_,rfl,rfl,⟨by decide,by decide,by decide⟩,_,_,rfl,rfl,(show (0:Int) < 10 ^ (12:Int).toNat by decide),?_⟩;have x1:=Int.emod_nonneg c (show (10 ^ (12:Int).toNat:Int)≠0 by decide);have x2:=Int.emod_lt_of_pos c (show (0:Int) < 10 ^ (12:Int).toNat by decide);rw[p12] at x1 x2;refine⟨_,rfl,_,_,rfl,rfl,Or.inl ⟨by decide,by decide⟩,_,_,rfl,rfl,cA (n:=40) (m:=40) (lZ (by rw[p12];lia) (by rw[p12];lia)) (lZ (by lia) (by lia)) (by lia) (by lia) ?_⟩;exact⟨_,_,rfl,rfl,⟨by decide,by decide,by decide⟩,_,_,rfl,rfl,Or.inl ⟨by decide,by decide⟩,_,_,rfl,rfl,_,_,rfl,rfl,(show (0:Int) < 2*10 ^ (12:Int).toNat+1 by decide),_,_,rfl,rfl,⟨by decide,by decide,by decide⟩,_,_,rfl,rfl,fin _⟩
abbrev yK:Stmt:=top 82
theorem oQ:aP ["_law_top","_law_bottom","_law_one","_law_other"] ["_law_top","_law_bottom"] (aH yK):=sK9 rfl rfl rfl rfl (by decide +kernel)
theorem Id {dV:Value}(F:aV K "_law_lowest" "_law_lowest" yK dV f fd)(b:Bl mg) :
  aL P w K mg base CX 1 f fd ["_law_top","_law_bottom"] gD:=by
 refine F.ok oQ (fun vs H Q E h=>?_) fun cdv A outer s H vs Q E hr h=>?_
 ·obtain⟨_,_,_,rfl,_⟩:=h;rfl
 obtain⟨t,b',n,rfl,hb,hB,hn,q⟩:=h;refine⟨_,(aC (Lo (i:=2) (j:=3) rfl oQ.nd rfl rfl (by decide) rfl rfl (aA (cN sU rfl b.abs PyProof.Rows.boot_abs (aA (pv 0) aB)) (aA (cN sU rfl b.abs PyProof.Rows.boot_abs (aA (pv 1) aB)) aB)) rfl)
  (aC (uQ PassesOwn.never (bF qH (pv 3) aD (bM _)) (aF (Lo (i:=2) (j:=3) rfl oQ.nd rfl rfl (by decide) rfl rfl (aA (pv 3) (aA (aU kQ (pv 2) (pv 3)) aB)) rfl)))
  (aC (cC (bF xE (pv 1) aD (bM _)) (aF (aR (i:=2) oQ.nd rfl (Or.inl rfl) (aU jR aD (pv 2)))) bH)
  (aF (aX (dP (aA (aU iQ (pv 0) (pv 2)) (aA (aU iQ (pv 1) (pv 2)) aB)))))))),?_⟩
 refine⟨_,rfl,_,rfl,_,rfl,_,rfl,_,_,rfl,?_⟩;have g0:=Mq.Xj t b';have n0:0<=(if t < 0 then -t else t):=by split<;>lia
 have n1:0<=(if b' < 0 then -b' else b'):=by split<;>lia
 generalize (if t < 0 then -t else t)=x' at *
 generalize (if b' < 0 then -b' else b')=y' at *
 have hd:=pZ (t:=t) hb;have hdB:Mq.B n (dvr t b'):=hB.le (Cg hb);refine rY (fun σ H'=>H'=H/\∃u v,σ=[some (.int t),some (.int b'),some (.int u),some (.int v)]/\gc u v=gc t b'/\0<=u/\0<=v) (fun σ _=>match σ with | [_,_,_,some (.int v)]=>v.natAbs | _=>0) ⟨rfl,x',y',rfl,g0,n0,n1⟩ ?_ ?_
 ·rintro σ H' ⟨rfl,u,v,rfl,e,hu,hv0⟩;refine⟨_,rfl,rfl,_,rfl,?_⟩;refine oP (fun c=>?_) (fun c=>?_)
  ·have hv:v≠0:=by intro q;subst q;simp at c
   refine⟨_,rfl,_,rfl,_,rfl,_,_,rfl,rfl,hv,_,_,rfl,⟨rfl,v,Int.fmod u v,rfl,(Hm u v).trans e,hv0,Int.fmod_nonneg_of_pos u (by lia)⟩,vT hv⟩
  ·have hv:v=0:=by
    simp at c;exact c
   subst hv;have eu:u=gc t b':=by rw[<- e,Gc,if_neg (by lia)]
   subst eu;refine⟨_,rfl,_,_,rfl,rfl,_,rfl,oP (fun c=>?_) (fun c=>?_)⟩
   ·have hlt:b' < 0:=of_decide_eq_true c;have e:dvr t b'=0 - gc t b':=by unfold dvr;rw[if_pos hlt];lia
    rw[e] at hd hdB;have q':jQ H' Q (t.fdiv (0 - gc t b'),b'.fdiv (0 - gc t b')):=by
     have z:=q;unfold red at z;rw[e] at z;exact z
    refine⟨_,rfl,_,_,rfl,rfl,?_⟩;refine⟨_,rfl,_,rfl,fZ hd hdB hn ⟨_,rfl,_,rfl,fZ hd hdB hn ⟨zl9 2,fun p hp=>?_⟩⟩⟩;exact q' p _ (aI hp _) aE
   ·have hlt:¬b' < 0:=fun z=>c (decide_eq_true z);have e:dvr t b'=gc t b':=by unfold dvr;rw[if_neg hlt]
    rw[e] at hd hdB;have q':jQ H' Q (t.fdiv (gc t b'),b'.fdiv (gc t b')):=by
     have z:=q;unfold red at z;rw[e] at z;exact z
    refine⟨_,rfl,_,rfl,fZ hd hdB hn ⟨_,rfl,_,rfl,fZ hd hdB hn ⟨zl9 2,fun p hp=>?_⟩⟩⟩;exact q' p _ (aI hp _) aE
 ·rintro σ H Q Q' m ⟨v,h1,h2,k,h3,h4⟩;exact⟨v,h1,h2,k,h3,m _ _ h4⟩
abbrev Di:Stmt:=top 83
theorem Us:aP ["_law_one","_law_other"] ["_law_one","_law_other"] (aH Di):=sK9 rfl rfl rfl rfl (by decide +kernel)
theorem Qa {dV:Value}(F:aV K "_law_plus" "_law_plus" Di dV f fd)(G1:aL P w K mg base CX0 1 g1 gd1 ["_law_top","_law_bottom"] gD)(b1:aM K gd1 ["_law_top","_law_bottom"] [])(k1:kI9 K g1)(m1:mI9 mg "_law_lowest" g1) :
  aL P w K mg base CX 2 f fd ["_law_one","_law_other"] (eP K gY):=by
 refine F.ok Us (fun vs H Q E h=>?_) fun cdv A outer s H vs Q E hr h=>?_
 ·obtain⟨_,_,_,_,_,_,rfl,_⟩:=h;rfl
 obtain⟨a,b,p,q,n,m,rfl,fa,fb,hp,hq,bp,bq,hnm,z⟩:=h;refine⟨_,(aF (aX (aG G1 hr rfl m1 k1 b1 .nil aK (aA (aU cZ (aU cB (aQ aT (pv 0) aD (fun _ _=>rfl)) (aQ aT (pv 1) aD (fun _ _=>rfl))) (aU cB (aQ aT (pv 1) aD (fun _ _=>rfl)) (aQ aT (pv 0) aD (fun _ _=>rfl)))) (aA (aU cB (aQ aT (pv 0) aD (fun _ _=>rfl)) (aQ aT (pv 1) aD (fun _ _=>rfl))) aB))))),?_⟩;refine dA rfl fa (cG rfl fb (cA bp.a bq.b (by lia) (by lia) ?_));refine dA rfl fb (cG rfl fa (cA bq.a bp.b (by lia) (by lia) ⟨_,_,rfl,rfl,?_⟩));refine cG rfl fa (cG rfl fb (cA bp.b bq.b (by lia) (by lia) ?_));exact⟨_,_,n+m,rfl,gF hp hq,bp.b.mul bq.b,by lia,z⟩
abbrev Er:Stmt:=top 84
theorem Rx:aP ["_law_one","_law_other"] ["_law_one","_law_other"] (aH Er):=sK9 rfl rfl rfl rfl (by decide +kernel)
theorem Ko {dV:Value}(F:aV K "_law_less" "_law_less" Er dV f fd)(G1:aL P w K mg base CX0 1 g1 gd1 ["_law_top","_law_bottom"] gD)(b1:aM K gd1 ["_law_top","_law_bottom"] [])(k1:kI9 K g1)(m1:mI9 mg "_law_lowest" g1) :
  aL P w K mg base CX 2 f fd ["_law_one","_law_other"] (eP K Mq.minus):=by
 refine F.ok Rx (fun vs H Q E h=>?_) fun cdv A outer s H vs Q E hr h=>?_
 ·obtain⟨_,_,_,_,_,_,rfl,_⟩:=h;rfl
 obtain⟨a,b,p,q,n,m,rfl,fa,fb,hp,hq,bp,bq,hnm,z⟩:=h;refine⟨_,(aF (aX (aG G1 hr rfl m1 k1 b1 .nil aK (aA (aU jR (aU cB (aQ aT (pv 0) aD (fun _ _=>rfl)) (aQ aT (pv 1) aD (fun _ _=>rfl))) (aU cB (aQ aT (pv 1) aD (fun _ _=>rfl)) (aQ aT (pv 0) aD (fun _ _=>rfl)))) (aA (aU cB (aQ aT (pv 0) aD (fun _ _=>rfl)) (aQ aT (pv 1) aD (fun _ _=>rfl))) aB))))),?_⟩;refine dA rfl fa (cG rfl fb (cA bp.a bq.b (by lia) (by lia) ?_));refine dA rfl fb (cG rfl fa (cA bq.a bp.b (by lia) (by lia) ⟨_,_,rfl,rfl,?_⟩));refine cG rfl fa (cG rfl fb (cA bp.b bq.b (by lia) (by lia) ?_));exact⟨_,_,n+m,rfl,gF hp hq,bp.b.mul bq.b,by lia,z⟩
theorem jQ.same {H H':Hp}{Q:VK}{p:Q2}(s:aY H H')(h:jQ H Q p):jQ H' Q p:=fun a H2 s2 e=>h a H2 (s.trans s2) e
abbrev xW:Stmt:=top 85
theorem Nf:aP ["_law_one","_law_other"] ["_law_one","_law_other"] (aH xW):=sK9 rfl rfl rfl rfl (by decide +kernel)
theorem Ib {dV:Value}(F:aV K "_law_times" "_law_times" xW dV f fd)(G1:aL P w K mg base CX0 1 g1 gd1 ["_law_top","_law_bottom"] gD)(b1:aM K gd1 ["_law_top","_law_bottom"] [])(k1:kI9 K g1)(m1:mI9 mg "_law_lowest" g1) :
  aL P w K mg base CX 2 f fd ["_law_one","_law_other"] (eP K gB):=by
 refine F.ok Nf (fun vs H Q E h=>?_) fun cdv A outer s H vs Q E hr h=>?_
 ·obtain⟨_,_,_,_,_,_,rfl,_⟩:=h;rfl
 obtain⟨a,b,p,q,n,m,rfl,fa,fb,hp,hq,bp,bq,hnm,z⟩:=h;refine⟨_,(aF (aX (aG G1 hr rfl m1 k1 b1 .nil aK (aA (aU cB (aQ aT (pv 0) aD (fun _ _=>rfl)) (aQ aT (pv 1) aD (fun _ _=>rfl))) (aA (aU cB (aQ aT (pv 0) aD (fun _ _=>rfl)) (aQ aT (pv 1) aD (fun _ _=>rfl))) aB))))),?_⟩;refine dA rfl fa (dA rfl fb (cA bp.a bq.a (by lia) (by lia) ?_));refine cG rfl fa (cG rfl fb (cA bp.b bq.b (by lia) (by lia) ?_));exact⟨_,_,n+m,rfl,gF hp hq,bp.b.mul bq.b,by lia,z⟩
abbrev Xl:Stmt:=top 86
theorem qf6:aP ["_law_one","_law_other"] ["_law_one","_law_other"] (aH Xl):=sK9 rfl rfl rfl rfl (by decide +kernel)
theorem Xs {dV:Value}(F:aV K "_law_by" "_law_by" Xl dV f fd)(G1:aL P w K mg base CX0 1 g1 gd1 ["_law_top","_law_bottom"] gD)(b1:aM K gd1 ["_law_top","_law_bottom"] [])(k1:kI9 K g1)(m1:mI9 mg "_law_lowest" g1) :
  aL P w K mg base CX 2 f fd ["_law_one","_law_other"] (tX K):=by
 refine F.ok qf6 (fun vs H Q E h=>?_) fun cdv A outer s H vs Q E hr h=>?_
 ·obtain⟨_,_,_,_,_,_,rfl,_⟩:=h;rfl
 obtain⟨a,b,p,q,n,m,rfl,fa,fb,hp,hq,h0,bp,bq,hnm,z⟩:=h;refine⟨_,(aF (aX (aG G1 hr rfl m1 k1 b1 .nil aK (aA (aU cB (aQ aT (pv 0) aD (fun _ _=>rfl)) (aQ aT (pv 1) aD (fun _ _=>rfl))) (aA (aU cB (aQ aT (pv 0) aD (fun _ _=>rfl)) (aQ aT (pv 1) aD (fun _ _=>rfl))) aB))))),?_⟩;refine dA rfl fa (cG rfl fb (cA bp.a bq.b (by lia) (by lia) ?_));refine cG rfl fa (dA rfl fb (cA bp.b bq.a (by lia) (by lia) ?_));exact⟨_,_,n+m,rfl,pK hp (by lia),bp.b.mul bq.a,by lia,z⟩
theorem qb5 {b:Int}(h1:1<=b)(h2:b<=12):b ∣ 27720:=by
 have:b=1\/b=2\/b=3\/b=4\/b=5\/b=6\/b=7\/b=8\/b=9\/b=10\/b=11\/b=12:=by lia
 rcases this with rfl | rfl | rfl | rfl | rfl | rfl | rfl | rfl | rfl | rfl | rfl | rfl<;>decide
def tW:Sp:=fun vs H Q _=>∃(c t:Int),vs=[.int c,.int t]/\0<=t/\t<=8/\∀p,kT p->jQ H Q p
def Nn:Sp:=fun vs H Q _=>∃c:Int,vs=[.int c]/\∀p,uS p->jQ H Q p
theorem Hc {H:Hp}{Q:VK}(q:∀p,kT p->jQ H Q p){H':Hp}(s:aY H H'){t b:Int}(bT:Mq.B 41 t)(h3:0<=b)(h4:b < 12):gD [.int t,.int (1+b)] H' Q E0:=by
 have b0:1+b≠0:=by lia
 have le:=lT (t:=t) b0;have bB:Mq.B 6 (1+b):=lZ (by lia) (by lia);have lo:=iA (t:=t) b0;have b2:(red t (1+b)).2.natAbs<=(1+b).natAbs:=le.2;have p1:=lo.pos;exact⟨t,1+b,6,rfl,b0,bB,by lia,jQ.same s (q _ ⟨lo,⟨bT.le le.1,(bB.le le.2).mono (by decide)⟩,qb5 p1 (by lia)⟩)⟩
theorem Nk {H:Hp}{Q:VK}(q:∀p,uS p->jQ H Q p){H':Hp}(s:aY H H'){t b:Int}(t0:0 < t)(bT:Mq.B 30 t)(h3:0<=b)(h4:b < 6):gD [.int t,.int (1+b)] H' Q E0:=by
 have b0:1+b≠0:=by lia
 have le:=lT (t:=t) b0;have bB:Mq.B 6 (1+b):=lZ (by lia) (by lia);have b2:(red t (1+b)).2.natAbs<=(1+b).natAbs:=le.2;exact⟨t,1+b,6,rfl,b0,bB,by lia,jQ.same s (q _ ⟨iA b0,Mq.Ud t0 (by lia),bT.le le.1,by lia⟩)⟩
abbrev yD:Stmt:=top 87
theorem rX:aP ["_law_cell","_law_turn","_law_top"] ["_law_cell","_law_turn"] (aH yD):=sK9 rfl rfl rfl rfl (by decide +kernel)
theorem Iz {dV:Value}(F:aV K "_law_number" "_law_number" yD dV f fd)(G1:aL P w K mg base CX0 1 g1 gd1 ["_law_cell","_law_turn","_law_many"] rZ)(b1:aM K gd1 ["_law_cell","_law_turn","_law_many"] [])(k1:kI9 K g1)(m1:mI9 mg "_law_mix" g1)(G2:aL P w K mg base CX0 1 g2 gd2 ["_law_cell","_law_turn"] Qb)(b2:aM K gd2 ["_law_cell","_law_turn"] [])(k2:kI9 K g2)(m2:mI9 mg "_law_far" g2)(G3:aL P w K mg base CX0 1 g3 gd3 ["_law_top","_law_bottom"] gD)(b3:aM K gd3 ["_law_top","_law_bottom"] [])(k3:kI9 K g3)(m3:mI9 mg "_law_lowest" g3) :
  aL P w K mg base CX 2 f fd ["_law_cell","_law_turn"] tW:=by
 refine F.ok rX (fun vs H Q E h=>?_) fun cdv A outer s H vs Q E hr h=>?_
 ·obtain⟨_,_,rfl,_⟩:=h;rfl
 obtain⟨c,t,rfl,h0,h8,q⟩:=h;refine⟨_,(aC (aR (i:=2) rX.nd rfl (Or.inl rfl) (aU jR (aG G1 hr rfl m1 k1 b1 .nil aK (aA (pv 0) (aA (pv 1) (aA aD aB)))) aD))
  (aC (cC (bF dZ (aG G1 hr rfl m1 k1 b1 .nil aK (aA (pv 0) (aA aD (aA aD aB)))) aD (bM _)) (aF (aR (i:=2) rX.nd rfl (Or.inl rfl) (aG G2 hr rfl m2 k2 b2 .nil aK (aA (pv 0) (aA (pv 1) aB))))) bH)
  (aF (aX (aG G3 hr rfl m3 k3 b3 .nil aK (aA (pv 2) (aA (aU cZ aD (aG G1 hr rfl m1 k1 b1 .nil aK (aA (pv 0) (aA (aU cZ (pv 1) aD) (aA aD aB))))) aB))))))),?_⟩
 refine⟨_,rfl,_,rfl,c,t,121,rfl,h0,by lia,by lia,fun r H1 r1 r2 s1=>?_⟩;refine⟨_,_,rfl,rfl,?_⟩;have small:Mq.B 41 (r - 60):=lZ (by lia) (by lia);refine⟨_,rfl,c,7,8,rfl,by lia,by lia,by lia,fun r' H2 _ _ s2=>?_⟩;refine⟨rfl,_,rfl,oP (fun _=>?_) (fun _=>?_)⟩
 ·refine⟨_,rfl,_,rfl,c,t,rfl,h0,by lia,fun u u1 u2=>?_⟩;refine⟨_,rfl,_,rfl,_,rfl,_,_,rfl,rfl,c,t+1,12,rfl,by lia,by lia,by lia,fun b H3 b1 b2 s3=>⟨_,_,rfl,rfl,?_⟩⟩;exact Hc q (s1.trans (s2.trans s3)) (show Mq.B 41 u from lZ (by lia) (by lia)) b1 b2
 ·refine⟨_,rfl,_,rfl,_,rfl,_,_,rfl,rfl,c,t+1,12,rfl,by lia,by lia,by lia,fun b H3 b1 b2 s3=>⟨_,_,rfl,rfl,?_⟩⟩;exact Hc q (s1.trans (s2.trans s3)) small b1 b2
abbrev Nr:Stmt:=top 88
theorem Dj:aP ["_law_cell","_law_top"] ["_law_cell"] (aH Nr):=sK9 rfl rfl rfl rfl (by decide +kernel)
theorem Rp {dV:Value}(F:aV K "_law_size" "_law_size" Nr dV f fd)(G1:aL P w K mg base CX0 1 g1 gd1 ["_law_cell","_law_turn","_law_many"] rZ)(b1:aM K gd1 ["_law_cell","_law_turn","_law_many"] [])(k1:kI9 K g1)(m1:mI9 mg "_law_mix" g1)(G2:aL P w K mg base CX0 1 g2 gd2 ["_law_cell","_law_turn"] Qb)(b2:aM K gd2 ["_law_cell","_law_turn"] [])(k2:kI9 K g2)(m2:mI9 mg "_law_far" g2)(G3:aL P w K mg base CX0 1 g3 gd3 ["_law_top","_law_bottom"] gD)(b3:aM K gd3 ["_law_top","_law_bottom"] [])(k3:kI9 K g3)(m3:mI9 mg "_law_lowest" g3) :
  aL P w K mg base CX 2 f fd ["_law_cell"] Nn:=by
 refine F.ok Dj (fun vs H Q E h=>?_) fun cdv A outer s H vs Q E hr h=>?_
 ·obtain⟨_,rfl,_⟩:=h;rfl
 obtain⟨c,rfl,q⟩:=h;refine⟨_,(aC (aR (i:=1) Dj.nd rfl (Or.inl rfl) (aU cZ aD (aG G1 hr rfl m1 k1 b1 .nil aK (aA (pv 0) (aA aD (aA aD aB))))))
  (aC (cC (bF dZ (aG G1 hr rfl m1 k1 b1 .nil aK (aA (pv 0) (aA aD (aA aD aB)))) aD (bM _)) (aF (aR (i:=1) Dj.nd rfl (Or.inl rfl) (aU cZ aD (aU jP (aG G2 hr rfl m2 k2 b2 .nil aK (aA (pv 0) (aA aD aB))) (aU cZ (aU jS aD aD) aD))))) bH)
  (aF (aX (aG G3 hr rfl m3 k3 b3 .nil aK (aA (pv 1) (aA (aU cZ aD (aG G1 hr rfl m1 k1 b1 .nil aK (aA (pv 0) (aA aD (aA aD aB))))) aB))))))),?_⟩
 refine⟨_,rfl,c,3,12,rfl,by decide,by decide,by decide,fun r H1 r1 r2 s1=>⟨_,_,rfl,rfl,?_⟩⟩;refine⟨_,rfl,c,7,12,rfl,by decide,by decide,by decide,fun r' H2 _ _ s2=>?_⟩;refine⟨rfl,_,rfl,oP (fun _=>?_) (fun _=>?_)⟩
 ·refine⟨_,rfl,c,1,rfl,by decide,by decide,fun u u1 u2=>?_⟩;refine⟨_,_,rfl,rfl,⟨by decide,by decide,by decide⟩,_,_,rfl,rfl,_,_,rfl,rfl,(show (0:Int) < 10 ^ (9:Int).toNat+7 by decide),_,_,rfl,rfl,?_⟩;have p9:(10:Int) ^ (9:Int).toNat+7=1000000007:=by decide
  have g0:=Int.emod_nonneg u (show (1000000007:Int)≠0 by decide);have g1:=Int.emod_lt_of_pos u (show (0:Int) < 1000000007 by decide);rw[<- p9] at g0 g1;refine⟨_,rfl,_,rfl,c,4,6,rfl,by decide,by decide,by decide,fun b H3 b1 b2 s3=>⟨_,_,rfl,rfl,?_⟩⟩;exact Nk q (s1.trans (s2.trans s3)) (t:=1+u % ((10:Int) ^ (9:Int).toNat+7)) (by lia) (lZ (by lia) (by rw[p9] at g1 ⊢;lia)) b1 b2
 ·refine⟨_,rfl,_,rfl,c,4,6,rfl,by decide,by decide,by decide,fun b H3 b1 b2 s3=>⟨_,_,rfl,rfl,?_⟩⟩;exact Nk q (s1.trans (s2.trans s3)) (t:=1+r) (by lia) (lZ (by lia) (by lia)) b1 b2
abbrev Qu:Stmt:=top 89
theorem Lr:aP ["_law_found","_law_due","_law_number_here"] ["_law_found","_law_due"] (aH Qu):=sK9 rfl rfl rfl rfl (by decide +kernel)
def Lf (K:Frag):Sp:=fun vs H Q _=>∃(a b:Addr) (p:Q2),vs=[.ref a,.ref b]/\Fq K H a p/\Fq K H b p/\Q (.bl true) H
theorem Tc {dV:Value}(F:aV K "_law_told" "_law_told" Qu dV f fd)(b:Bl mg)(ml:mg "len"=none)(mt:mg "tuple"=none) :
  aL P w K mg base CX 1 f fd ["_law_found","_law_due"] (Lf K):=by
 refine F.ok Lr (fun vs H Q E h=>?_) fun cdv A outer s H vs Q E hr h=>?_
 ·obtain⟨_,_,_,rfl,_⟩:=h;rfl
 obtain⟨a,d,p,rfl,fa,fd',q⟩:=h;have hu:=hr.units;refine⟨_,(aC (cC (PW.pt (oZ (gG (eZ (iM (i:=0) rfl (Or.inl rfl) b.isi mt rfl rfl PyProof.Rows.boot_tuple))) (nV (bF qH (cN bX rfl ml PySem.boot_len (aA (pv 0) aB)) aD (bM _))))) (aF (aX mZ)) bH)
  (aC (dQ PassesOwn.never rfl (Xf (pv 0)) (aZ (i:=2) Lr.nd rfl (Or.inl rfl))
   (aF (cC (PW.pt (oZ (gG (eZ (iM (i:=2) rfl (Or.inl rfl) b.isi b.int rfl rfl PyProof.Rows.boot_int))) (nV (eZ (iM (i:=2) rfl (Or.inl rfl) b.isi b.bool rfl rfl PyProof.Rows.boot_bool))))) (aF (aX mZ)) bH)))
  (aF (aX (mO (Pw hu) (pv 0) (pv 1) (bM _)))))),?_⟩
 refine⟨_,_,true,rfl,.tup fa,rfl,_,rfl,fU ⟨_,rfl,a,_,rfl,.inr fa,rfl,_,rfl,fU ?_⟩⟩;refine⟨_,rfl,a,rfl,⟨_,fa⟩,?_⟩;refine Um (xs:=[.int p.1,.int p.2]) (fun i σ H'=>H'=H/\∃z,σ=[some (.ref a),some (.ref d),z]) ⟨rfl,none,rfl⟩ (fun i σ H' _ h=>by rw[h.1];exact fa) ?_ ?_
 ·rintro i x σ H' hx ⟨rfl,z,rfl⟩;have hint:∃j,x=.int j:=by
   match i,hx with
   |0,h=>exact⟨p.1,by simpa using h.symm⟩
   |1,h=>exact⟨p.2,by simpa using h.symm⟩
   |n+2,h=>simp at h
  obtain⟨j,rfl⟩:=hint;refine⟨_,_,true,rfl,.of (.int j),rfl,_,rfl,fU ⟨_,_,false,rfl,.of (.int j),(by with_unfolding_all rfl),_,rfl,fU ⟨rfl,_,rfl⟩⟩⟩
 ·rintro σ H' ⟨rfl,z,rfl⟩;refine⟨_,rfl,_,rfl,Cp fa fd' ?_⟩;show Q (.bl (decide (p=p))) H';rw[decide_eq_true rfl];exact q
def Fw (CN:Addr)(K:Frag):Sp:=fun vs H Q _=>∃(m:Int) (r:Addr) (us:List V) (ds:List RD),vs=[.int m,.ref r]/\1<=m/\m<=20/\SqL K H r us/\Rts K H us ds/\(∀d∈ds,qM m d)/\ds.length<=40/\∀n l H',aY H H'->H l=none->cV CN K H' n l m ds->Q (.ref n) H'
abbrev El:Stmt:=top 90
theorem xT:aP ["_law_many","_law_rows","_law_net_here","_law_row"] ["_law_many","_law_rows"] (aH El):=sK9 rfl rfl rfl rfl (by decide +kernel)
theorem Og {dV:Value}(F:aV K "_law_net" "_law_net" El dV f fd){CN:Addr}(NTx:NT K mg CN){gAd:Addr}{gdAd:FuncData}(GAd:aL P w K mg base CX0 5 gAd gdAd ["self","row"] (Vt CN K CK))(bAd:aM K gdAd ["self","row"] [])(mAd:gE K CN "add" gAd){gNI:Addr}{gdNI:FuncData}(GNI:aL P w K mg base CX0 2 gNI gdNI ["self","many"] (zJ CN))(bNI:aM K gdNI ["self","many"] [])(MN:Mk K CN gNI)(G1:aL P w K mg base CX0 3 g1 gd1 ["told"] (tE K CK))(b1:aM K gd1 ["told"] [])(k1:kI9 K g1)(m1:mI9 mg "row_of" g1) :
  aL P w K mg base CX 6 f fd ["_law_many","_law_rows"] (Fw CN K):=by
 refine F.ok xT (fun vs H Q E h=>?_) fun cdv A outer s H vs Q E hr h=>?_
 ·obtain⟨_,_,_,_,rfl,_⟩:=h;rfl
 obtain⟨m,r,us,ds,rfl,hm1,hm20,hU,hR,hK,h40,q⟩:=h;have r3:=hr.mono (show 3<=5 by lia);refine⟨_,(aC (aR (i:=2) xT.nd rfl (Or.inl rfl) (mF MN GNI r3 rfl NTx.mN bNI .nil aK (aA (pv 0) aB)))
  (aC (dQ PassesOwn.never rfl (cW (pv 1)) (aZ (i:=3) xT.nd rfl (Or.inl rfl))
   (aF (bQ (Gj (pv 2) NTx.cl mAd GAd hr bAd .nil aK (aA (aG G1 r3 rfl m1 k1 b1 .nil aK (aA (pv 3) aB)) aB)))))
  (aF (aX (pv 2))))),?_⟩
 have lus:=hR.length;refine⟨_,rfl,fun n dx h1 h2 ne=>⟨n,dx,m,rfl,aE,hm1,hm20,fun l H2 nl keep hn hl=>⟨rfl,?_⟩⟩⟩;have s2:aY H H2:=fun b o e=>keep b o (by rw[aW (bA e h1),aW (bA e h2)];exact e) (bA e h1);have hl0:H l=none:=by
  cases o:H l with
  |none=>rfl
  |some o'=>
   have:(upd (upd H dx (.own n)) n (.ins CN dx [])) l=some o':=by rw[aW (bA o h1),aW (bA o h2)];exact o
   rw[this] at nl;cases nl
 refine⟨_,rfl,r,rfl,⟨_,s2.seq hU⟩,?_⟩;refine gS (xs:=us) (fun i σ H'=>aY H H'/\cV CN K H' n l m (ds.take i)/\∃z,σ=[some (.int m),some (.ref r),some (.ref n),z]) ⟨s2,⟨⟨dx,hn⟩,[],hl,.nil⟩,none,rfl⟩ (fun i σ H' _ h=>h.1.seq hU) ?_ ?_
 ·rintro i x σ H3 hx ⟨s3,N3,z,rfl⟩;have hi:i < ds.length:=by
   have:=(List.getElem?_eq_some_iff.mp hx).1;lia
  obtain⟨⟨k,u,v,p⟩,hd⟩:∃d,ds[i]?=some d:=⟨_,getElem?_eq_getElem hi⟩
  obtain⟨t,z',et,hT,fz⟩:=hR.at hd;have ex:x=.ref t:=by rw[et] at hx;exact(Option.some.inj hx).symm
  subst ex;obtain⟨dn,hn3⟩:=N3.ob;have lt:(ds.take i).length<=ds.length:=by rw[length_take];lia
  refine⟨_,rfl,n,dn,_,rfl,hn3,fF _ _ (by decide +kernel) (by decide +kernel),_,rfl,t,_,_,_,_,rfl,s3.seqT hT,k,rfl,fun y H4 s4 ny rw=>?_⟩;refine⟨n,l,y,z',m,ds.take i,k,u,v,p,rfl,N3.same s4,rw,(s3.trans s4).fq fz,hK _ (mem_of_getElem? hd),by rw[length_take];lia,fun H5 x5 N5=>?_⟩;refine⟨fun b o e=>x5 _ _ ((s3.trans s4) _ _ e) (bA e hl0),?_,_,rfl⟩;rw[take_add_one,hd];exact N5
 ·rintro σ H3 ⟨s3,N3,z,rfl⟩;rw[lus,take_length] at N3;exact⟨_,rfl,q n l H3 s3 hl0 N3⟩
theorem Rts.take {K:Frag}{H:Hp}:∀{xs:List V} {ds:List RD} (n:Nat),Rts K H xs ds->Rts K H (xs.take n) (ds.take n)
 |_,_,0,_=>.nil
 |_,_,_+1,.nil=>.nil
 |_,_,n+1,.cons h f q=>.cons h f (Rts.take n q)
theorem Rts.drop {K:Frag}{H:Hp}:∀{xs:List V} {ds:List RD} (n:Nat),Rts K H xs ds->Rts K H (xs.drop n) (ds.drop n)
 |_,_,0,h=>h
 |_,_,_+1,.nil=>.nil
 |_,_,n+1,.cons _ _ q=>Rts.drop n q
def Vj (K:Frag):Sp:=fun vs H Q _=>∃(t r s a e:Addr) (c:Int) (k:Kd) (us ss zs:List V) (ds:List RD) (fs hs:List Q2) (m:Nat) (i j:Nat),vs=[.ref t,.int c,.str k.wd,.ref e]/\SqT K H t [.ref r,.ref s,.ref a]/\H r=some (.lst us)/\Rts K H us ds/\H s=some (.lst ss)/\Fqs K H ss fs/\fs.length=ds.length/\ds.length<=60/\r≠s/\SqL K H a zs/\Fqs K H zs hs/\HtK m hs/\SqT K H e [.int (i:Int),.int (j:Int)]/\i < m/\j < m/\
 ∀y us' ss' (d:RD) (p:Q2) H',hV r s H H'->H' r=some (.lst us')->Rts K H' us' (ds.take y++d :: ds.drop y)->H' s=some (.lst ss')->Fqs K H' ss' (fs.take y++p :: fs.drop y)->y<=ds.length->d.1=k->d.2.1=(i:Int)->d.2.2.1=(j:Int)->(∀g,jD m hs (g,d,p))->Q .non H'
abbrev Xr:Stmt:=top 91
theorem kS:aP ["_law_net_here","_law_cell","_law_word","_law_ends","_law_rows","_law_streams","_law_heights","_law_fall_here","_law_size_here","_law_stream","_law_at"] ["_law_net_here","_law_cell","_law_word","_law_ends"] (aH Xr):=sK9 rfl rfl rfl rfl (by decide +kernel)
theorem Yv {dV:Value}(F:aV K "_law_put" "_law_put" Xr dV f fd)(ml:mg "len"=none)(G1:aL P w K mg base CX0 2 g1 gd1 ["_law_one","_law_other"] (eP K Mq.minus))(b1:aM K gd1 ["_law_one","_law_other"] [])(k1:kI9 K g1)(m1:mI9 mg "_law_less" g1)(G2:aL P w K mg base CX0 2 g2 gd2 ["_law_cell","_law_turn"] tW)(b2:aM K gd2 ["_law_cell","_law_turn"] [])(k2:kI9 K g2)(m2:mI9 mg "_law_number" g2)(G3:aL P w K mg base CX0 2 g3 gd3 ["_law_cell"] Nn)(b3:aM K gd3 ["_law_cell"] [])(k3:kI9 K g3)(m3:mI9 mg "_law_size" g3)(G4:aL P w K mg base CX0 2 g4 gd4 ["_law_one","_law_other"] (tX K))(b4:aM K gd4 ["_law_one","_law_other"] [])(k4:kI9 K g4)(m4:mI9 mg "_law_by" g4)(G5:aL P w K mg base CX0 1 g5 gd5 ["_law_cell","_law_turn","_law_many"] rZ)(b5:aM K gd5 ["_law_cell","_law_turn","_law_many"] [])(k5:kI9 K g5)(m5:mI9 mg "_law_mix" g5) :
  aL P w K mg base CX 3 f fd ["_law_net_here","_law_cell","_law_word","_law_ends"] (Vj K):=by
 refine F.ok kS (fun vs H Q E h=>?_) fun cdv A outer s H vs Q E hr h=>?_
 ·obtain⟨_,_,_,_,_,_,_,_,_,_,_,_,_,_,_,_,rfl,_⟩:=h;rfl
 obtain⟨t,r,s,a,e,c,k,us,ss,zs,ds,fs,hs,m,i,j,rfl,hT,er,hR,es,hF,lfs,h60,nrs,hA,hZ,hk,he,hi',hj',q⟩:=h;have r1:=hr.mono (show 1<=2 by lia);have r2:=hr;refine⟨_,(aC (jU (pv 0) (gR rfl (bO (aZ (i:=4) kS.nd rfl (Or.inl rfl)) (bO (aZ (i:=5) kS.nd rfl (Or.inl rfl)) (bO (aZ (i:=6) kS.nd rfl (Or.inl rfl)) fR)))))
  (aC (aR (i:=7) kS.nd rfl (Or.inl rfl) (aG G1 r2 rfl m1 k1 b1 .nil aK (aA (aQ bN (pv 6) (aQ aT (pv 3) aD (fun _ _=>rfl)) (fun _ _=>rfl)) (aA (aQ bN (pv 6) (aQ aT (pv 3) aD (fun _ _=>rfl)) (fun _ _=>rfl)) aB))))
  (aC (aR (i:=8) kS.nd rfl (Or.inl rfl) (aG G2 r2 rfl m2 k2 b2 .nil aK (aA (pv 1) (aA aD aB))))
  (aC (aR (i:=9) kS.nd rfl (Or.inl rfl) (aG G2 r2 rfl m2 k2 b2 .nil aK (aA (pv 1) (aA aD aB))))
  (aC (cC (bF dZ (pv 2) cH (bM _)) (aC (aR (i:=8) kS.nd rfl (Or.inl rfl) (aG G3 r2 rfl m3 k3 b3 .nil aK (aA (pv 1) aB)))
  (aF (aR (i:=9) kS.nd rfl (Or.inl rfl) (aG G4 r2 rfl m4 k4 b4 .nil aK (aA (pv 7) (aA (pv 8) aB)))))) bH)
  (aC (cC (bF dZ (pv 2) cH (bM _)) (aF (aR (i:=8) kS.nd rfl (Or.inl rfl) (pv 7))) bH)
  (aC (cC (bF dZ (pv 2) cH (bM _)) (aF (aR (i:=9) kS.nd rfl (Or.inl rfl) (pv 8))) bH)
  (aC (aR (i:=10) kS.nd rfl (Or.inl rfl) (aG G5 r1 rfl m5 k5 b5 .nil aK (aA (pv 1) (aA aD (aA (aU cZ (cN bX rfl ml PySem.boot_len (aA (pv 4) aB)) aD) aB)))))
  (aC (bQ (kY PySem.F.plainAttrs_list PySem.F.slot_list_insert PySem.F.type_list_insert mP (pv 4) (aA (pv 10) (aA (dP (aA (pv 2) (aA (aQ aT (pv 3) aD (fun _ _=>rfl)) (aA (aQ aT (pv 3) aD (fun _ _=>rfl)) (aA (pv 8) aB))))) aB))))
  (aF (bQ (kY PySem.F.plainAttrs_list PySem.F.slot_list_insert PySem.F.type_list_insert mP (pv 5) (aA (pv 10) (aA (pv 9) aB)))))))))))))),?_⟩
 have lu:=hR.length;have ls:=hF.length;have lz:=hZ.length;have lh:=hk.l;have pt:cO (m:Int) (i:Int) (j:Int):=⟨by lia,by lia,by lia,by lia⟩
 obtain⟨ui,ei,fi⟩:=hZ.at (iW (ps:=hs) (j:=i) (by lia));obtain⟨uj,ej,fj⟩:=hZ.at (iW (ps:=hs) (j:=j) (by lia));have hi:=hk.at hi';have hj:=hk.at hj';have bi:=(tN hi.1 hi.2 (b:=43) (by decide)).1;have bj:=(tN hj.1 hj.2 (b:=43) (by decide)).1;refine⟨_,rfl,t,_,rfl,hT,rfl,_,_,rfl,_,_,rfl,_,_,rfl,rfl,?_⟩
 try dsimp only
 refine kA (fun σ' H'=>aY H H'/\∃z7:Addr,σ'=[some (.ref t),some (.int c),some (.str k.wd),some (.ref e),some (.ref r),some (.ref s),some (.ref a),some (.ref z7),none,none,none]/\Fq K H' z7 (flF hs (k,(i:Int),(j:Int),(0,1)))) (fun X hX=>?_) ?_
 ·refine⟨_,rfl,_,rfl,e,_,_,_,rfl,rfl,he,rfl,a,zs,_,_,rfl,rfl,hA,bV ei,?_⟩;refine⟨_,rfl,_,rfl,e,_,_,_,rfl,rfl,he,rfl,a,zs,_,_,rfl,rfl,hA,bV ej,?_⟩;refine⟨ui,uj,_,_,58,58,rfl,fi,fj,hi.1.pos,hj.1.pos,bi,bj,by lia,fun z7 H1 s1 e1=>?_⟩;refine hX _ _ ⟨s1,z7,rfl,?_⟩;show Fq K H1 z7 (Mq.minus (hs.getD (i:Int).toNat (0,1)) (hs.getD (j:Int).toNat (0,1)));rw[Int.toNat_natCast,Int.toNat_natCast];exact Fq.of e1
 rintro σ1 H1 ⟨s1,z7,rfl,f7⟩;have fall:∀(k':Kd) (q:Q2),flF hs (k',(i:Int),(j:Int),q)=flF hs (k,(i:Int),(j:Int),(0,1)):=fun _ _=>rfl;have fl:=hk.fall (d:=(k,(i:Int),(j:Int),(0,1))) pt;have fb:=hk.fbd (d:=(k,(i:Int),(j:Int),(0,1))) pt;refine qk3 (fun σ' H'=>aY H1 H'/\∃(z f:Addr) (p q:Q2),σ'=[some (.ref t),some (.int c),some (.str k.wd),some (.ref e),some (.ref r),some (.ref s),some (.ref a),some (.ref z7),some (.ref z),some (.ref f),none]/\Fq K H' z p/\Fq K H' f q/\∀g,jD m hs (g,(k,(i:Int),(j:Int),p),q)) (fun X hX=>?_) ?_
 ·refine⟨_,rfl,c,3,rfl,by decide,by decide,fun p1 n1 z1 H2 s2 e2=>?_⟩;refine⟨_,rfl,c,5,rfl,by decide,by decide,fun p2 n2 z2 H3 s3 e3=>?_⟩
  cases k with
  |pc=>
   refine⟨_,rfl,rfl,_,rfl,L2.ifT (by show decide (V.str Kd.pc.wd=V.str Kd.pc.wd)=true;rw[bY];rfl) ?_⟩;refine⟨_,rfl,c,rfl,fun p3 sz z3 H4 s4 e4=>?_⟩;have p0:=sz.p0;refine⟨_,rfl,_,rfl,z7,z3,_,p3,60,30,rfl,(s2.trans (s3.trans s4)).fq f7,Fq.of e4,fl.1.pos,sz.l.pos,p0,fb,sz.bd,by lia,fun z4 H5 s5 e5=>?_⟩;refine⟨_,rfl,rfl,_,rfl,L2.ifF (by show decide (V.str Kd.pc.wd=V.str Kd.ho.wd)=false;rw[bY];rfl) ?_⟩;refine⟨_,rfl,rfl,_,rfl,L2.ifF (by show decide (V.str Kd.pc.wd=V.str Kd.pu.wd)=false;rw[bY];rfl) ?_⟩;refine hX _ _ ⟨s2.trans (s3.trans (s4.trans s5)),z3,z4,p3,_,rfl,s5.fq (Fq.of e4),Fq.of e5,fun g=>⟨pt,fun _=>⟨sz,rfl⟩,(fun z=>by cases z),fun z=>by cases z⟩⟩
  |pu=>
   refine⟨_,rfl,rfl,_,rfl,L2.ifF (by show decide (V.str Kd.pu.wd=V.str Kd.pc.wd)=false;rw[bY];rfl) ?_⟩;refine⟨_,rfl,rfl,_,rfl,L2.ifF (by show decide (V.str Kd.pu.wd=V.str Kd.ho.wd)=false;rw[bY];rfl) ?_⟩;refine⟨_,rfl,rfl,_,rfl,L2.ifT (by show decide (V.str Kd.pu.wd=V.str Kd.pu.wd)=true;rw[bY];rfl) ?_⟩;refine⟨_,rfl,?_⟩;refine hX _ _ ⟨s2.trans s3,z1,z1,p1,p1,rfl,s3.fq (Fq.of e2),s3.fq (Fq.of e2),fun g=>⟨pt,(fun z=>by cases z),fun _=>⟨rfl,n1⟩,fun z=>by cases z⟩⟩
  |ho=>
   refine⟨_,rfl,rfl,_,rfl,L2.ifF (by show decide (V.str Kd.ho.wd=V.str Kd.pc.wd)=false;rw[bY];rfl) ?_⟩;refine⟨_,rfl,rfl,_,rfl,L2.ifT (by show decide (V.str Kd.ho.wd=V.str Kd.ho.wd)=true;rw[bY];rfl) ?_⟩;refine⟨_,rfl,?_⟩;refine⟨_,rfl,rfl,_,rfl,L2.ifF (by show decide (V.str Kd.ho.wd=V.str Kd.pu.wd)=false;rw[bY];rfl) ?_⟩;refine hX _ _ ⟨s2.trans s3,z7,z2,_,p2,rfl,(s2.trans s3).fq f7,Fq.of e3,fun g=>⟨pt,(fun z=>by cases z),(fun z=>by cases z),fun _=>⟨rfl,n2⟩⟩⟩
 rintro σ2 H2 ⟨s2,z,f',p,q',rfl,fz,ff,en⟩;have s02:=s1.trans s2;have er2:=s02 _ _ er;have es2:=s02 _ _ es;have he2:=s02.seqT he;have hR2:=hR.same s02;have hF2:=hF.same s02;refine kA (fun σ' H'=>aY H2 H'/\∃y:Nat,y<=us.length/\σ'=[some (.ref t),some (.int c),some (.str k.wd),some (.ref e),some (.ref r),some (.ref s),some (.ref a),some (.ref z7),some (.ref z),some (.ref f'),some (.int (y:Int))]) (fun X hX=>?_) ?_
 ·refine⟨_,rfl,_,rfl,r,us,rfl,.inl (SqL.of er2),_,_,rfl,rfl,c,8,_,rfl,by decide,by decide,by lia,fun y' H3 y0 y1 s3=>?_⟩;obtain⟨y,rfl⟩:∃y:Nat,y'=(y:Int):=⟨y'.toNat,by lia⟩
  exact hX _ _ ⟨s3,y,by lia,rfl⟩
 rintro σ3 H3 ⟨s3,y,hy,rfl⟩;have er3:=s3 _ _ er2;have es3:=s3 _ _ es2;refine⟨_,rfl,.inl ⟨rfl,_,SqL.of er3⟩,_,rfl,_,rfl,_,rfl,e,_,_,_,rfl,rfl,s3.seqT he2,rfl,_,rfl,e,_,_,_,rfl,rfl,s3.seqT he2,rfl,_,rfl,zl9 4,fun w hw=>?_⟩;have s4:=aI hw (.tup [.str k.wd,.int (i:Int),.int (j:Int),.ref z]);have e4:SqT K (upd H3 w (.tup [.str k.wd,.int (i:Int),.int (j:Int),.ref z])) w [.str k.wd,.int (i:Int),.int (j:Int),.ref z]:=SqT.of aE;generalize upd H3 w (.tup [.str k.wd,.int (i:Int),.int (j:Int),.ref z])=H4 at s4 e4 ⊢;have er4:=s4 _ _ er3;have es4:=s4 _ _ es3;have s24:=s3.trans s4;refine⟨r,us,y,_,.ref w,rfl,rfl,rfl,by lia,er4,bC (by lia),?_⟩;have nsr:s≠r:=Ne.symm nrs;have xr:upd H4 r (.lst (us.take y++.ref w :: us.drop y)) s=some (.lst ss):=by rw[aW nsr];exact es4
 have R4:Rts K (upd H4 r (.lst (us.take y++.ref w :: us.drop y))) (us.take y++.ref w :: us.drop y) (ds.take y++(k,(i:Int),(j:Int),p) :: ds.drop y):=Rts.upd er4 (((Rts.take y hR2).same s24).app (.cons e4 (s24.fq fz) ((Rts.drop y hR2).same s24)));have F4:Fqs K (upd H4 r (.lst (us.take y++.ref w :: us.drop y))) ss fs:=(hF2.same s24).upd er4;have f4:Fq K (upd H4 r (.lst (us.take y++.ref w :: us.drop y))) f' q':=SqT.upd (s24.fq ff) er4;have e5:upd H4 r (.lst (us.take y++.ref w :: us.drop y)) r=some (.lst (us.take y++.ref w :: us.drop y)):=aE;have sx:∀b o,H b=some o->b≠r->upd H4 r (.lst (us.take y++.ref w :: us.drop y)) b=some o:=fun b o hb nb=>by rw[aW nb];exact s24 _ _ (s02 _ _ hb)
 generalize upd H4 r (.lst (us.take y++.ref w :: us.drop y))=H5 at xr R4 F4 f4 e5 sx ⊢;refine⟨_,rfl,.inl ⟨rfl,_,SqL.of xr⟩,_,rfl,_,rfl,s,ss,y,_,.ref f',rfl,rfl,rfl,by lia,xr,bC (by lia),?_⟩;refine q y _ _ (k,(i:Int),(j:Int),p) q' _ (fun b o hb nb1 nb2=>by rw[aW nb2];exact sx b o hb nb1) (by rw[aW nrs];exact e5) (Rts.upd xr R4) aE ?_ (by lia) rfl rfl rfl en;exact((Fqs.take y F4).app (.cons f4 (Fqs.drop y F4))).upd xr
def Qf (K:Frag):Sp:=fun vs H Q _=>∃(t r s a:Addr) (c:Int) (us ss zs:List V) (E:List Ez) (hs:List Q2) (m w:Nat),vs=[.ref t,.int c]/\SqT K H t [.ref r,.ref s,.ref a]/\H r=some (.lst us)/\Rts K H us (rwZ E)/\H s=some (.lst ss)/\Fqs K H ss (E.map (·.2.2))/\r≠s/\SqL K H a zs/\a≠r/\a≠s/\zs.length=m/\m<=5/\HtK m hs/\Drz m w m hs E/\E.length<=16/\
 ∀us' ss' (E':List Ez) H',hV r s H H'->H' r=some (.lst us')->Rts K H' us' (rwZ E')->H' s=some (.lst ss')->Fqs K H' ss' (E'.map (·.2.2))->Bal m w (LZ E) hs (bG (rwZ E)) E' 4->E'.length<=E.length+4->(∀x,1<=x->x < m->ouR x (prZ E')=0)->Q .non H'
theorem Fqs.getAt {K:Frag}{H:Hp}{xs:List V}{ps:List Q2}(h:Fqs K H xs ps){j:Nat}(hj:j < ps.length):∃u,xs[j]?=some (.ref u)/\Fq K H u (ps.getD j (0,1)):=h.at (iW hj)
abbrev Mj:Stmt:=top 92
theorem kP:aP ["_law_net_here","_law_cell","_law_rows","_law_streams","_law_heights","_law_left","_law_row","_law_stream","_law_point","_law_at"] ["_law_net_here","_law_cell"] (aH Mj):=sK9 rfl rfl rfl rfl (by decide +kernel)
theorem Ri {dV:Value}(F:aV K "_law_balanced" "_law_balanced" Mj dV f fd)(ml:mg "len"=none)(mr:mg "range"=none)(mz:mg "zip"=none)(G1:aL P w K mg base CX0 2 g1 gd1 ["_law_one","_law_other"] (eP K gY))(b1:aM K gd1 ["_law_one","_law_other"] [])(k1:kI9 K g1)(m1:mI9 mg "_law_plus" g1)(G2:aL P w K mg base CX0 2 g2 gd2 ["_law_one","_law_other"] (eP K Mq.minus))(b2:aM K gd2 ["_law_one","_law_other"] [])(k2:kI9 K g2)(m2:mI9 mg "_law_less" g2)(G3:aL P w K mg base CX0 1 g3 gd3 ["_law_cell","_law_turn","_law_many"] rZ)(b3:aM K gd3 ["_law_cell","_law_turn","_law_many"] [])(k3:kI9 K g3)(m3:mI9 mg "_law_mix" g3)(G4:aL P w K mg base CX0 1 g4 gd4 ["_law_cell","_law_k"] Ce)(b4:aM K gd4 ["_law_cell","_law_k"] [])(k4:kI9 K g4)(m4:mI9 mg "_law_part" g4) :
  aL P w K mg base CX 3 f fd ["_law_net_here","_law_cell"] (Qf K):=by
 refine F.ok kP (fun vs H Q E h=>?_) fun cdv A outer s H vs Q E hr h=>?_
 ·obtain⟨_,_,_,_,_,_,_,_,_,_,_,_,rfl,_⟩:=h;rfl
 obtain⟨t,r,s,a,c,us,ss,zs,E,hs,m,w,rfl,hT,er,hR,es,hF,nrs,hA,nar,nas,hz,hm5,hk,dz,h16,q⟩:=h;have hu:=hr.units;have r1:=hr.mono (show 1<=2 by lia);have r2:=hr;refine⟨_,(aC (jU (pv 0) (gR rfl (bO (aZ (i:=2) kP.nd rfl (Or.inl rfl)) (bO (aZ (i:=3) kP.nd rfl (Or.inl rfl)) (bO (aZ (i:=4) kP.nd rfl (Or.inl rfl)) fR)))))
  (aC (aR (i:=5) kP.nd rfl (Or.inl rfl) (aU Ck (dH (aA (dP (aA aD (aA aD aB))) aB)) (cN bX rfl ml PySem.boot_len (aA (pv 4) aB))))
  (aC (dQ PassesOwn.never rfl (pQ rfl mz rfl (aA (pv 2) (aA (pv 3) aB))) (gR rfl (bO (aZ (i:=6) kP.nd rfl (Or.inl rfl)) (bO (aZ (i:=7) kP.nd rfl (Or.inl rfl)) fR)))
   (aC (jU (aG G1 r2 rfl m1 k1 b1 .nil aK (aA (aQ bN (pv 5) (aQ aT (pv 6) aD (fun _ _=>rfl)) (fun _ _=>rfl)) (aA (pv 7) aB))) (oE (pv 5) (aQ aT (pv 6) aD (fun _ _=>rfl)) iT))
  (aF (jU (aG G2 r2 rfl m2 k2 b2 .nil aK (aA (aQ bN (pv 5) (aQ aT (pv 6) aD (fun _ _=>rfl)) (fun _ _=>rfl)) (aA (pv 7) aB))) (oE (pv 5) (aQ aT (pv 6) aD (fun _ _=>rfl)) iT)))))
  (aF (dQ PassesOwn.never rfl (qC rfl mr (aA aD (aA (cN bX rfl ml PySem.boot_len (aA (pv 4) aB)) aB))) (aZ (i:=8) kP.nd rfl (Or.inl rfl))
   (aF (cC (bF (My hu) (aQ bN (pv 5) (pv 8) (fun _ _=>rfl)) (dP (aA aD (aA aD aB))) (bM _)) (aC (aR (i:=9) kP.nd rfl (Or.inl rfl) (aG G3 r1 rfl m3 k3 b3 .nil aK (aA (aG G4 r1 rfl m4 k4 b4 .nil aK (aA (pv 1) (aA (pv 8) aB))) (aA aD (aA (aU cZ (cN bX rfl ml PySem.boot_len (aA (pv 2) aB)) aD) aB)))))
  (aC (bQ (kY PySem.F.plainAttrs_list PySem.F.slot_list_insert PySem.F.type_list_insert mP (pv 2) (aA (pv 9) (aA (dP (aA cH (aA aD (aA (pv 8) (aA (aQ bN (pv 5) (pv 8) (fun _ _=>rfl)) aB))))) aB))))
  (aF (bQ (kY PySem.F.plainAttrs_list PySem.F.slot_list_insert PySem.F.type_list_insert mP (pv 3) (aA (pv 9) (aA (aQ bN (pv 5) (pv 8) (fun _ _=>rfl)) aB))))))) bH))))))),?_⟩
 have lu:=hR.length;have ls:=hF.length;rw[length_map] at lu ls;have m1:=hk.m1;have dok:∀e∈prZ E,cO (m:Int) e.1.2.1 e.1.2.2.1/\Low e.2/\Bd 100 e.2:=fun e he=>by
  obtain⟨x,hx,rfl⟩:=mem_map.mp he;exact⟨(dz.en x hx).pt,(dz.en x hx).low hk,(dz.en x hx).bd hk⟩
 have lD:(prZ E).length=E.length:=length_map ..;refine⟨_,rfl,t,_,rfl,hT,rfl,_,_,rfl,_,_,rfl,_,_,rfl,rfl,?_⟩
 try dsimp only
 refine kA (fun σ' H'=>aY H H'/\∃(LL:Addr) (ls':List V),σ'=[some (.ref t),some (.int c),some (.ref r),some (.ref s),some (.ref a),some (.ref LL),none,none,none,none]/\H LL=none/\H' LL=some (.lst ls')/\Fqs K H' ls' (jI m ((prZ E).take 0))) (fun X hX=>?_) ?_
 ·refine⟨zl9 2,fun p hp=>?_⟩;have s4:=aI hp (.tup [.int 0,.int 1]);have e4:Fq K (upd H p (.tup [.int 0,.int 1])) p (0,1):=SqT.of aE;generalize upd H p (.tup [.int 0,.int 1])=H4 at s4 e4 ⊢;refine⟨zl9 1,fun l1 hl1=>?_⟩;have s5:=aI hl1 (.lst [.ref p]);have e5:upd H4 l1 (.lst [.ref p]) l1=some (.lst [.ref p]):=aE;generalize upd H4 l1 (.lst [.ref p])=H5 at s5 e5 ⊢;refine⟨_,rfl,a,zs,rfl,.inl ((s4.trans s5).seq hA),l1,(zs.length:Int),[.ref p],rfl,rfl,e5,by lia,by lia,?_,fun LL hLL=>?_⟩
  ·rw[Int.toNat_natCast,sizeLine_eq];simp only[length_cons,length_nil];lia
  rw[Int.toNat_natCast,pF,hz];have s6:=aI hLL (.lst (replicate m (.ref p)));exact hX _ _ ⟨s4.trans (s5.trans s6),LL,_,rfl,(s4.trans s5).free hLL,aE,oM ((s5.trans s6).fq e4) m⟩
 rintro σ1 H1 ⟨s1,LL,ls',rfl,nLL,eL,fL⟩;have nLr:LL≠r:=fun z=>by rw[z,er] at nLL;cases nLL
 have nLs:LL≠s:=fun z=>by rw[z,es] at nLL;cases nLL
 refine kA (fun σ' H'=>aY H H'/\∃(ls':List V) (z6 z7:Option V),σ'=[some (.ref t),some (.int c),some (.ref r),some (.ref s),some (.ref a),some (.ref LL),z6,z7,none,none]/\H' LL=some (.lst ls')/\Fqs K H' ls' (jI m (prZ E))) (fun X hX=>?_) ?_
 ·refine⟨_,rfl,_,rfl,r,s,rfl,⟨_,SqL.of (s1 _ _ er)⟩,⟨_,SqL.of (s1 _ _ es)⟩,?_⟩;refine xS (xs:=us) (ys:=ss) (fun i σ' H'=>aY H H'/\∃(ls':List V) (z6 z7:Option V),σ'=[some (.ref t),some (.int c),some (.ref r),some (.ref s),some (.ref a),some (.ref LL),z6,z7,none,none]/\H' LL=some (.lst ls')/\Fqs K H' ls' (jI m ((prZ E).take i))) ⟨s1,ls',_,_,rfl,eL,fL⟩ (fun i σ' H' _ h=>⟨SqL.of (h.1 _ _ er),SqL.of (h.1 _ _ es)⟩) ?_ ?_
  ·rintro i x y σ' H2 T1 ex ey ⟨s2,ls2,z6,z7,rfl,eL2,fL2⟩ hTn;have hi:i < E.length:=by have:=(List.getElem?_eq_some_iff.mp ex).1;lia
   have hE:E[i]?=some E[i]:=getElem?_eq_getElem hi;have hD:(prZ E)[i]?=some E[i].2:=by show (map _ E)[i]?=_;rw[getElem?_map,hE];rfl
   obtain⟨w,z,ew,hw,fz⟩:=hR.at (show (rwZ E)[i]?=some E[i].2.1 by show (map _ E)[i]?=_;rw[getElem?_map,hE];rfl);obtain⟨v,q',rfl,eq,fv⟩:=hF.get ey;rw[getElem?_map,hE] at eq
   cases eq
   have fv:Fq K H v E[i].2.2:=fv;have exx:x=.ref w:=by rw[ew] at ex;exact(Option.some.inj ex).symm
   subst exx;obtain⟨pt,lo,bd⟩:=dok E[i].2 (mem_of_getElem? hD);have LO:=yY dok i (by lia);obtain⟨L1,L2'⟩:=LO.step pt lo bd;obtain⟨i0,i1,j0,j1⟩:=pt;have sT:=aI hTn (.tup [.ref w,.ref v]);refine⟨T1,_,rfl,SqT.of aE,rfl,_,_,rfl,_,_,rfl,rfl,?_⟩;generalize upd H2 T1 (.tup [.ref w,.ref v])=H3 at sT ⊢;rw[take_add_one,hD];show _;have eS:jI m ((prZ E).take i++[E[i].2])=Bj (jI m ((prZ E).take i)) E[i].2:=uG ..;have s03:=s2.trans sT;have eL3:=sT _ _ eL2;have fL3:=fL2.same sT;have hw3:=s03.seqT hw;have fv3:=s03.fq fv;generalize hg:jI m ((prZ E).take i)=lf at *
   generalize E[i].2=e at *
   obtain⟨sN,hsN⟩:∃sN:Nat,e.1.2.1=(sN:Int):=⟨e.1.2.1.toNat,by lia⟩
   obtain⟨gN,hgN⟩:∃gN:Nat,e.1.2.2.1=(gN:Int):=⟨e.1.2.2.1.toNat,by lia⟩
   have tS:e.1.2.1.toNat=sN:=by lia
   have tG:e.1.2.2.1.toNat=gN:=by lia
   rw[hsN,hgN] at hw3;have lfl:=LO.l;obtain⟨u1,eu1,fu1⟩:=Fqs.getAt fL3 (j:=sN) (by lia);obtain⟨o1,o2,o3⟩:=LO.o sN (by lia);have lls:=fL3.length;refine kA (fun σ' H'=>aY H H'/\∃ls4:List V,σ'=[some (.ref t),some (.int c),some (.ref r),some (.ref s),some (.ref a),some (.ref LL),some (.ref w),some (.ref v),none,none]/\H' LL=some (.lst ls4)/\Fqs K H' ls4 (lf.set sN (gY (lf.getD sN (0,1)) e.2))) (fun X2 hX2=>?_) ?_
   ·refine⟨_,rfl,_,rfl,w,_,_,_,rfl,rfl,hw3,rfl,LL,ls2,_,_,rfl,rfl,SqL.of eL3,bV eu1,_,rfl,?_⟩;refine⟨u1,v,_,_,1+202*i,100,rfl,fu1,fv3,o1.pos,lo.pos,o2,bd,by lia,fun u2 H4 s4 e4=>?_⟩;refine⟨_,rfl,_,rfl,w,_,_,_,rfl,rfl,s4.seqT hw3,rfl,LL,ls2,_,sN,rfl,rfl,s4 _ _ eL3,kN (by lia),?_⟩;exact hX2 _ _ ⟨(s03.trans s4).change nLL,_,rfl,aE,(Fqs.set (Fq.of e4) sN (fL3.same s4)).upd (s4 _ _ eL3)⟩
   rintro σ4 H4 ⟨s4,ls4,rfl,eL4,fL4⟩;rw[tS] at L1;have l1l:=L1.l;obtain⟨u3,eu3,fu3⟩:=Fqs.getAt fL4 (j:=gN) (by lia);obtain⟨p1,p2,p3⟩:=L1.o gN (by lia);have lls4:=fL4.length;have hw4:SqT K H4 w [.str e.1.1.wd,.int (sN:Int),.int (gN:Int),.ref z]:=by
    have:=s4.seqT hw
    rwa [hsN,hgN] at this
   refine⟨_,rfl,_,rfl,w,_,_,_,rfl,rfl,hw4,rfl,LL,ls4,_,_,rfl,rfl,SqL.of eL4,bV eu3,_,rfl,?_⟩;refine⟨u3,v,_,_,1+202*i+101,100,rfl,fu3,s4.fq fv,p1.pos,lo.pos,p2,bd,by lia,fun u5 H5 s5 e5=>?_⟩;refine⟨_,rfl,_,rfl,w,_,_,_,rfl,rfl,s5.seqT hw4,rfl,LL,ls4,_,gN,rfl,rfl,s5 _ _ eL4,kN (by lia),(s4.trans s5).change nLL,_,_,_,rfl,aE,?_⟩;show Fqs K _ _ (jI m ((prZ E).take i++[e]));rw[eS];unfold Bj;rw[tS,tG];exact(Fqs.set (Fq.of e5) gN (fL4.same s5)).upd (s5 _ _ eL4)
  ·rintro σ' H2 ⟨s2,ls2,z6,z7,rfl,eL2,fL2⟩;rw[show min us.length ss.length=(prZ E).length by lia,take_length] at fL2;exact hX _ _ ⟨s2,ls2,z6,z7,rfl,eL2,fL2⟩
 rintro σ2 H2 ⟨s2,ls2,z6,z7,rfl,eL2,fL2⟩;have LO:=yY dok (prZ E).length (Nat.le_refl _);rw[take_length] at LO;have lfl:=LO.l;refine⟨_,rfl,a,zs,rfl,.inl (s2.seq hA),1,(zs.length:Int),rfl,by lia,?_⟩;have e0:=dz.bal hk;refine gM (lo:=1) (n:=((zs.length:Int) - 1).toNat) (fun i σ' H'=>hV r s H2 H'/\∃(us' ss':List V) (E':List Ez) (z8 z9:Option V),σ'=[some (.ref t),some (.int c),some (.ref r),some (.ref s),some (.ref a),some (.ref LL),z6,z7,z8,z9]/\H' r=some (.lst us')/\Rts K H' us' (rwZ E')/\H' s=some (.lst ss')/\Fqs K H' ss' (E'.map (·.2.2))/\Bal m w (LZ E) hs (bG (rwZ E)) E' i/\E'.length<=E.length+i/\∀x,1<=x->x < m->ouR x (prZ E')=if x<=i then 0 else ouR x (prZ E)) ⟨fun _ _ h _ _=>h,us,ss,E,_,_,rfl,s2 _ _ er,hR.same s2,s2 _ _ es,hF.same s2,e0,by lia,fun x x1 _=>by rw[if_neg (by lia)]⟩ ?_ ?_
 ·rintro i σ' H3 hi ⟨x3,us3,ss3,E3,z8,z9,rfl,er3,R3,es3,F3,B3,l3,b3⟩;obtain⟨pp,hpp⟩:∃pp:Nat,pp=i+1:=⟨_,rfl⟩
  have ek:(1:Int)+(i:Int)=(pp:Int):=by lia
  rw[ek];have ppm:pp < m:=by lia
  have eL3:=x3 _ _ eL2 nLr nLs;have lu3:=R3.length;have ls3:=F3.length;rw[length_map] at lu3 ls3;obtain⟨u1,eu1,_⟩:=Fqs.getAt fL2 (j:=pp) (by lia);obtain⟨o1,o2,o3⟩:=LO.o pp ppm;have fu1:Fq K H3 u1 ((jI m (prZ E)).getD pp (0,1)):=by
   obtain⟨u1',eu1',f⟩:=Fqs.getAt fL2 (j:=pp) (by lia);rw[eu1] at eu1'
   cases eu1'
   exact hV.seqT (s2 _ _ er) (s2 _ _ es) x3 f
  generalize (jI m (prZ E)).getD pp (0,1)=lf at o1 o2 o3 fu1;refine⟨_,rfl,_,rfl,LL,ls2,_,_,rfl,rfl,SqL.of eL3,bV eu1,zl9 2,fun p hp=>?_⟩;have s4:=aI hp (.tup [.int 0,.int 1]);have e4:Fq K (upd H3 p (.tup [.int 0,.int 1])) p (0,1):=SqT.of aE;generalize upd H3 p (.tup [.int 0,.int 1])=H4 at s4 e4 ⊢;refine Cp (neg:=true) (s4.fq fu1) e4 ⟨_,rfl,?_⟩;have x4:hV r s H2 H4:=fun b o h n1 n2=>s4 _ _ (x3 b o h n1 n2)
  by_cases c0:lf=(0,1)
  ·refine L2.ifF (by rw[decide_eq_true c0];rfl) ?_;refine⟨x4,us3,ss3,E3,_,_,rfl,s4 _ _ er3,R3.same s4,s4 _ _ es3,F3.same s4,B3.up (by lia),by lia,fun x a1 a2=>?_⟩;rw[b3 x a1 a2]
   by_cases cx:x<=i
   ·rw[if_pos cx,if_pos (by lia)]
   ·rw[if_neg cx]
    by_cases cy:x<=i+1
    ·have:x=pp:=by lia
     rw[if_pos cy,this,<- o3,c0];exact kU
    ·rw[if_neg cy]
  ·refine L2.ifT (by rw[decide_eq_false c0];rfl) ?_;refine kA (fun σ' H'=>aY H4 H'/\∃y:Nat,y<=us3.length/\σ'=[some (.ref t),some (.int c),some (.ref r),some (.ref s),some (.ref a),some (.ref LL),z6,z7,some (.int (pp:Int)),some (.int (y:Int))]) (fun X hX=>?_) ?_
   ·refine⟨_,rfl,_,rfl,c,pp,rfl,by lia,by lia,fun pc=>?_⟩;refine⟨_,rfl,r,us3,rfl,.inl (SqL.of (s4 _ _ er3)),_,_,rfl,rfl,pc,8,_,rfl,by decide,by decide,by lia,fun y' H5 y0 y1 s5=>?_⟩;obtain⟨y,rfl⟩:∃y:Nat,y'=(y:Int):=⟨y'.toNat,by lia⟩
    exact hX _ _ ⟨s5,y,by lia,rfl⟩
   rintro σ5 H5 ⟨s5,y,hy,rfl⟩;have s35:=s4.trans s5;have er5:=s35 _ _ er3;have es5:=s35 _ _ es3;have eL5:=s35 _ _ eL3;have fu5:=s35.fq fu1;refine⟨_,rfl,.inl ⟨rfl,_,SqL.of er5⟩,_,rfl,_,rfl,_,rfl,_,rfl,LL,ls2,_,_,rfl,rfl,SqL.of eL5,bV eu1,zl9 4,fun w' hw'=>?_⟩;have s6:=aI hw' (.tup [.str "push",.int 0,.int (pp:Int),.ref u1]);have e6:SqT K (upd H5 w' (.tup [.str "push",.int 0,.int (pp:Int),.ref u1])) w' [.str Kd.pu.wd,.int 0,.int (pp:Int),.ref u1]:=SqT.of aE;generalize upd H5 w' (.tup [.str "push",.int 0,.int (pp:Int),.ref u1])=H6 at s6 e6 ⊢;have s36:=s35.trans s6;have er6:=s36 _ _ er3;have es6:=s36 _ _ es3;refine⟨r,us3,y,_,.ref w',rfl,rfl,rfl,by lia,er6,bC (by lia),?_⟩;have nsr:s≠r:=Ne.symm nrs;have xs7:upd H6 r (.lst (us3.take y++.ref w' :: us3.drop y)) s=some (.lst ss3):=by rw[aW nsr];exact es6
   have xL7:upd H6 r (.lst (us3.take y++.ref w' :: us3.drop y)) LL=some (.lst ls2):=by rw[aW nLr];exact s36 _ _ eL3
   have R7:Rts K (upd H6 r (.lst (us3.take y++.ref w' :: us3.drop y))) (us3.take y++.ref w' :: us3.drop y) ((rwZ E3).take y++(Kd.pu,(0:Int),(pp:Int),lf) :: (rwZ E3).drop y):=Rts.upd er6 (((Rts.take y R3).same s36).app (.cons e6 (s36.fq fu1) ((Rts.drop y R3).same s36)));have F7:Fqs K (upd H6 r (.lst (us3.take y++.ref w' :: us3.drop y))) ss3 (E3.map (·.2.2)):=(F3.same s36).upd er6;have f7:Fq K (upd H6 r (.lst (us3.take y++.ref w' :: us3.drop y))) u1 lf:=SqT.upd (s36.fq fu1) er6;have e7:upd H6 r (.lst (us3.take y++.ref w' :: us3.drop y)) r=some (.lst (us3.take y++.ref w' :: us3.drop y)):=aE;have sx:∀b o,H2 b=some o->b≠r->b≠s->upd H6 r (.lst (us3.take y++.ref w' :: us3.drop y)) b=some o:=fun b o hb nb ns=>by rw[aW nb];exact s36 _ _ (x3 b o hb nb ns)
   generalize upd H6 r (.lst (us3.take y++.ref w' :: us3.drop y))=H7 at xs7 xL7 R7 F7 f7 e7 sx ⊢;refine⟨_,rfl,.inl ⟨rfl,_,SqL.of xs7⟩,_,rfl,_,rfl,_,rfl,LL,ls2,_,_,rfl,rfl,SqL.of xL7,bV eu1,s,ss3,y,_,.ref u1,rfl,rfl,rfl,by lia,xs7,bC (by lia),?_⟩;have en:mV m (LZ E) hs (none,(Kd.pu,(0:Int),(pp:Int),lf),lf):=by
    refine⟨⟨by show (0:Int)<=0;lia,by show (0:Int) < m;lia,by show (0:Int)<=pp;lia,by show (pp:Int) < m;lia⟩,(fun z=>by cases z),fun _=>⟨rfl,o1,?_⟩,fun z=>by cases z⟩;show Mq.Fr (LZ E) (2 ^ 50) (Mq.val lf);rw[o3];exact Drz.ou dz.en hk h16 pp
   refine⟨fun b o hb n1 n2=>by rw[aW n2];exact sx b o hb n1 n2,_,_,E3.take y++(none,(Kd.pu,(0:Int),(pp:Int),lf),lf) :: E3.drop y,_,_,rfl,by rw[aW nrs];exact e7,?_,aE,?_,B3.ins en rfl rfl y,by rw[Yn];lia,fun x a1 a2=>?_⟩
   ·show Rts K _ _ (map (fun e:Ez=>e.2.1) _);rw[uV];exact Rts.upd xs7 R7
   ·rw[uV];exact((Fqs.take y F7).app (.cons f7 (Fqs.drop y F7))).upd xs7
   ·show ouR x (map (fun e:Ez=>e.2) _)=_;rw[uV];refine Eq.trans (Ta x (prZ E3) y _) ?_;rw[b3 x a1 a2];show (if x<=i then 0 else ouR x (prZ E))+dl (0:Int).toNat (pp:Int).toNat x*Mq.val lf=_;rw[o3,Int.toNat_natCast];unfold dl;rw[if_neg (show ¬(0:Int).toNat=x by show ¬0=x;lia)]
    by_cases cx:x<=i
    ·rw[if_pos cx,if_neg (show ¬pp=x by lia),if_pos (show x<=i+1 by lia)];grind
    ·rw[if_neg cx]
     by_cases cy:x<=i+1
     ·have:x=pp:=by lia
      subst this;rw[if_pos rfl,if_pos cy];grind
     ·rw[if_neg (show ¬pp=x by lia),if_neg cy];grind
 ·rintro σ' H3 ⟨x3,us3,ss3,E3,z8,z9,rfl,er3,R3,es3,F3,B3,l3,b3⟩;refine q us3 ss3 E3 H3 (fun b o hb n1 n2=>x3 _ _ (s2 _ _ hb) n1 n2) er3 R3 es3 F3 (B3.up (by lia)) (by lia) fun x a1 a2=>?_;rw[b3 x a1 a2,if_pos (by lia)]
theorem Kh:(["_law_k","_law_cell"]:List Str).Nodup:=by decide +kernel
theorem tL:(["_law_one","_law_heights"]:List Str).Nodup:=by decide +kernel
structure N3 (K:Frag) (H:Hp) (t r s hA:Addr) (E:List Ez) (hs:List Q2):Prop where
 tp:SqT K H t [.ref r,.ref s,.ref hA]
 rw:∃us,H r=some (.lst us)/\Rts K H us (rwZ E)
 st:∃ss,H s=some (.lst ss)/\Fqs K H ss (E.map (·.2.2))
 ht:∃zs,H hA=some (.lst zs)/\Fqs K H zs hs
theorem N3.same {K:Frag}{H H':Hp}{t r s hA:Addr}{E:List Ez}{hs:List Q2}(x:aY H H')(n:N3 K H t r s hA E hs):N3 K H' t r s hA E hs:=by
 obtain⟨us,a,b⟩:=n.rw;obtain⟨ss,c,d⟩:=n.st;obtain⟨zs,e,f⟩:=n.ht;exact⟨x.seqT n.tp,⟨us,x _ _ a,b.same x⟩,⟨ss,x _ _ c,d.same x⟩,⟨zs,x _ _ e,f.same x⟩⟩
theorem Fqs.xx {K:Frag}{H H':Hp}{r s:Addr}{as bs:List V}(hr:H r=some (.lst as))(hs:H s=some (.lst bs))(x:hV r s H H'):∀{zs:List V} {ps:List Q2},Fqs K H zs ps->Fqs K H' zs ps
 |_,_,.nil=>.nil
 |_,_,.cons f q=>.cons (hV.seqT hr hs x f) (Fqs.xx hr hs x q)
theorem N3.put {K:Frag}{H H':Hp}{t r s hA:Addr}{E:List Ez}{hs:List Q2}{y:Nat}{us' ss':List V}{d:RD}{p:Q2}(n:N3 K H t r s hA E hs)(nhr:hA≠r)(nhs:hA≠s)(x:hV r s H H')(er:H' r=some (.lst us'))(R:Rts K H' us' ((rwZ E).take y++d :: (rwZ E).drop y))(es:H' s=some (.lst ss'))(F:Fqs K H' ss' ((E.map (·.2.2)).take y++p :: (E.map (·.2.2)).drop y))(g:Option (Nat × Nat)):N3 K H' t r s hA (E.take y++(g,d,p) :: E.drop y) hs:=by
 obtain⟨us,a,b⟩:=n.rw;obtain⟨ss,c,e⟩:=n.st;obtain⟨zs,f,h⟩:=n.ht;refine⟨hV.seqT a c x n.tp,⟨us',er,?_⟩,⟨ss',es,?_⟩,⟨zs,x _ _ f nhr nhs,Fqs.xx a c x h⟩⟩
 ·show Rts K H' us' (map (fun e:Ez=>e.2.1) _);rw[uV];exact R
 ·rw[uV];exact F
theorem Qv (k t m:Nat):Int.fmod ((k:Int)+(t:Int)) (m:Int)=(rot m t k:Int):=by
 unfold rot;rw[Int.fmod_eq_emod_of_nonneg _ (by lia)];simp
theorem qk1 {x:Int}(h0:0<=x)(h5:x < 3):∃k:Kd,k≠.pu/\atI [V.str "piece",.str "hold",.str "piece"] x=some (.str k.wd):=by
 have:x=0\/x=1\/x=2:=by lia
 rcases this with rfl | rfl | rfl
 ·exact⟨.pc,by decide,rfl⟩
 ·exact⟨.ho,by decide,rfl⟩
 ·exact⟨.pc,by decide,rfl⟩
theorem qi3 {x:Int}(h0:0<=x)(h5:x < 3):∃k:Kd,k≠.ho/\atI [V.str "piece",.str "push",.str "piece"] x=some (.str k.wd):=by
 have:x=0\/x=1\/x=2:=by lia
 rcases this with rfl | rfl | rfl
 ·exact⟨.pc,by decide,rfl⟩
 ·exact⟨.pu,by decide,rfl⟩
 ·exact⟨.pc,by decide,rfl⟩
theorem qj1 (xs:List V)(k:Nat):(kZ xs (some 8) (some (8+(k:Int)))).length<=k:=by
 unfold kZ;have h1:HT.sIx xs.length xs.length (some (8+(k:Int)))=min (8+k) xs.length:=by simp only[HT.sIx];split<;>lia
 have h2:HT.sIx xs.length 0 (some 8)=min 8 xs.length:=by simp[HT.sIx]
 rw[h1,h2,length_take,length_drop];lia
theorem qg1 {m t:Nat}(m1:1<=m)(tm:t < m):Hnk m t 1 []:=⟨m1,tm,(fun e he=>by cases he),nodup_nil,(fun k a b=>by lia),(fun p hp=>by cases hp),rfl⟩
theorem Fl:∀E:List Ez,(uU E).length+bG (rwZ E)<=E.length
 | []=>Nat.le_refl _
 |e :: E=>by
  have ih:=Fl E;show (map _ (List.filter _ (e :: E))).length+bG (e.2.1 :: rwZ E)<=_;rw[cY,length_map,length_cons];have ih':(List.filter (fun e:Ez=>decide (e.2.1.1=.pc)) E).length+bG (rwZ E)<=E.length:=by
   have:=ih;unfold uU at this
   rwa [length_map] at this
  unfold bL
  by_cases c:e.2.1.1=.pc
  ·rw[filter_cons_of_pos (by exact decide_eq_true c),length_cons,if_neg (by rw[c];exact fun z=>by cases z)];lia
  ·rw[filter_cons_of_neg (by simpa using c)];split<;>lia
theorem Yy (E:List Ez):bG (rwH (E.map skE))=bG (rwZ E):=by
 induction E with
 |nil=>rfl
 |cons e E ih=>
  show bG ((skE e).2 :: rwH (E.map skE))=bG (e.2.1 :: rwZ E);rw[cY,cY,ih];rfl
theorem Wk {m:Nat}{ps:List Q2}(m1:1<=m)(hl:ps.length=m)(ok:∀p∈ps,kT p):HtK m (ps.map fun p=>Mq.minus p (ps.getD 0 (0,1))):=by
 have o0:kT (ps.getD 0 (0,1)):=ok _ (mem_of_getElem? (iW (by lia)));refine⟨m1,by rw[length_map];exact hl,?_,fun p hp=>?_⟩
 ·rw[getD_eq_getElem?_getD,getElem?_map,iW (show 0 < ps.length by lia)];show Mq.minus (ps.getD 0 (0,1)) (ps.getD 0 (0,1))=(0,1)
  refine rB (cT o0.l.pos o0.l.pos) ⟨by decide,by decide⟩ ?_;rw[eX o0.l.pos o0.l.pos,kU];grind
 ·obtain⟨x,hx,rfl⟩:=mem_map.mp hp;have ox:=ok x hx;refine⟨cT ox.l.pos o0.l.pos,?_⟩;rw[eX ox.l.pos o0.l.pos,show ∀a b:Rat,a - b=a + -b from fun a b=>by grind];exact(ox.fr.add o0.fr.neg).mono (by decide)
def Qd (K:Frag):Sp:=fun vs H Q _=>∃(a:Addr) (ns:List Int) (m k:Nat),vs=[.ref a,.int (m:Int),.int (k:Int)]/\SqL K H a (ns.map V.int)/\ns.length<=63/\1<=m/\m<=5/\k<=12/\
 ∀(t r s hA:Addr) (E E':List Ez) (hs:List Q2) (w:Nat) H',aY H H'->H r=none->H s=none->H hA=none->N3 K H' t r s hA E' hs->HtK m hs->Drz m w m hs E->E.length<=4+k->Bal m w (LZ E) hs (bG (rwZ E)) E' 4->E'.length<=E.length+4->(∀x,1<=x->x < m->ouR x (prZ E')=0)->Q (.ref t) H'
abbrev Nm:Stmt:=top 93
theorem iE:aP ["_law_script","_law_many","_law_most","_law_cell","_law_heights","_law_net_here","_law_turn","_law_k","_law_ends"] ["_law_script","_law_many","_law_most"] (aH Nm):=sK9 rfl rfl rfl rfl (by decide +kernel)
theorem Td {dV:Value}(F:aV K "_law_answered" "_law_answered" Nm dV f fd)(mr:mg "range"=none)(G1:aL P w K mg base CX0 1 g1 gd1 ["_law_script","_law_k"] (Ee K))(b1:aM K gd1 ["_law_script","_law_k"] [])(k1:kI9 K g1)(m1:mI9 mg "_law_draw" g1)(G2:aL P w K mg base CX0 2 g2 gd2 ["_law_cell","_law_turn"] tW)(b2:aM K gd2 ["_law_cell","_law_turn"] [])(k2:kI9 K g2)(m2:mI9 mg "_law_number" g2)(G3:aL P w K mg base CX0 1 g3 gd3 ["_law_cell","_law_k"] Ce)(b3:aM K gd3 ["_law_cell","_law_k"] [])(k3:kI9 K g3)(m3:mI9 mg "_law_part" g3)(G4:aL P w K mg base CX0 2 g4 gd4 ["_law_one","_law_other"] (eP K Mq.minus))(b4:aM K gd4 ["_law_one","_law_other"] [])(k4:kI9 K g4)(m4:mI9 mg "_law_less" g4)(G5:aL P w K mg base CX0 1 g5 gd5 ["_law_cell","_law_turn","_law_many"] rZ)(b5:aM K gd5 ["_law_cell","_law_turn","_law_many"] [])(k5:kI9 K g5)(m5:mI9 mg "_law_mix" g5)(G6:aL P w K mg base CX0 3 g6 gd6 ["_law_net_here","_law_cell","_law_word","_law_ends"] (Vj K))(b6:aM K gd6 ["_law_net_here","_law_cell","_law_word","_law_ends"] [])(k6:kI9 K g6)(m6:mI9 mg "_law_put" g6)(G7:aL P w K mg base CX0 3 g7 gd7 ["_law_net_here","_law_cell"] (Qf K))(b7:aM K gd7 ["_law_net_here","_law_cell"] [])(k7:kI9 K g7)(m7:mI9 mg "_law_balanced" g7) :
  aL P w K mg base CX 4 f fd ["_law_script","_law_many","_law_most"] (Qd K):=by
 refine F.ok iE (fun vs H Q E h=>?_) fun cdv A outer s H vs Q E hr h=>?_
 ·obtain⟨_,_,_,_,rfl,_⟩:=h;rfl
 obtain⟨a,ns,m,k,rfl,hS,h63,hm1,hm5,hk12,q⟩:=h;have r1:=hr.mono (show 1<=3 by lia);have r2:=hr.mono (show 2<=3 by lia);have r3:=hr;refine⟨_,(aC (aR (i:=3) iE.nd rfl (Or.inr rfl) (aG G1 r1 rfl m1 k1 b1 .nil aK (aA (pv 0) (aA aD aB))))
  (aC (aR (i:=4) iE.nd rfl (Or.inr rfl) (dW (nl:=1) (fr:=[3]) (Nc:=["_law_k","_law_cell"]) (cl:=[("_law_cell",s.heap.objs.size+1)]) rfl ⟨rfl,rfl,by decide +kernel,by decide +kernel,(eV rfl (mL)),fD rfl,rfl,fun i n h=>match i,h with | 0,h=>by cases h;exact⟨3,rfl,rfl,rfl,rfl,.inl rfl⟩ | k+1,h=>by rw[show 1+(k+1)=k+2 by lia] at h;cases h⟩
    (hG rfl mr (aA (pv 1) aB)) (fun C s3 H3 fp pins=>(aZ (i:=0) Kh rfl (Or.inl rfl))) (fun C s3 H3 fp pins=>fC)
    (fun C s3 H3 fp pins=>(aG G2 r2 rfl m2 k2 b2 .nil aK (aA (aG G3 r1 rfl m3 k3 b3 .nil aK (aA (pv 1) (aA (pv 0) aB))) (aA aD aB))))))
  (aC (aR (i:=4) iE.nd rfl (Or.inr rfl) (dW (nl:=1) (fr:=[4]) (Nc:=["_law_one","_law_heights"]) (cl:=[("_law_heights",s.heap.objs.size+2)]) rfl ⟨rfl,rfl,by decide +kernel,by decide +kernel,(eV rfl (mL)),fD rfl,rfl,fun i n h=>match i,h with | 0,h=>by cases h;exact⟨4,rfl,rfl,rfl,rfl,.inl rfl⟩ | k+1,h=>by rw[show 1+(k+1)=k+2 by lia] at h;cases h⟩
    (cW (pv 4)) (fun C s3 H3 fp pins=>(aZ (i:=0) tL rfl (Or.inl rfl))) (fun C s3 H3 fp pins=>fC)
    (fun C s3 H3 fp pins=>(aG G4 r2 rfl m4 k4 b4 .nil aK (aA (pv 0) (aA (aQ (rQ (K:=K) rfl) (pv 1) aD (fun _ _=>rfl)) aB))))))
  (aC (aR (i:=5) iE.nd rfl (Or.inl rfl) (dP (aA (dH aB) (aA (dH aB) (aA (pv 4) aB)))))
  (aC (aR (i:=6) iE.nd rfl (Or.inl rfl) (aG G5 r1 rfl m5 k5 b5 .nil aK (aA (pv 3) (aA aD (aA (pv 1) aB)))))
  (aC (dQ PassesOwn.never rfl (qC rfl mr (aA aD (aA (pv 1) aB))) (aZ (i:=7) iE.nd rfl (Or.inl rfl))
   (aC (aR (i:=3) iE.nd rfl (Or.inr rfl) (aG G1 r1 rfl m1 k1 b1 .nil aK (aA (pv 0) (aA (aU cZ aD (pv 7)) aB))))
  (aC (aR (i:=8) iE.nd rfl (Or.inl rfl) (dP (aA (aU kQ (aU cZ (pv 7) (pv 6)) (pv 1)) (aA (aU kQ (aU cZ (aG G5 r1 rfl m5 k5 b5 .nil aK (aA (pv 3) (aA aD (aA (pv 7) aB)))) (pv 6)) (pv 1)) aB))))
  (aC (cC (bF dZ (aG G5 r1 rfl m5 k5 b5 .nil aK (aA (pv 3) (aA aD (aA aD aB)))) aD (bM _)) (aF (aR (i:=8) iE.nd rfl (Or.inl rfl) (dP (aA (aQ aT (pv 8) aD (fun _ _=>rfl)) (aA (aQ aT (pv 8) aD (fun _ _=>rfl)) aB))))) bH)
  (aF (bQ (aG G6 r3 rfl m6 k6 b6 .nil aK (aA (pv 5) (aA (pv 3) (aA (aQ bN (dH (aA cH (aA cH (aA cH aB)))) (aG G5 r1 rfl m5 k5 b5 .nil aK (aA (pv 3) (aA aD (aA aD aB)))) (fun _ _=>rfl)) (aA (pv 8) aB)))))))))))
  (aC (dQ PassesOwn.never rfl (cW (jC kO (pv 0) (iK aD) (iK (aU cZ aD (pv 2))))) (aZ (i:=3) iE.nd rfl (Or.inr rfl))
   (aC (aR (i:=8) iE.nd rfl (Or.inl rfl) (dP (aA (aG G5 r1 rfl m5 k5 b5 .nil aK (aA (pv 3) (aA aD (aA (pv 1) aB)))) (aA (aG G5 r1 rfl m5 k5 b5 .nil aK (aA (pv 3) (aA aD (aA (pv 1) aB)))) aB))))
  (aF (bQ (aG G6 r3 rfl m6 k6 b6 .nil aK (aA (pv 5) (aA (pv 3) (aA (aQ bN (dH (aA cH (aA cH (aA cH aB)))) (aG G5 r1 rfl m5 k5 b5 .nil aK (aA (pv 3) (aA aD (aA aD aB)))) (fun _ _=>rfl)) (aA (pv 8) aB)))))))))
  (aC (bQ (aG G7 r3 rfl m7 k7 b7 .nil aK (aA (pv 5) (aA (aG G1 r1 rfl m1 k1 b1 .nil aK (aA (pv 0) (aA aD aB))) aB))))
  (aF (aX (pv 5))))))))))),?_⟩
 try dsimp only
 refine kA (fun σ' H'=>aY H H'/\∃v:Int,σ'=[some (.ref a),some (.int (m:Int)),some (.int (k:Int)),some (.int v),none,none,none,none,none]) (fun X hX=>?_) ?_
 ·exact⟨_,rfl,a,ns,1,1,rfl,rfl,hS,h63,fun v H1 s1=>hX _ _ ⟨s1,v,rfl⟩⟩
 rintro σ1 H1 ⟨s1,v,rfl⟩;refine kA (fun σ' H'=>aY H H'/\∃(D:Addr) (zs:List V) (ps:List Q2),σ'=[some (.ref a),some (.int (m:Int)),some (.int (k:Int)),some (.int v),some (.ref D),none,none,none,none]/\H' D=some (.lst zs)/\Fqs K H' zs ps/\ps.length=m/\∀p∈ps,kT p) (fun X hX=>?_) ?_
 ·refine⟨_,rfl,(m:Int),rfl,by lia,by lia,fun D hD=>?_⟩;rw[Int.toNat_natCast];have sD:=aI hD (.lst []);refine uA (n:=m) (fun i zs H'=>aY H1 H'/\H' D=some (.lst zs)/\∃ps:List Q2,Fqs K H' zs ps/\ps.length=i/\∀p∈ps,kT p) ⟨sD,aE,[],.nil,rfl,fun p hp=>by cases hp⟩ (fun i zs H' h=>h.2.1) ?_ ?_
  ·rintro i zs H2 hi ⟨s2,e2,ps,F2,l2,o2⟩ C hC;have lz:=F2.length;refine⟨fQ.1,fQ.2,gL ?_⟩;refine⟨_,rfl,_,rfl,v,_,rfl,by lia,by lia,fun pc=>?_⟩;refine⟨pc,5,rfl,by decide,by decide,fun p np u H3 s3 e3=>?_⟩;have e2':=s3 _ _ e2;refine⟨e2',bC (by lia),hC _ _ ⟨(s2.trans s3).change hD,aE,ps++[p],((F2.same s3).app (.cons (Fq.of e3) .nil)).upd e2',by rw[List.length_append,l2];rfl,fun p' hp'=>?_⟩⟩;rcases mem_append.mp hp' with z | z
   ·exact o2 p' z
   ·rw[mem_singleton.mp z];exact np
  ·rintro zs H2 ⟨s2,e2,ps,F2,l2,o2⟩;exact hX _ _ ⟨s1.trans s2,D,zs,ps,rfl,e2,F2,l2,o2⟩
 rintro σ2 H2 ⟨s2,D,zs,ps,rfl,eD,FD,lps,ops⟩;have o0:kT (ps.getD 0 (0,1)):=ops _ (mem_of_getElem? (iW (by lia)));obtain⟨u0,eu0,fu0⟩:=Fqs.getAt FD (j:=0) (by lia);refine kA (fun σ' H'=>aY H H'/\∃(hA:Addr) (zs:List V),σ'=[some (.ref a),some (.int (m:Int)),some (.int (k:Int)),some (.int v),some (.ref hA),none,none,none,none]/\H hA=none/\H' hA=some (.lst zs)/\Fqs K H' zs (ps.map fun p=>Mq.minus p (ps.getD 0 (0,1)))) (fun X hX=>?_) ?_
 ·refine⟨_,rfl,D,rfl,⟨_,SqL.of eD⟩,fun A hA=>?_⟩;have sA:=aI hA (.lst []);refine dR (xs:=zs) (fun i ys H'=>aY H2 H'/\H' A=some (.lst ys)/\Fqs K H' ys ((ps.map fun p=>Mq.minus p (ps.getD 0 (0,1))).take i)) ⟨sA,aE,.nil⟩ (fun i ys H' h=>h.2.1) (fun i ys H' _ h=>SqL.of (h.1 _ _ eD)) ?_ ?_
  ·rintro i ys x H3 hx ⟨s3,e3,F3⟩ C hC;obtain⟨u,p,rfl,ep,fu⟩:=FD.get hx;have op:=ops p (mem_of_getElem? ep);have hi:i < ps.length:=(List.getElem?_eq_some_iff.mp ep).1;have lz:=F3.length;rw[length_take,length_map] at lz;refine⟨fQ.1,fQ.2,gL ?_⟩;refine⟨_,rfl,_,rfl,D,zs,_,_,rfl,rfl,SqL.of (s3 _ _ eD),bV (j:=0) eu0,?_⟩;refine⟨u,u0,p,_,41,41,rfl,s3.fq fu,s3.fq fu0,op.l.pos,o0.l.pos,op.b,o0.b,by lia,fun z H4 s4 e4=>?_⟩;have e3':=s4 _ _ e3;refine⟨e3',bC (by lia),hC _ _ ⟨(s3.trans s4).change hA,aE,?_⟩⟩;rw[take_add_one,getElem?_map,ep];exact((F3.same s4).app (.cons (Fq.of e4) .nil)).upd e3'
  ·rintro ys H3 ⟨s3,e3,F3⟩;rw[take_of_length_le (by rw[length_map,FD.length];lia)] at F3;exact hX _ _ ⟨s2.trans s3,A,ys,rfl,s2.free hA,e3,F3⟩
 rintro σ3 H3 ⟨s3,hA,zs',rfl,nhA,eA,FA⟩;have hk:=Wk hm1 lps ops;generalize (ps.map fun p=>Mq.minus p (ps.getD 0 (0,1)))=hs at FA hk;refine kA (fun σ' H'=>aY H H'/\∃t r s:Addr,σ'=[some (.ref a),some (.int (m:Int)),some (.int (k:Int)),some (.int v),some (.ref hA),some (.ref t),none,none,none]/\H r=none/\H s=none/\r≠s/\hA≠r/\hA≠s/\N3 K H' t r s hA [] hs) (fun X hX=>?_) ?_
 ·refine⟨zl9 0,fun r hr0=>?_⟩;have sr:=aI hr0 (.lst []);have e1:upd H3 r (.lst []) r=some (.lst []):=aE;have eA1:=sr _ _ eA;generalize upd H3 r (.lst [])=H4 at sr e1 eA1 ⊢;refine⟨zl9 0,fun s' hs0=>?_⟩;have ss':=aI hs0 (.lst []);have e2:upd H4 s' (.lst []) s'=some (.lst []):=aE;have eA2:=ss' _ _ eA1;have e1':=ss' _ _ e1;have nrs:r≠s':=fun z=>by rw[<- z,e1] at hs0;cases hs0
  have nhs:hA≠s':=fun z=>by rw[<- z,eA1] at hs0;cases hs0
  have nhr:hA≠r:=fun z=>by rw[<- z,eA] at hr0;cases hr0
  generalize upd H4 s' (.lst [])=H5 at ss' e2 eA2 e1' ⊢;refine⟨_,rfl,zl9 3,fun t ht=>?_⟩;have st:=aI ht (.tup [.ref r,.ref s',.ref hA]);have s35:=sr.trans (ss'.trans st);exact hX _ _ ⟨s3.trans s35,t,r,s',rfl,s3.free hr0,(s3.trans sr).free hs0,nrs,nhr,nhs,⟨SqT.of aE,⟨[],st _ _ e1',.nil⟩,⟨[],st _ _ e2,.nil⟩,⟨zs',st _ _ eA2,FA.same s35⟩⟩⟩
 rintro σ4 H4 ⟨s4,t,r,s',rfl,nr,ns',nrs,nhr,nhs,n4⟩;refine kA (fun σ' H'=>aY H H'/\N3 K H' t r s' hA [] hs/\∃w:Nat,w < m/\σ'=[some (.ref a),some (.int (m:Int)),some (.int (k:Int)),some (.int v),some (.ref hA),some (.ref t),some (.int (w:Int)),none,none]) (fun X hX=>?_) ?_
 ·refine⟨_,rfl,_,rfl,v,1,(m:Int),rfl,by decide,by decide,by lia,fun w' H5 w0 w1 s5=>?_⟩;obtain⟨w,rfl⟩:∃w:Nat,w'=(w:Int):=⟨w'.toNat,by lia⟩
  exact hX _ _ ⟨s4.trans s5,n4.same s5,w,by lia,rfl⟩
 rintro σ5 H5 ⟨s5,n5,w,hw,rfl⟩;have lhs:=hk.l;have chg:∀{H' H'':Hp},aY H H'->hV r s' H' H''->aY H H'':=fun {H' H''} x y b o hb=>y b o (x b o hb) (fun z=>by rw[z,nr] at hb;cases hb) (fun z=>by rw[z,ns'] at hb;cases hb);refine kA (fun σ' H'=>aY H H'/\∃(E:List Ez) (z3 z7 z8:Option V),σ'=[some (.ref a),some (.int (m:Int)),some (.int (k:Int)),z3,some (.ref hA),some (.ref t),some (.int (w:Int)),z7,z8]/\N3 K H' t r s' hA E hs/\Drz m w m hs E/\E.length<=4) (fun X hX=>?_) ?_
 ·refine⟨_,rfl,1,(m:Int),rfl,by lia,?_⟩;refine gM (lo:=1) (n:=((m:Int) - 1).toNat) (fun i σ' H'=>aY H H'/\∃(E:List Ez) (z3 z7 z8:Option V),σ'=[some (.ref a),some (.int (m:Int)),some (.int (k:Int)),z3,some (.ref hA),some (.ref t),some (.int (w:Int)),z7,z8]/\N3 K H' t r s' hA E hs/\Drz m w (i+1) hs E/\E.length=i) ⟨s5,[],_,_,_,rfl,n5,⟨qg1 hm1 hw,fun e he=>by cases he⟩,rfl⟩ ?_ ?_
  ·rintro i σ' H6 hi ⟨s6,E,z3,z7,z8,rfl,n6,dz,le⟩;obtain⟨J,hJ⟩:∃J:Nat,J=i+1:=⟨_,rfl⟩
   have ek:(1:Int)+(i:Int)=(J:Int):=by lia
   rw[ek];rw[<- hJ] at dz ⊢;have Jm:J < m:=by lia
   refine qd8 (fun σ' H'=>aY H6 H'/\∃(c:Int) (e:Addr) (jj pa pb:Nat),σ'=[some (.ref a),some (.int (m:Int)),some (.int (k:Int)),some (.int c),some (.ref hA),some (.ref t),some (.int (w:Int)),some (.int (J:Int)),some (.ref e)]/\SqT K H' e [.int (pa:Int),.int (pb:Int)]/\jj < J/\((pa=rot m w J/\pb=rot m w jj)\/(pa=rot m w jj/\pb=rot m w J))) (fun X2 hX2=>?_) ?_
   ·refine⟨_,rfl,_,rfl,_,_,rfl,rfl,a,ns,_,2+J,rfl,by lia,s6.seq hS,h63,fun c H7 s7=>?_⟩;have m0:(m:Int)≠0:=by lia
    refine⟨_,rfl,_,rfl,_,_,rfl,rfl,_,rfl,_,_,rfl,rfl,m0,_,rfl,_,rfl,c,1,(J:Int),rfl,by decide,by decide,by lia,fun j' H8 j0 j1 s8=>?_⟩;obtain⟨jj,rfl⟩:∃jj:Nat,j'=(jj:Int):=⟨j'.toNat,by lia⟩
    refine⟨_,rfl,_,_,rfl,rfl,_,rfl,_,_,rfl,rfl,m0,zl9 2,fun e he=>?_⟩;have se:=aI he (.tup [.int (Int.fmod ((J:Int)+(w:Int)) m),.int (Int.fmod ((jj:Int)+(w:Int)) m)]);have ee:SqT K (upd H8 e (.tup [.int (Int.fmod ((J:Int)+(w:Int)) m),.int (Int.fmod ((jj:Int)+(w:Int)) m)])) e [.int (Int.fmod ((J:Int)+(w:Int)) m),.int (Int.fmod ((jj:Int)+(w:Int)) m)]:=SqT.of aE;generalize upd H8 e (.tup [.int (Int.fmod ((J:Int)+(w:Int)) m),.int (Int.fmod ((jj:Int)+(w:Int)) m)])=H9 at se ee ⊢;rw[Qv,Qv] at ee;have s69:=s7.trans (s8.trans se);refine⟨_,rfl,c,2,2,rfl,by decide,by decide,by decide,fun x HA x0 x1 sA=>?_⟩;refine⟨rfl,_,rfl,oP (fun _=>?_) (fun _=>?_)⟩
    ·refine⟨_,rfl,e,_,_,_,rfl,rfl,sA.seqT ee,rfl,_,rfl,e,_,_,_,rfl,rfl,sA.seqT ee,rfl,zl9 2,fun e2 he2=>?_⟩;have s2':=aI he2 (.tup [.int (rot m w jj:Int),.int (rot m w J:Int)]);exact hX2 _ _ ⟨s69.trans (sA.trans s2'),c,e2,jj,_,_,rfl,SqT.of aE,by lia,.inr ⟨rfl,rfl⟩⟩
    ·exact hX2 _ _ ⟨s69.trans sA,c,e,jj,_,_,rfl,sA.seqT ee,by lia,.inl ⟨rfl,rfl⟩⟩
   rintro σ7 H7 ⟨s7,c,e,jj,pa,pb,rfl,ee,jJ,ends⟩;refine⟨_,rfl,_,rfl,zl9 3,fun L hL=>?_⟩;have sL:=aI hL (.lst [V.str "piece",.str "hold",.str "piece"]);have eL:upd H7 L (.lst [V.str "piece",.str "hold",.str "piece"]) L=some (.lst [V.str "piece",.str "hold",.str "piece"]):=aE;generalize upd H7 L (.lst [V.str "piece",.str "hold",.str "piece"])=H8 at sL eL ⊢;refine⟨_,rfl,c,0,3,rfl,by decide,by decide,by decide,fun x H9 x0 x1 s9=>?_⟩;obtain⟨kd,knp,ek'⟩:=qk1 x0 x1;have s79:=sL.trans s9;have n9:=n6.same (s7.trans s79);obtain⟨us,er,R⟩:=n9.rw;obtain⟨ss,es,F⟩:=n9.st;obtain⟨zz,ez,Fz⟩:=n9.ht;have rl:∀q,rot m w q < m:=fun q=>Nat.mod_lt _ (by lia);have pam:pa < m:=by rcases ends with ⟨a1,_⟩ | ⟨a1,_⟩<;>(rw[a1];exact rl _)
   have pbm:pb < m:=by rcases ends with ⟨_,a1⟩ | ⟨_,a1⟩<;>(rw[a1];exact rl _)
   refine⟨L,_,_,_,rfl,rfl,SqL.of (s9 _ _ eL),ek',_,rfl,t,r,s',hA,e,c,kd,us,ss,zz,_,_,hs,m,pa,pb,rfl,n9.tp,er,R,es,F,by rw[length_map,length_map],by rw[length_map];lia,nrs,SqL.of ez,Fz,hk,s79.seqT ee,pam,pbm,fun y us' ss' d p HA xA erA RA esA FA hy dk d1 d2 en=>?_⟩;have s6A:=chg (s6.trans (s7.trans s79)) xA;refine⟨s6A,E.take y++(some (J,jj),d,p) :: E.drop y,_,_,_,rfl,n9.put nhr nhs xA erA RA esA FA (some (J,jj)),?_,by rw[Yn];lia⟩;refine dz.tree (en _) rfl (by show d.1≠.pu;rw[dk];exact knp) (by lia) Jm jJ ?_ y;show (d.2.1=_/\d.2.2.1=_)\/(d.2.1=_/\d.2.2.1=_);rw[d1,d2];rcases ends with ⟨a1,a2⟩ | ⟨a1,a2⟩
   ·exact .inl ⟨by rw[a1],by rw[a2]⟩
   ·exact .inr ⟨by rw[a1],by rw[a2]⟩
  ·rintro σ' H6 ⟨s6,E,z3,z7,z8,rfl,n6,dz,le⟩;rw[show ((m:Int) - 1).toNat+1=m by lia] at dz;exact hX _ _ ⟨s6,E,_,_,_,rfl,n6,dz,by lia⟩
 rintro σ6 H6 ⟨s6,E1,z3,z7,z8,rfl,n6,dz6,le6⟩;refine kA (fun σ' H'=>aY H H'/\∃(E:List Ez) (z3 z8:Option V),σ'=[some (.ref a),some (.int (m:Int)),some (.int (k:Int)),z3,some (.ref hA),some (.ref t),some (.int (w:Int)),z7,z8]/\N3 K H' t r s' hA E hs/\Drz m w m hs E/\E.length<=4+k) (fun X hX=>?_) ?_
 ·refine⟨_,rfl,8,rfl,_,rfl,_,_,rfl,rfl,8+(k:Int),rfl,a,_,rfl,s6.seq hS,fun C hC=>?_⟩;have c12:=qj1 (ns.map V.int) k;obtain⟨ms,em⟩:=Ih ns (some 8) (some (8+(k:Int)));rw[em] at c12 ⊢;rw[length_map] at c12;have sC:=aI hC (.lst (ms.map V.int));have eC:upd H6 C (.lst (ms.map V.int)) C=some (.lst (ms.map V.int)):=aE;have nCr:C≠r:=fun z=>by obtain⟨us,er,_⟩:=n6.rw;rw[z,er] at hC;cases hC
  have nCs:C≠s':=fun z=>by obtain⟨us,er,_⟩:=n6.st;rw[z,er] at hC;cases hC
  generalize upd H6 C (.lst (ms.map V.int))=H7 at sC eC ⊢;refine⟨C,rfl,⟨_,SqL.of eC⟩,?_⟩;refine gS (xs:=ms.map V.int) (fun i σ' H'=>aY H H'/\H' C=some (.lst (ms.map V.int))/\∃(E:List Ez) (z3 z8:Option V),σ'=[some (.ref a),some (.int (m:Int)),some (.int (k:Int)),z3,some (.ref hA),some (.ref t),some (.int (w:Int)),z7,z8]/\N3 K H' t r s' hA E hs/\Drz m w m hs E/\E.length<=4+i) ⟨s6.trans sC,eC,E1,_,_,rfl,n6.same sC,dz6,by lia⟩ (fun i σ' H' _ h=>SqL.of h.2.1) ?_ ?_
  ·rintro i x σ' H8 hx ⟨s8,eC8,E,z3,z8,rfl,n8,dz,le⟩;have hi:i < k:=by have:=(List.getElem?_eq_some_iff.mp hx).1;rw[length_map] at this;lia
   obtain⟨c,rfl⟩:∃c,x=.int c:=by
    rw[getElem?_map] at hx;obtain⟨c,_,e⟩:=Option.map_eq_some_iff.mp hx;exact⟨c,e.symm⟩
   refine kA (fun σ' H'=>aY H8 H'/\∃(e:Addr) (pa pb:Nat),σ'=[some (.ref a),some (.int (m:Int)),some (.int (k:Int)),some (.int c),some (.ref hA),some (.ref t),some (.int (w:Int)),z7,some (.ref e)]/\SqT K H' e [.int (pa:Int),.int (pb:Int)]/\pa < m/\pb < m) (fun X2 hX2=>?_) ?_
   ·refine⟨_,rfl,_,rfl,c,1,(m:Int),rfl,by decide,by decide,by lia,fun p1 H9 a0 a1 s9=>?_⟩;refine⟨_,rfl,_,rfl,c,2,(m:Int),rfl,by decide,by decide,by lia,fun p2 HA b0 b1 sA=>?_⟩;obtain⟨pa,rfl⟩:∃pa:Nat,p1=(pa:Int):=⟨p1.toNat,by lia⟩
    obtain⟨pb,rfl⟩:∃pb:Nat,p2=(pb:Int):=⟨p2.toNat,by lia⟩
    refine⟨zl9 2,fun e he=>?_⟩;exact hX2 _ _ ⟨s9.trans (sA.trans (aI he _)),e,pa,pb,rfl,SqT.of aE,by lia,by lia⟩
   rintro σ9 H9 ⟨s9,e,pa,pb,rfl,ee,pam,pbm⟩;refine⟨_,rfl,_,rfl,zl9 3,fun L hL=>?_⟩;have sL:=aI hL (.lst [V.str "piece",.str "push",.str "piece"]);have eL:upd H9 L (.lst [V.str "piece",.str "push",.str "piece"]) L=some (.lst [V.str "piece",.str "push",.str "piece"]):=aE;generalize upd H9 L (.lst [V.str "piece",.str "push",.str "piece"])=HA at sL eL ⊢;refine⟨_,rfl,c,0,3,rfl,by decide,by decide,by decide,fun x HB x0 x1 sB=>?_⟩;obtain⟨kd,knp,ek'⟩:=qi3 x0 x1;have s9B:=sL.trans sB;have nB:=n8.same (s9.trans s9B);obtain⟨us,er,R⟩:=nB.rw;obtain⟨ss,es,F⟩:=nB.st;obtain⟨zz,ez,Fz⟩:=nB.ht;refine⟨L,_,_,_,rfl,rfl,SqL.of (sB _ _ eL),ek',_,rfl,t,r,s',hA,e,c,kd,us,ss,zz,_,_,hs,m,pa,pb,rfl,nB.tp,er,R,es,F,by rw[length_map,length_map],by rw[length_map];lia,nrs,SqL.of ez,Fz,hk,s9B.seqT ee,pam,pbm,fun y us' ss' d p HC xC erC RC esC FC hy dk d1 d2 en=>?_⟩;refine⟨chg (s8.trans (s9.trans s9B)) xC,xC _ _ ((s9.trans s9B) _ _ eC8) nCr nCs,E.take y++(none,d,p) :: E.drop y,_,_,rfl,nB.put nhr nhs xC erC RC esC FC none,dz.ins (en _) rfl (by show d.1≠.ho;rw[dk];exact knp) y,by rw[Yn];lia⟩
  ·rintro σ' H8 ⟨s8,eC8,E,z3,z8,rfl,n8,dz,le⟩;rw[length_map] at le;exact hX _ _ ⟨s8,E,_,_,rfl,n8,dz,by lia⟩
 rintro σ7 H7 ⟨s7,E,z3',z8',rfl,n7,dz7,le7⟩;refine kA (fun σ' H'=>σ'=[some (.ref a),some (.int (m:Int)),some (.int (k:Int)),z3',some (.ref hA),some (.ref t),some (.int (w:Int)),z7,z8']/\aY H H'/\∃E':List Ez,N3 K H' t r s' hA E' hs/\Bal m w (LZ E) hs (bG (rwZ E)) E' 4/\E'.length<=E.length+4/\∀x,1<=x->x < m->ouR x (prZ E')=0) (fun X hX=>?_) ?_
 ·refine⟨_,rfl,_,rfl,a,ns,2,2,rfl,rfl,s7.seq hS,h63,fun c H8 s8=>?_⟩;have n8:=n7.same s8;obtain⟨us,er,R⟩:=n8.rw;obtain⟨ss,es,F⟩:=n8.st;obtain⟨zz,ez,Fz⟩:=n8.ht;have lzz:=Fz.length;refine⟨t,r,s',hA,c,us,ss,zz,E,hs,m,w,rfl,n8.tp,er,R,es,F,nrs,SqL.of ez,nhr,nhs,by lia,hm5,hk,dz7,by lia,fun us' ss' E' H9 x9 er9 R9 es9 F9 b9 l9 ou9=>?_⟩;refine hX _ _ ⟨rfl,chg (s7.trans s8) x9,E',⟨hV.seqT er es x9 n8.tp,⟨us',er9,R9⟩,⟨ss',es9,F9⟩,⟨zz,x9 _ _ ez nhr nhs,Fqs.xx er es x9 Fz⟩⟩,b9,l9,ou9⟩
 rintro σ8 H8 ⟨rfl,s8,E',n8,b8,l8,ou8⟩;exact⟨_,rfl,q t r s' hA E E' hs w H8 s8 nr ns' nhA n8 hk dz7 le7 b8 l8 ou8⟩
def Hd (K:Frag):Sp:=fun vs H Q _=>∃(w a:Addr) (v z:V) (d:RD) (zs:List V) (hs:List Q2) (m:Nat),vs=[.ref w,.ref a]/\SqT K H w [v,.int d.2.1,.int d.2.2.1,z]/\SqL K H a zs/\Fqs K H zs hs/\HtK m hs/\cO (m:Int) d.2.1 d.2.2.1/\jQ H Q (flF hs d)
structure Ls (K:Frag) (H:Hp) (r s:Addr) (us ss:List V) (E:List Ez) (hs:List Q2) (m w:Nat) (L:Int) (h:Nat):Prop where
 r:SqL K H r us
 R:Rts K H us (rwZ E)
 s:SqL K H s ss
 F:Fqs K H ss (E.map (·.2.2))
 k:HtK m hs
 b:Bal m w L hs h E 4
 l:E.length<=20
def Vf (K:Frag):Sp:=fun vs H Q _=>∃(r s:Addr) (us ss:List V) (E:List Ez) (hs:List Q2) (m w:Nat) (L:Int) (h:Nat),vs=[.ref r,.ref s]/\Ls K H r s us ss E hs m w L h/\∀u H',aY H H'->Fq K H' u (iY (prZ E))->Q (.ref u) H'
def Vp (K:Frag):Sp:=fun vs H Q _=>∃(r s a:Addr) (us ss zs:List V) (E:List Ez) (hs:List Q2) (m w:Nat) (L:Int) (h bl:Nat),vs=[.ref r,.ref s,.ref a]/\Ls K H r s us ss E hs m w L h/\SqL K H a zs/\Fqs K H zs hs/\1<=L/\Mq.B bl L/\bl<=440/\∀u p H',aY H H'->Fq K H' u p->Low p->Mq.val p=- puR (uP (dF hs E)) (rwZ E) - hoD (prZ E)->Q (.ref u) H'
theorem Ls.at {K:Frag}{H:Hp}{r s:Addr}{us ss:List V}{E:List Ez}{hs:List Q2}{m w:Nat}{L:Int}{h:Nat}(l:Ls K H r s us ss E hs m w L h){i:Nat}{x y:V}(ex:us[i]?=some x)(ey:ss[i]?=some y):∃(e:Ez) (q v z:Addr),E[i]?=some e/\x=.ref q/\y=.ref v/\SqT K H q [.str e.2.1.1.wd,.int e.2.1.2.1,.int e.2.1.2.2.1,.ref z]/\Fq K H z e.2.1.2.2.2/\Fq K H v e.2.2:=by
 have lu:=l.R.length;rw[length_map] at lu;have hi:i < E.length:=by have:=(List.getElem?_eq_some_iff.mp ex).1;lia
 have hE:E[i]?=some E[i]:=getElem?_eq_getElem hi;obtain⟨q,z,eq,hq,fz⟩:=l.R.at (show (rwZ E)[i]?=some E[i].2.1 by show (map _ E)[i]?=_;rw[getElem?_map,hE];rfl);obtain⟨v,p,rfl,ep,fv⟩:=l.F.get ey;rw[getElem?_map,hE] at ep
 cases ep
 exact⟨E[i],q,v,z,hE,by rw[eq] at ex;exact(Option.some.inj ex).symm,rfl,hq,fz,fv⟩
abbrev Ch:Stmt:=top 94
theorem So:aP ["_law_row","_law_heights"] ["_law_row","_law_heights"] (aH Ch):=sK9 rfl rfl rfl rfl (by decide +kernel)
theorem Mf {dV:Value}(F:aV K "_law_fall" "_law_fall" Ch dV f fd)(G1:aL P w K mg base CX0 2 g1 gd1 ["_law_one","_law_other"] (eP K Mq.minus))(b1:aM K gd1 ["_law_one","_law_other"] [])(k1:kI9 K g1)(m1:mI9 mg "_law_less" g1) :
  aL P w K mg base CX 3 f fd ["_law_row","_law_heights"] (Hd K):=by
 refine F.ok So (fun vs H Q E h=>?_) fun cdv A outer s H vs Q E hr h=>?_
 ·obtain⟨_,_,_,_,_,_,_,_,rfl,_⟩:=h;rfl
 obtain⟨w,a,v,z,d,zs,hs,m,rfl,hw,hA,hZ,hk,pt,q⟩:=h;refine⟨_,(aF (aX (aG G1 hr rfl m1 k1 b1 .nil aK (aA (aQ bN (pv 1) (aQ aT (pv 0) aD (fun _ _=>rfl)) (fun _ _=>rfl)) (aA (aQ bN (pv 1) (aQ aT (pv 0) aD (fun _ _=>rfl)) (fun _ _=>rfl)) aB))))),?_⟩;have lz:=hZ.length;have lh:=hk.l;obtain⟨i0,i1,j0,j1⟩:=pt;obtain⟨sN,hsN⟩:∃sN:Nat,d.2.1=(sN:Int):=⟨d.2.1.toNat,by lia⟩
 obtain⟨gN,hgN⟩:∃gN:Nat,d.2.2.1=(gN:Int):=⟨d.2.2.1.toNat,by lia⟩
 rw[hsN,hgN] at hw;obtain⟨ui,ei,fi⟩:=Fqs.getAt hZ (j:=sN) (by lia);obtain⟨uj,ej,fj⟩:=Fqs.getAt hZ (j:=gN) (by lia);have hi:=hk.at (i:=sN) (by lia);have hj:=hk.at (i:=gN) (by lia);have bi:=(tN hi.1 hi.2 (b:=43) (by decide)).1;have bj:=(tN hj.1 hj.2 (b:=43) (by decide)).1;refine⟨_,rfl,_,rfl,w,_,_,_,rfl,rfl,hw,rfl,a,zs,_,_,rfl,rfl,hA,bV ei,?_⟩;refine⟨_,rfl,_,rfl,w,_,_,_,rfl,rfl,hw,rfl,a,zs,_,_,rfl,rfl,hA,bV ej,?_⟩;refine⟨ui,uj,_,_,58,58,rfl,fi,fj,hi.1.pos,hj.1.pos,bi,bj,by lia,?_⟩;unfold flF at q
 rwa [hsN,hgN,Int.toNat_natCast,Int.toNat_natCast] at q
abbrev Xz:Stmt:=top 95
theorem Aa:aP ["_law_rows","_law_streams","_law_found","_law_row","_law_stream"] ["_law_rows","_law_streams"] (aH Xz):=sK9 rfl rfl rfl rfl (by decide +kernel)
theorem Zb {dV:Value}(F:aV K "_law_waste" "_law_waste" Xz dV f fd)(mz:mg "zip"=none)(G1:aL P w K mg base CX0 2 g1 gd1 ["_law_one","_law_other"] (eP K gY))(b1:aM K gd1 ["_law_one","_law_other"] [])(k1:kI9 K g1)(m1:mI9 mg "_law_plus" g1)(G2:aL P w K mg base CX0 2 g2 gd2 ["_law_one","_law_other"] (eP K gB))(b2:aM K gd2 ["_law_one","_law_other"] [])(k2:kI9 K g2)(m2:mI9 mg "_law_times" g2) :
  aL P w K mg base CX 3 f fd ["_law_rows","_law_streams"] (Vf K):=by
 refine F.ok Aa (fun vs H Q E h=>?_) fun cdv A outer s H vs Q E hr h=>?_
 ·obtain⟨_,_,_,_,_,_,_,_,_,_,rfl,_⟩:=h;rfl
 obtain⟨r,s,us,ss,E,hs,m,w,L,h,rfl,ls,q⟩:=h;refine⟨_,(aC (aR (i:=2) Aa.nd rfl (Or.inl rfl) (dP (aA aD (aA aD aB))))
  (aC (dQ PassesOwn.never rfl (pQ rfl mz rfl (aA (pv 0) (aA (pv 1) aB))) (gR rfl (bO (aZ (i:=3) Aa.nd rfl (Or.inl rfl)) (bO (aZ (i:=4) Aa.nd rfl (Or.inl rfl)) fR)))
   (aF (cC (bF dZ (aQ aT (pv 3) aD (fun _ _=>rfl)) cH (bM _)) (aF (aR (i:=2) Aa.nd rfl (Or.inl rfl) (aG G1 hr rfl m1 k1 b1 .nil aK (aA (pv 2) (aA (aG G2 hr rfl m2 k2 b2 .nil aK (aA (aQ aT (pv 3) aD (fun _ _=>rfl)) (aA (aG G2 hr rfl m2 k2 b2 .nil aK (aA (pv 4) (aA (pv 4) aB))) aB))) aB))))) bH)))
  (aF (aX (pv 2))))),?_⟩
 have lu:=ls.R.length;have lss:=ls.F.length;rw[length_map] at lu lss;have l20:=ls.l;have lD:(prZ E).length=E.length:=length_map ..;have pre:∀i,Mq.Pos ((fG .pc ((prZ E).take i)).map gW)/\∃w,Wt ((fG .pc ((prZ E).take i)).map gW) w/\w<=231*((prZ E).take i).length:=fun i=>by
  have en:∀x∈(prZ E).take i,∃e∈E,x=e.2:=fun x hx=>by
   obtain⟨e,he,rfl⟩:=mem_map.mp (mem_of_mem_take hx);exact⟨e,he,rfl⟩
  refine⟨iL fun x hx=>?_,qb6 (P:=fun e:RE=>decide (e.1.1=Kd.pc)) fun x hx k=>?_⟩
  ·obtain⟨a,k⟩:=jX hx;obtain⟨e,he,rfl⟩:=en x a;exact((ls.b.en e he).gw ls.k k).1
  ·obtain⟨e,he,rfl⟩:=en x hx;exact((ls.b.en e he).gw ls.k (of_decide_eq_true k)).2
 refine⟨zl9 2,fun u0 hu0=>?_⟩;have s0:=aI hu0 (.tup [.int 0,.int 1]);have e0:Fq K (upd H u0 (.tup [.int 0,.int 1])) u0 (0,1):=SqT.of aE;generalize upd H u0 (.tup [.int 0,.int 1])=H0 at s0 e0 ⊢;refine⟨_,rfl,_,rfl,r,s,rfl,⟨_,s0.seq ls.r⟩,⟨_,s0.seq ls.s⟩,?_⟩;refine xS (xs:=us) (ys:=ss) (fun i σ' H'=>aY H H'/\∃(u:Addr) (z3 z4:Option V),σ'=[some (.ref r),some (.ref s),some (.ref u),z3,z4]/\Fq K H' u (tot ((fG .pc ((prZ E).take i)).map gW))) ⟨s0,u0,_,_,rfl,e0⟩ (fun i σ' H' _ h=>⟨h.1.seq ls.r,h.1.seq ls.s⟩) ?_ ?_
 ·rintro i x y σ' H2 T1 ex ey ⟨s2,u,z3,z4,rfl,fu⟩ hTn;obtain⟨e,a,v,z,hE,rfl,rfl,hw,fz,fv⟩:=ls.at ex ey;have hi:i < E.length:=(List.getElem?_eq_some_iff.mp hE).1;have o:=ls.b.en e (mem_of_getElem? hE);have hD:(prZ E)[i]?=some e.2:=by show (map _ E)[i]?=_;rw[getElem?_map,hE];rfl
  have sT:=aI hTn (.tup [.ref a,.ref v]);refine⟨T1,_,rfl,SqT.of aE,rfl,_,_,rfl,_,_,rfl,rfl,?_⟩;generalize upd H2 T1 (.tup [.ref a,.ref v])=H3 at sT ⊢;have s03:=s2.trans sT;refine⟨_,rfl,a,_,_,_,rfl,rfl,s03.seqT hw,rfl,rfl,_,rfl,?_⟩;rw[take_add_one,hD]
  by_cases k:e.2.1.1=.pc
  ·refine L2.ifT (by show decide (V.str e.2.1.1.wd=V.str Kd.pc.wd)=true;rw[bY];exact decide_eq_true k) ?_;obtain⟨P,w1,W1,l1⟩:=pre i;have lt:((prZ E).take i).length<=i:=by rw[length_take];lia
   obtain⟨zz,_,_⟩:=o.pc k;have sl:=o.slow ls.k;have sb:=o.pbd ls.k k;refine⟨_,rfl,_,rfl,a,_,_,_,rfl,rfl,s03.seqT hw,rfl,_,rfl,_,rfl,v,v,_,_,100,100,rfl,s03.fq fv,s03.fq fv,sl.pos,sl.pos,sb,sb,by lia,fun q1 H4 s4 e4=>?_⟩;have tl:=cP sl.pos sl.pos;have tb:=eE sb sb sl.pos sl.pos;refine⟨z,q1,_,_,30,200,rfl,(s03.trans s4).fq fz,Fq.of e4,zz.l.pos,tl.pos,zz.bd,tb.mono (by lia),by lia,fun q2 H5 s5 e5=>?_⟩;obtain⟨gl,gb⟩:=o.gw ls.k k;refine⟨u,q2,_,_,1+w1,230,rfl,(sT.trans (s4.trans s5)).fq fu,Fq.of e5,(jF P).pos,gl.pos,W1.tot P,gb,by lia,fun q3 H6 s6 e6=>?_⟩;refine⟨s03.trans (s4.trans (s5.trans s6)),q3,_,_,rfl,?_⟩;show Fq K H6 q3 (tot ((fG .pc ((prZ E).take i++[e.2])).map gW));rw[mI,if_pos k,map_append];show Fq K H6 q3 (tot ((fG .pc ((prZ E).take i)).map gW++[gW e.2]));rw[Mq.Qc];exact Fq.of e6
  ·refine L2.ifF (by show decide (V.str e.2.1.1.wd=V.str Kd.pc.wd)=false;rw[bY];exact decide_eq_false k) ?_;refine⟨s03,u,_,_,rfl,?_⟩;show Fq K H3 u (tot ((fG .pc ((prZ E).take i++[e.2])).map gW));rw[mI,if_neg k];exact sT.fq fu
 ·rintro σ' H2 ⟨s2,u,z3,z4,rfl,fu⟩;rw[show min us.length ss.length=(prZ E).length by lia,take_length] at fu;exact⟨_,rfl,q u H2 s2 fu⟩
abbrev Yj:Stmt:=top 96
theorem wR:aP ["_law_rows","_law_streams","_law_heights","_law_found","_law_row","_law_stream"] ["_law_rows","_law_streams","_law_heights"] (aH Yj):=sK9 rfl rfl rfl rfl (by decide +kernel)
theorem Xc {dV:Value}(F:aV K "_law_sources" "_law_sources" Yj dV f fd)(mz:mg "zip"=none)(G1:aL P w K mg base CX0 2 g1 gd1 ["_law_one","_law_other"] (eP K Mq.minus))(b1:aM K gd1 ["_law_one","_law_other"] [])(k1:kI9 K g1)(m1:mI9 mg "_law_less" g1)(G2:aL P w K mg base CX0 2 g2 gd2 ["_law_one","_law_other"] (eP K gB))(b2:aM K gd2 ["_law_one","_law_other"] [])(k2:kI9 K g2)(m2:mI9 mg "_law_times" g2)(G3:aL P w K mg base CX0 3 g3 gd3 ["_law_row","_law_heights"] (Hd K))(b3:aM K gd3 ["_law_row","_law_heights"] [])(k3:kI9 K g3)(m3:mI9 mg "_law_fall" g3) :
  aL P w K mg base CX 4 f fd ["_law_rows","_law_streams","_law_heights"] (Vp K):=by
 refine F.ok wR (fun vs H Q E h=>?_) fun cdv A outer s H vs Q E hr h=>?_
 ·obtain⟨_,_,_,_,_,_,_,_,_,_,_,_,_,rfl,_⟩:=h;rfl
 obtain⟨r,s,a,us,ss,zs,E,hs,m,w,L,h,bl,rfl,ls,hA,hZ,L1,LB,b440,q⟩:=h;have r2:=hr.mono (show 2<=3 by lia);refine⟨_,(aC (aR (i:=3) wR.nd rfl (Or.inl rfl) (dP (aA aD (aA aD aB))))
  (aC (dQ PassesOwn.never rfl (pQ rfl mz rfl (aA (pv 0) (aA (pv 1) aB))) (gR rfl (bO (aZ (i:=4) wR.nd rfl (Or.inl rfl)) (bO (aZ (i:=5) wR.nd rfl (Or.inl rfl)) fR)))
   (aC (cC (bF dZ (aQ aT (pv 4) aD (fun _ _=>rfl)) cH (bM _)) (aF (aR (i:=3) wR.nd rfl (Or.inl rfl) (aG G1 r2 rfl m1 k1 b1 .nil aK (aA (pv 3) (aA (aG G2 r2 rfl m2 k2 b2 .nil aK (aA (aQ aT (pv 4) aD (fun _ _=>rfl)) (aA (aG G3 hr rfl m3 k3 b3 .nil aK (aA (pv 4) (aA (pv 2) aB))) aB))) aB))))) bH)
  (aF (cC (bF dZ (aQ aT (pv 4) aD (fun _ _=>rfl)) cH (bM _)) (aF (aR (i:=3) wR.nd rfl (Or.inl rfl) (aG G1 r2 rfl m1 k1 b1 .nil aK (aA (pv 3) (aA (aG G2 r2 rfl m2 k2 b2 .nil aK (aA (aQ aT (pv 4) aD (fun _ _=>rfl)) (aA (pv 5) aB))) aB))))) bH))))
  (aF (aX (pv 3))))),?_⟩
 have lu:=ls.R.length;have lss:=ls.F.length;rw[length_map] at lu lss;have l20:=ls.l;have hk:=ls.k;have lD:(prZ E).length=E.length:=length_map ..;have lR:(rwZ E).length=E.length:=length_map ..;refine⟨zl9 2,fun u0 hu0=>?_⟩;have s0:=aI hu0 (.tup [.int 0,.int 1]);have e0:Fq K (upd H u0 (.tup [.int 0,.int 1])) u0 (0,1):=SqT.of aE;generalize upd H u0 (.tup [.int 0,.int 1])=H0 at s0 e0 ⊢;refine⟨_,rfl,_,rfl,r,s,rfl,⟨_,s0.seq ls.r⟩,⟨_,s0.seq ls.s⟩,?_⟩;refine xS (xs:=us) (ys:=ss) (fun i σ' H'=>aY H H'/\∃(u:Addr) (p:Q2) (z4 z5:Option V),σ'=[some (.ref r),some (.ref s),some (.ref a),some (.ref u),z4,z5]/\Fq K H' u p/\Low p/\Bd (1+zB E i) p/\Mq.val p=- puR (uP (dF hs E)) ((rwZ E).take i) - hoD ((prZ E).take i)) ⟨s0,u0,(0,1),_,_,rfl,e0,⟨by decide,by decide⟩,⟨show (0:Nat) < 2 ^ 1 by decide,show (1:Nat) < 2 ^ 1 by decide⟩,by rw[kU];show (0:Rat)=- 0 - 0;grind⟩ (fun i σ' H' _ h=>⟨h.1.seq ls.r,h.1.seq ls.s⟩) ?_ ?_
 ·rintro i x y σ' H2 T1 ex ey ⟨s2,u,p,z4,z5,rfl,fu,pl,pb,pv'⟩ hTn;obtain⟨e,ra,v,z,hE,rfl,rfl,hw,fz,fv⟩:=ls.at ex ey;have hi:i < E.length:=(List.getElem?_eq_some_iff.mp hE).1;have o:=ls.b.en e (mem_of_getElem? hE);obtain⟨szl,szp,szn⟩:=ls.b.sizes hk L1 LB e (mem_of_getElem? hE);have cz:=Js hE;have cl:=Fp ls.b l20 (i:=i) (by lia);have cl':=Fp ls.b l20 (i:=i+1) (by lia);have hD:(prZ E)[i]?=some e.2:=by show (map _ E)[i]?=_;rw[getElem?_map,hE];rfl
  have hRw:(rwZ E)[i]?=some e.2.1:=by show (map _ E)[i]?=_;rw[getElem?_map,hE];rfl
  have ePu:puR (uP (dF hs E)) ((rwZ E).take (i+1))=puR (uP (dF hs E)) ((rwZ E).take i)+if e.2.1.1=.pu then Mq.val e.2.1.2.2.2*(uP (dF hs E) e.2.1.2.1.toNat - uP (dF hs E) e.2.1.2.2.1.toNat) else 0:=by
   rw[take_add_one,hRw];exact Mi ..
  have eHo:hoD ((prZ E).take (i+1))=hoD ((prZ E).take i)+if e.2.1.1=.ho then Mq.val e.2.1.2.2.2*Mq.val e.2.2 else 0:=by
   rw[take_add_one,hD];exact Kv ..
  have sT:=aI hTn (.tup [.ref ra,.ref v]);refine⟨T1,_,rfl,SqT.of aE,rfl,_,_,rfl,_,_,rfl,rfl,?_⟩;generalize upd H2 T1 (.tup [.ref ra,.ref v])=H3 at sT ⊢;have s03:=s2.trans sT;rw[ePu,eHo];have fl:=hk.fall o.pt;have fb:=hk.fbd o.pt;refine kA (fun σ' H'=>aY H H'/\∃(u:Addr) (p':Q2),σ'=[some (.ref r),some (.ref s),some (.ref a),some (.ref u),some (.ref ra),some (.ref v)]/\Fq K H' u p'/\Low p'/\(e.2.1.1=.pu->Bd (1+zB E (i+1)) p'/\Mq.val p'=Mq.val p - Mq.val e.2.1.2.2.2*(uP (dF hs E) e.2.1.2.1.toNat - uP (dF hs E) e.2.1.2.2.1.toNat))/\(e.2.1.1≠.pu->p'=p)) (fun X hX=>?_) ?_
  ·refine⟨_,rfl,ra,_,_,_,rfl,rfl,s03.seqT hw,rfl,rfl,_,rfl,?_⟩
   by_cases k:e.2.1.1=.pu
   ·refine L2.ifT (by show decide (V.str e.2.1.1.wd=V.str Kd.pu.wd)=true;rw[bY];exact decide_eq_true k) ?_;refine⟨_,rfl,_,rfl,ra,_,_,_,rfl,rfl,s03.seqT hw,rfl,_,rfl,_,rfl,ra,a,_,_,e.2.1,zs,hs,m,rfl,s03.seqT hw,s03.seq hA,hZ.same s03,hk,o.pt,fun q1 H4 s4 e4=>?_⟩;have szb:Bd (if fA 60 e.2.1 then 500 else 60) e.2.1.2.2.2:=by
     cases c:fA 60 e.2.1 with
     |false=>exact oI c
     |true=>exact(szp k).mono (by show 51+bl<=500;lia)
    have tl:=cP szl.pos fl.1.pos;have tb:=eE szb fb szl.pos fl.1.pos;refine⟨z,q1,_,_,(if fA 60 e.2.1 then 500 else 60),60,rfl,(s03.trans s4).fq fz,Fq.of e4,szl.pos,fl.1.pos,szb,fb,by split<;>decide,fun q2 H5 s5 e5=>?_⟩;refine⟨u,q2,p,_,1+zB E i,(if fA 60 e.2.1 then 500 else 60)+60,rfl,(sT.trans (s4.trans s5)).fq fu,Fq.of e5,pl.pos,tl.pos,pb,tb,by split<;>lia,fun q3 H6 s6 e6=>?_⟩;refine hX _ _ ⟨s03.trans (s4.trans (s5.trans s6)),q3,_,rfl,Fq.of e6,cT pl.pos tl.pos,fun _=>⟨(iN pb tb pl.pos tl.pos).mono ?_,?_⟩,fun z=>absurd k z⟩
    ·rw[cz]
     cases fA 60 e.2.1
     ·simp only[Bool.false_eq_true,if_false];lia
     ·simp only[if_true];lia
    ·rw[eX pl.pos tl.pos,fH szl.pos fl.1.pos,o.fall hk (E:=E)]
   ·refine L2.ifF (by show decide (V.str e.2.1.1.wd=V.str Kd.pu.wd)=false;rw[bY];exact decide_eq_false k) ?_;exact hX _ _ ⟨s03,u,p,rfl,sT.fq fu,pl,fun z=>absurd z k,fun _=>rfl⟩
  rintro σ4 H4 ⟨s4,u4,p4,rfl,f4,l4,pu4,no4⟩;refine⟨_,rfl,ra,_,_,_,rfl,rfl,s4.seqT hw,rfl,rfl,_,rfl,?_⟩
  by_cases k:e.2.1.1=.ho
  ·have kp:e.2.1.1≠.pu:=by rw[k];decide
   have ep:=no4 kp;subst ep;refine L2.ifT (by show decide (V.str e.2.1.1.wd=V.str Kd.ho.wd)=true;rw[bY];exact decide_eq_true k) ?_;obtain⟨_,nm⟩:=o.ho k;have szb:=szn kp;have tl:=cP szl.pos nm.l.pos;have tb:=eE szb nm.b szl.pos nm.l.pos;refine⟨_,rfl,_,rfl,ra,_,_,_,rfl,rfl,s4.seqT hw,rfl,_,rfl,z,v,_,_,60,41,rfl,s4.fq fz,s4.fq fv,szl.pos,nm.l.pos,szb,nm.b,by lia,fun q2 H5 s5 e5=>?_⟩;refine⟨u4,q2,p4,_,1+zB E i,101,rfl,s5.fq f4,Fq.of e5,pl.pos,tl.pos,pb,tb.mono (by lia),by lia,fun q3 H6 s6 e6=>?_⟩;refine⟨s4.trans (s5.trans s6),q3,_,_,_,rfl,Fq.of e6,cT pl.pos tl.pos,(iN pb tb pl.pos tl.pos).mono ?_,?_⟩
   ·rw[cz]
    cases fA 60 e.2.1
    ·simp only[Bool.false_eq_true,if_false];lia
    ·simp only[if_true];lia
   ·rw[eX pl.pos tl.pos,fH szl.pos nm.l.pos,pv',if_neg kp,if_pos k];grind
  ·refine L2.ifF (by show decide (V.str e.2.1.1.wd=V.str Kd.ho.wd)=false;rw[bY];exact decide_eq_false k) ?_
   by_cases kp:e.2.1.1=.pu
   ·obtain⟨b4,v4⟩:=pu4 kp;refine⟨s4,u4,p4,_,_,rfl,f4,l4,b4,?_⟩;rw[v4,pv',if_pos kp,if_neg k];grind
   ·have ep:=no4 kp;subst ep;refine⟨s4,u4,p4,_,_,rfl,f4,pl,pb.mono (by rw[cz];lia),?_⟩;rw[pv',if_neg kp,if_neg k];grind
 ·rintro σ' H2 ⟨s2,u,p,z4,z5,rfl,fu,pl,pb,pv'⟩;rw[show min us.length ss.length=E.length by lia,take_of_length_le (by lia),take_of_length_le (by lia)] at pv';exact⟨_,rfl,q u p H2 s2 fu pl pv'⟩
structure Le (m b:Nat) (kb wb:Nat->Nat) (L:Int) (ds:List RD) (sol:List Q2) (v:Q2):Prop where
 ok:∀i d,ds[i]?=some d->RwW m (kb i) (wb i) d
 m20:m<=20
 h40:ds.length<=40
 cu:jT wb ds.length+30<=8900
 eb:EqB m b L ds
 bw39:bw b (wd m ds)<=3900
 eR:∀i,∃a:Int,Mq.B b a/\eqR m ds (i+1)=(a:Rat) / (L:Rat)
 sk:qb3 m ds sol
 val:Ny (lvS m sol) (flS m ds sol) ds=v
theorem Le.call {CN:Addr}{K:Frag}{H:Hp}{n l:Addr}{m b:Nat}{kb wb:Nat->Nat}{L:Int}{ds:List RD}{sol:List Q2}{v:Q2}{Q:VK}{E}(s:Le m b kb wb L ds sol v)(nt:cV CN K H n l (m:Int) ds)(q:jQ H Q v):Nw CN K [.ref n] H Q E:=
 ⟨n,l,m,b,kb,wb,L,ds,sol,rfl,⟨nt,s.ok,s.m20,s.h40,s.cu,s.eb⟩,s.bw39,s.eR,s.sk,by rw[s.val];exact q⟩
theorem Vs {m bl:Nat}{L:Int}{ds:List RD}{sol:List Q2}{v:Q2}(kn:lC m L bl ds)(len:sol.length=wd m ds)(low:iZ sol)(sv:Sv m ds (eqR m ds) (uP sol))(lvb:∀p∈sol.take (m - 1),Bd 61 p)(hdb:∀p∈sol.drop (m - 1),Bd 50 p)(vl:Low v)(vv:Mq.val v=- puR (uP sol) ds - hoR (uP sol) m ds):Le m (bl+61) (kbK ds) (wbK ds) L ds sol v:=by
 have m1:=kn.o.m1;have hl:m - 1<=sol.length:=by rw[len];exact Nat.le_add_right _ _
 have sb:=kn.sumB (fun p hp=>⟨low p (mem_of_mem_take hp),lvb p hp⟩) hl (fun p hp=>⟨low p (mem_of_mem_drop hp),hdb p hp⟩);obtain⟨a1,a2⟩:=Uv m1 hl (fun d hd=>(kn.ok d hd).1) (fun p hp=>(sb.lv p hp).1) (fun p hp=>(sb.fl p hp).1);have m5:=kn.m5;have l20:=kn.len;refine⟨kn.rw,by lia,by lia,kn.cu,kn.eqb,?_,kn.eR,⟨⟨len,low,sv⟩,sb.lv,sb.fl,sb.w1,sb.w2⟩,rB a1 vl (by rw[a2,vv])⟩;have:=kn.bits;show (bl+61+5)*(wd m ds+1)+8<=3900;exact Nat.le_trans (Nat.add_le_add_right (Nat.mul_le_mul_right _ (by lia)) _) this
section
variable {m t h bl j:Nat} {L:Int} {hs:List Q2} {E:List Ez} {f:Q2}
theorem qi1 (hk:HtK m hs){p:Q2}(hp:p∈hs):Bd 57 p:=by
 obtain⟨l,a,ea,ha⟩:=hk.ok p hp;exact(kC l (L:=27720) (by decide) (xK.mono (by decide)) (show Mq.B 57 a from Nat.lt_of_le_of_lt ha (by decide)) ea).1
theorem Kw (hk:HtK m hs):(dF hs E).take (m - 1)=hs.drop 1:=by
 have lh:=hk.l;unfold dF;rw[take_append_of_le_length (by rw[length_drop];lia),take_of_length_le (by rw[length_drop];lia)]
theorem qc9 (hk:HtK m hs):∀p∈(dF hs E).take (m - 1),Bd 57 p:=fun p hp=>by
 rw[Kw hk] at hp;exact qi1 hk (mem_of_mem_drop hp)
theorem qe9 (b:Bal m t L hs h E j)(hk:HtK m hs):∀p∈(dF hs E).drop (m - 1),Bd 41 p:=fun p hp=>by
 rw[Mw hk] at hp;obtain⟨e,he,k,rfl⟩:=qX hp;obtain⟨x,hx,rfl⟩:=mem_map.mp he;exact((b.en x hx).ho k).2.b
theorem Co (b:Bal m t L hs h E j)(hk:HtK m hs)(bal:∀x,1<=x->x < m->ouR x (prZ E)=0):Low (iY (prZ E))/\Mq.val (iY (prZ E))=- puR (uP (dF hs E)) (rwZ E) - hoR (uP (dF hs E)) m (rwZ E)/\hoD (prZ E)=hoR (uP (dF hs E)) m (rwZ E):=by
 obtain⟨_,a,c,_⟩:=b.waste hk;refine⟨a,by rw[c];exact b.power hk bal,?_⟩;rw[Oz _ _ (b.fws hk),zY]
theorem qa6 (b:Bal m t L hs h E j)(hk:HtK m hs)(bal:∀x,1<=x->x < m->ouR x (prZ E)=0)(kn:lC m L bl (rwZ E)):Le m (bl+61) (kbK (rwZ E)) (wbK (rwZ E)) L (rwZ E) (dF hs E) (iY (prZ E)):=by
 obtain⟨a,c,_⟩:=Co b hk bal;exact Vs kn (Ha hk) (b.low hk) (b.sv hk bal) (fun p hp=>(qc9 hk p hp).mono (by decide)) (fun p hp=>(qe9 b hk p hp).mono (by decide)) a c
theorem qe4 (b:Bal m t L hs h E j)(hk:HtK m hs)(bal:∀x,1<=x->x < m->ouR x (prZ E)=0)(kn:lC m (L*60) (bl+6) ((rwZ E).map (scR f)))(p1:∀d∈rwZ E,1<=d.2.2.2.2)(F:Gy f):Le m (bl+6+61) (kbK ((rwZ E).map (scR f))) (wbK ((rwZ E).map (scR f))) (L*60) ((rwZ E).map (scR f)) ((dF hs E).map fun p=>gB p f) (gB (gB f f) (iY (prZ E))):=by
 obtain⟨a,c,_⟩:=Co b hk bal;have f1:=F.l.pos;have lo:=b.low hk;have lo1:∀p∈dF hs E,1<=p.2:=fun p hp=>(lo p hp).pos;have ff:=cP f1 f1;refine Vs kn ?_ (fun p hp=>?_) (Sv.sc f1 lo1 p1 (b.sv hk bal)) (fun p hp=>?_) (fun p hp=>?_) (cP ff.pos a.pos) ?_
 ·rw[length_map,Ha hk];show m - 1+_=m - 1+_;rw[Cr]
 ·obtain⟨x,hx,rfl⟩:=mem_map.mp hp;exact cP (lo1 x hx) f1
 ·rw[<- map_take] at hp;obtain⟨x,hx,rfl⟩:=mem_map.mp hp;exact eE (qc9 hk x hx) F.b (lo1 x (mem_of_mem_take hx)) f1
 ·rw[<- map_drop] at hp;obtain⟨x,hx,rfl⟩:=mem_map.mp hp;exact(eE (qe9 b hk x hx) F.b (lo1 x (mem_of_mem_drop hx)) f1).mono (by decide)
 ·rw[fH ff.pos a.pos,fH f1 f1,c,Vb f1 lo1,Kp f1 _ p1,Pf f1 _ _ p1];grind
theorem Zk {t b:Int}(h1:-9<=t)(h2:t<=9)(b1:1<=b)(b2:b<=5):Gy (red t b):=by
 have b0:b≠0:=by lia
 have le:=lT (t:=t) b0;have lo:=iA (t:=t) b0;have bT:Mq.B 4 t:=lZ (by lia) (by lia);have bB:Mq.B 4 b:=lZ (by lia) (by lia);refine⟨lo,⟨bT.le le.1,bB.le le.2⟩,?_⟩;have d60:b ∣ 60:=by
  have:b=1\/b=2\/b=3\/b=4\/b=5:=by lia
  rcases this with rfl | rfl | rfl | rfl | rfl<;>decide
 obtain⟨k,hk⟩:=d60;have k0:1<=k:=by
  rcases Int.lt_or_le k 1 with z | z
  ·have:=Int.mul_le_mul_of_nonneg_left (show k<=0 by lia) (show 0<=b by lia);lia
  ·exact z
 refine⟨t*k,?_,?_⟩
 ·rw[jH b0,hk,Rat.intCast_mul,Rat.intCast_mul];have:((b:Int):Rat)≠0:=by exact_mod_cast b0
  have:((k:Int):Rat)≠0:=by exact_mod_cast (show k≠0 by lia)
  grind
 ·rw[Int.natAbs_mul];have:k.natAbs<=60:=by
   have:=Int.natAbs_dvd_natAbs.mpr ⟨b,show (60:Int)=k*b by rw[hk,Int.mul_comm]⟩;exact Nat.le_of_dvd (by decide) this
  exact Nat.mul_le_mul (by lia) this
def scT (f:Q2)(i:Nat)(ds:List RD):List RD:=(ds.take i).map (scR f)++ds.drop i
theorem Gm {ds:List RD}{i:Nat}{d:RD}(h:ds[i]?=some d):(scT f i ds)[i]?=some d:=by
 have hi:=(List.getElem?_eq_some_iff.mp h).1;unfold scT;rw[getElem?_append_right (by rw[length_map,length_take];lia),length_map,length_take,getElem?_drop,show i+(i - min i ds.length)=i by lia,h]
theorem Aw {ds:List RD}{i:Nat}{d:RD}(h:ds[i]?=some d):scT f (i+1) ds=(scT f i ds).set i (scR f d):=by
 have hi:=(List.getElem?_eq_some_iff.mp h).1;have e:d=ds[i]:=(Option.some.inj ((getElem?_eq_getElem hi).symm.trans h)).symm;unfold scT;rw[take_add_one,h,map_append,set_append_right _ _ (by rw[length_map,length_take];lia),length_map,length_take,show i - min i ds.length=0 by lia,drop_eq_getElem_cons hi,List.append_assoc];rfl
theorem Yp {ds:List RD}{i:Nat}{d:RD}(h:ds[i]?=some d)(k:d.1=.pc):scT f (i+1) ds=scT f i ds:=by
 rw[Aw h,qD k];have:=Gm (f:=f) h;obtain⟨hi,e⟩:=List.getElem?_eq_some_iff.mp this;rw[<- e];exact set_getElem_self hi
theorem Sf (ds:List RD):scT f ds.length ds=ds.map (scR f):=by
 unfold scT;rw[take_length,drop_length,append_nil]
end
end
section
variable {P:Program} {w:World} {K:Frag} {mg:Str->Option Value} {base:Heap} {f g1 g2 g3 g4 g5 g6 g7 g8:Addr} {fd gd1 gd2 gd3 gd4 gd5 gd6 gd7 gd8:FuncData} {CX:CXT}
variable {CR:Addr} {CK:Kd->Addr} {fW fJ fT fS:Kd->Addr} {fdW fdJ fdT fdS:Kd->FuncData}
theorem Cv:∀E:List Ez,(rwZ E).zip (E.map (·.2.2))=prZ E
 | []=>rfl
 |e :: r=>by show (e.2.1,e.2.2) :: (rwZ r).zip (r.map (·.2.2))=e.2 :: prZ r;rw[Cv r]
theorem Zg {K:Frag}{H:Hp}{a b:Addr}{p:Q2}{Q:VK}(h1:Fq K H a p)(h2:Fq K H b p)(z:Q (.bl false) H):Ky K true (.ref a) (.ref b) H Q:=by
 refine Cp h1 h2 ?_;show Q (.bl (!decide (p=p))) H;rw[decide_eq_true rfl];exact z
theorem Wx {m w:Nat}{hs:List Q2}{E0 E:List Ez}(hk:HtK m hs)(dz:Drz m w m hs E0)(l0:E0.length<=14)(m5:m<=5)(b:Bal m w (LZ E0) hs (bG (rwZ E0)) E 4)(l1:E.length<=E0.length+4):∃bl,bl<=440/\1<=LZ E0/\Mq.B bl (LZ E0)/\lC m (LZ E0) bl (rwZ E)/\∀f,Gy f->lC m (LZ E0*60) (bl+6) ((rwZ E).map (scR f)):=by
 have a1:=Fl E0;have a2:=Hnk.hold_le dz.hn;rw[K47.Yy] at a2;have bb:=Ws (np:=(uU E0).length) (hh:=bG (rwZ E0)) (mm:=m) (by lia) a2 m5;have bl440:30*(uU E0).length+16<=440:=by lia
 have L1:=LZ1 dz.en;have LB:=LZB dz.en;have kn:=b.knet (bl:=30*(uU E0).length+16) hk (Nat.le_refl _) m5 (by lia) L1 ⟨_,rfl⟩ LB bl440 (Nat.le_trans (Nat.add_le_add_right (Nat.mul_le_mul_right _ (by lia)) _) bb);exact⟨_,bl440,L1,LB,kn,fun f F=>b.knetS hk kn F (Nat.le_refl _) bl440 bb⟩
def Gp (K:Frag):Sp:=fun vs H Q _=>∃(a:Addr) (ns:List Int),vs=[.ref a]/\SqL K H a (ns.map V.int)/\ns.length<=63/\∀H',Q (.bl true) H'
abbrev xM:Stmt:=top 97
theorem lU:aP ["_law_script","_law_many","_law_rows","_law_streams","_law_heights","_law_net_here","_law_due","_law_kept","_law_cell","_law_factor","_law_k"] ["_law_script"] (aH xM):=sK9 rfl rfl rfl rfl (by decide +kernel)
theorem Yq {dV:Value}(F:aV K "law" "law" xM dV f fd){CN:Addr}(NTx:NT K mg CN)(ml:mg "len"=none)(mr:mg "range"=none)(mli:mg "list"=none){gCo:Addr}{gdCo:FuncData}(GCo:aL P w K mg base CX0 4 gCo gdCo ["self"] (Om CN K))(bCo:aM K gdCo ["self"] [])(mCo:gE K CN "copy" gCo){gCh:Addr}{gdCh:FuncData}(GCh:aL P w K mg base CX0 5 gCh gdCh ["self","k","size"] (Av CN K))(bCh:aM K gdCh ["self","k","size"] [])(mCh:gE K CN "change" gCh)(G1:aL P w K mg base CX0 1 g1 gd1 ["_law_script","_law_k"] (Ee K))(b1:aM K gd1 ["_law_script","_law_k"] [])(k1:kI9 K g1)(m1:mI9 mg "_law_draw" g1)(G2:aL P w K mg base CX0 4 g2 gd2 ["_law_script","_law_many","_law_most"] (Qd K))(b2:aM K gd2 ["_law_script","_law_many","_law_most"] [])(k2:kI9 K g2)(m2:mI9 mg "_law_answered" g2)(G3:aL P w K mg base CX0 6 g3 gd3 ["_law_many","_law_rows"] (Fw CN K))(b3:aM K gd3 ["_law_many","_law_rows"] [])(k3:kI9 K g3)(m3:mI9 mg "_law_net" g3)(G4:aL P w K mg base CX0 3 g4 gd4 ["_law_rows","_law_streams"] (Vf K))(b4:aM K gd4 ["_law_rows","_law_streams"] [])(k4:kI9 K g4)(m4:mI9 mg "_law_waste" g4)(G5:aL P w K mg base CX0 4 g5 gd5 ["_law_rows","_law_streams","_law_heights"] (Vp K))(b5:aM K gd5 ["_law_rows","_law_streams","_law_heights"] [])(k5:kI9 K g5)(m5:mI9 mg "_law_sources" g5)(G6:aL P w K mg base CX0 1 g6 gd6 ["_law_found","_law_due"] (Lf K))(b6:aM K gd6 ["_law_found","_law_due"] [])(k6:kI9 K g6)(m6:mI9 mg "_law_told" g6)(G7:aL P w K mg base CX0 10 g7 gd7 ["net"] (Nw CN K))(b7:aM K gd7 ["net"] [])(k7:kI9 K g7)(m7:mI9 mg "supplied" g7)(G8:aL P w K mg base CX0 6 g8 gd8 ["net","streams"] (zC CN K .pc gW))(b8:aM K gd8 ["net","streams"] [])(k8:kI9 K g8)(m8:mI9 mg "waste" g8){g9:Addr}{gd9:FuncData}(G9:aL P w K mg base CX0 1 g9 gd9 ["_law_top","_law_bottom"] gD)(b9:aM K gd9 ["_law_top","_law_bottom"] [])(k9:kI9 K g9)(m9:mI9 mg "_law_lowest" g9){g10:Addr}{gd10:FuncData}(G10:aL P w K mg base CX0 1 g10 gd10 ["_law_cell","_law_turn","_law_many"] rZ)(b10:aM K gd10 ["_law_cell","_law_turn","_law_many"] [])(k10:kI9 K g10)(m10:mI9 mg "_law_mix" g10){g11:Addr}{gd11:FuncData}(G11:aL P w K mg base CX0 2 g11 gd11 ["_law_one","_law_other"] (eP K gB))(b11:aM K gd11 ["_law_one","_law_other"] [])(k11:kI9 K g11)(m11:mI9 mg "_law_times" g11) :
  aL P w K mg base CX 11 f fd ["_law_script"] (Gp K):=by
 refine F.ok lU (fun vs H Q E h=>?_) fun cdv A outer s H vs Q E hr h=>?_
 ·obtain⟨_,_,rfl,_⟩:=h;rfl
 obtain⟨a,ns,rfl,hS,h63,q⟩:=h;have hu:=hr.units;have r1:=hr.mono (show 1<=10 by lia);have r2:=hr.mono (show 2<=10 by lia);have r3:=hr.mono (show 3<=10 by lia);have r4:=hr.mono (show 4<=10 by lia);have r5:=hr.mono (show 5<=10 by lia);have r6:=hr.mono (show 6<=10 by lia);refine⟨_,(aC (aR (i:=1) lU.nd rfl (Or.inl rfl) (aU cZ aD (aU jP (aG G1 r1 rfl m1 k1 b1 .nil aK (aA (pv 0) (aA aD aB))) aD)))
  (aC (jU (aG G2 r4 rfl m2 k2 b2 .nil aK (aA (pv 0) (aA (pv 1) (aA aD aB)))) (gR rfl (bO (aZ (i:=2) lU.nd rfl (Or.inl rfl)) (bO (aZ (i:=3) lU.nd rfl (Or.inl rfl)) (bO (aZ (i:=4) lU.nd rfl (Or.inl rfl)) fR)))))
  (aC (aR (i:=5) lU.nd rfl (Or.inl rfl) (aG G3 r6 rfl m3 k3 b3 .nil aK (aA (pv 1) (aA (pv 2) aB))))
  (aC (aR (i:=6) lU.nd rfl (Or.inl rfl) (aG G4 r3 rfl m4 k4 b4 .nil aK (aA (pv 2) (aA (pv 3) aB))))
  (aC (cC (bF (My hu) (aG G5 r4 rfl m5 k5 b5 .nil aK (aA (pv 2) (aA (pv 3) (aA (pv 4) aB)))) (pv 6) (bM _)) (aF (aX mZ)) bH)
  (aC (cC (PW.pt (oZ (gG (eZ (aG G6 r1 rfl m6 k6 b6 .nil aK (aA (aG G7 hr rfl m7 k7 b7 .nil aK (aA (pv 5) aB)) (aA (pv 6) aB))))) (nV (gG (eZ (aG G6 r1 rfl m6 k6 b6 .nil aK (aA (aG G8 r6 rfl m8 k8 b8 .nil aK (aA (pv 5) (aA (jV gU rfl mli PyProof.Rows.boot_list (aA (pv 3) aB)) aB))) (aA (pv 6) aB)))))))) (aF (aX mZ)) bH)
  (aC (aR (i:=7) lU.nd rfl (Or.inl rfl) (fE (pv 5) NTx.cl mCo GCo r4 bCo .nil aK))
  (aC (aR (i:=8) lU.nd rfl (Or.inl rfl) (aG G1 r1 rfl m1 k1 b1 .nil aK (aA (pv 0) (aA aD aB))))
  (aC (aR (i:=9) lU.nd rfl (Or.inl rfl) (aG G9 r1 rfl m9 k9 b9 .nil aK (aA (aU jR (aG G10 r1 rfl m10 k10 b10 .nil aK (aA (pv 8) (aA aD (aA aD aB)))) aD) (aA (aU cZ aD (aG G10 r1 rfl m10 k10 b10 .nil aK (aA (pv 8) (aA aD (aA aD aB))))) aB))))
  (aC (dQ PassesOwn.never rfl (hG rfl mr (aA (cN bX rfl ml PySem.boot_len (aA (pv 2) aB)) aB)) (aZ (i:=10) lU.nd rfl (Or.inl rfl))
   (aF (cC (bF qH (aQ aT (aQ bN (pv 2) (pv 10) (fun _ _=>rfl)) aD (fun _ _=>rfl)) cH (bM _)) (aF (bQ (Gj (pv 5) NTx.cl mCh GCh r5 bCh .nil aK (aA (pv 10) (aA (aG G11 r2 rfl m11 k11 b11 .nil aK (aA (aQ aT (aQ bN (pv 2) (pv 10) (fun _ _=>rfl)) aD (fun _ _=>rfl)) (aA (pv 9) aB))) aB))))) bH)))
  (aC (cC (gG (eZ (aG G6 r1 rfl m6 k6 b6 .nil aK (aA (aG G7 hr rfl m7 k7 b7 .nil aK (aA (pv 5) aB)) (aA (aG G11 r2 rfl m11 k11 b11 .nil aK (aA (aG G11 r2 rfl m11 k11 b11 .nil aK (aA (pv 9) (aA (pv 9) aB))) (aA (pv 6) aB))) aB))))) (aF (aX mZ)) bH)
  (aF (aX (aG G6 r1 rfl m6 k6 b6 .nil aK (aA (aG G7 hr rfl m7 k7 b7 .nil aK (aA (pv 7) aB)) (aA (pv 6) aB)))))))))))))))),?_⟩
 refine kA (fun σ' H'=>∃M:Nat,σ'=[some (.ref a),some (.int (M:Int)),none,none,none,none,none,none,none,none,none]/\1<=M/\M<=5/\aY H H') (fun X hX=>?_) ?_
 ·refine⟨_,rfl,a,ns,0,0,rfl,rfl,hS,h63,fun v H1 s1=>⟨_,_,rfl,rfl,(show (0:Int) < 5 by decide),_,_,rfl,rfl,?_⟩⟩;have f0:=Int.emod_nonneg v (show (5:Int)≠0 by decide);have f9:=Int.emod_lt_of_pos v (show (0:Int) < 5 by decide);obtain⟨M,hM⟩:∃M:Nat,1+v % 5=(M:Int):=⟨(1+v % 5).toNat,by lia⟩
  exact hX _ _ ⟨M,by rw[<- hM];rfl,by lia,by lia,s1⟩
 rintro σ1 H1 ⟨M,rfl,M1,M5,s1⟩
 try dsimp only
 refine⟨_,rfl,_,rfl,a,ns,M,10,rfl,s1.seq hS,h63,M1,M5,by decide,fun t r s hA E0 E hs w' H2 s2 nr ns' nhA n3 hk dz l0 b l1 bal=>?_⟩;obtain⟨bl,bl440,L1,LB,kn,knS⟩:=Wx hk dz (by lia) M5 b l1;have l20:E.length<=18:=by lia
 obtain⟨us,er,hR⟩:=n3.rw;obtain⟨ss,es,hF⟩:=n3.st;obtain⟨zs,ez,hZ⟩:=n3.ht;have lR:(rwZ E).length=E.length:=length_map ..;have lus:=hR.length;have lss:=hF.length;rw[length_map] at lss;have LS:Ls K H2 r s us ss E hs M w' (LZ E0) (bG (rwZ E0)):=⟨SqL.of er,hR,SqL.of es,hF,hk,b,by lia⟩
 have S1:=qa6 b hk bal kn;obtain⟨dl,dv,dh⟩:=Co b hk bal;obtain⟨wp,_,_,ww,wW,wl⟩:=b.waste hk;have ok:∀d∈rwZ E,qM (M:Int) d:=fun d hd=>(kn.ok d hd).1;have fls:=S1.sk.fl;rw[show flS M (rwZ E) (dF hs E)=E.map (·.2.2) from b.flows hk] at fls;refine⟨t,_,rfl,n3.tp,rfl,_,_,rfl,_,_,rfl,_,_,rfl,rfl,?_⟩
 try dsimp only
 refine⟨_,rfl,_,rfl,(M:Int),r,us,rwZ E,rfl,by lia,by lia,SqL.of er,hR,ok,by lia,fun n l H3 s3 nl nt=>?_⟩;have nlr:r≠l:=fun z=>by rw[<- z,er] at nl;cases nl
 refine⟨_,rfl,_,rfl,r,s,us,ss,E,hs,M,w',_,_,rfl,⟨s3.seq LS.r,LS.R.same s3,s3.seq LS.s,LS.F.same s3,hk,b,by lia⟩,fun u H4 s4 fu=>?_⟩;have s24:=s3.trans s4;refine⟨_,rfl,_,rfl,_,rfl,r,s,hA,us,ss,zs,E,hs,M,w',_,_,bl,rfl,⟨s24.seq LS.r,LS.R.same s24,s24.seq LS.s,LS.F.same s24,hk,b,by lia⟩,s24.seq (SqL.of ez),hZ.same s24,L1,LB,bl440,fun y p H5 s5 fy pl pv=>?_⟩;have ep:p=iY (prZ E):=rB pl dl (by rw[pv,dv,dh]);subst ep;have s35:=s4.trans s5;refine⟨_,rfl,Zg fy (s5.fq fu) ⟨_,rfl,fU ?_⟩⟩;refine⟨_,rfl,S1.call (E:=L2.E0) (nt.same s35) fun x6 H6 s6 e6=>?_⟩;refine⟨_,rfl,x6,u,_,rfl,Fq.of e6,(s5.trans s6).fq fu,_,rfl,fU ?_⟩;have s36:=s35.trans s6;refine⟨_,rfl,_,rfl,s,ss,rfl,.inl ((s3.trans s36).seq LS.s),fun s7 hs7=>?_⟩;have q7:=aI hs7 (.lst ss);have e7:upd H6 s7 (.lst ss) s7=some (.lst ss):=aE;generalize upd H6 s7 (.lst ss)=H7 at q7 e7 ⊢;have s37:=s36.trans q7;refine⟨n,l,s7,M,rwZ E,ss,E.map (·.2.2),ww,rfl,nt.same s37,by lia,ok,⟨SqL.of e7,hF.same (s3.trans s37),by rw[length_map,lR],fls⟩,by rw[Cv];exact wW,by lia,fun x8 H8 s8 f8=>?_⟩;rw[Cv] at f8;have s38:=s37.trans s8;have fu8:Fq K H8 u (iY (prZ E)):=(s5.trans (s6.trans (q7.trans s8))).fq fu;refine⟨_,rfl,x8,u,_,rfl,f8,fu8,_,rfl,fU ?_⟩
 try dsimp only
 obtain⟨dn,hn⟩:=(nt.same s38).ob;refine⟨_,rfl,n,dn,_,rfl,hn,fF _ _ (by decide +kernel) (by decide +kernel),n,l,(M:Int),rwZ E,rfl,nt.same s38,by lia,by lia,fun n2 l2 H9 s9 nn2 nl2 nt2=>?_⟩;have s39:=s38.trans s9;refine⟨_,rfl,a,ns,2,2,rfl,rfl,(s1.trans (s2.trans (s3.trans s39))).seq hS,h63,fun c HA sA=>?_⟩;refine⟨_,rfl,c,3,19,rfl,by decide,by decide,by decide,fun x1 HB x10 x11 sB=>⟨_,_,rfl,rfl,?_⟩⟩;refine⟨_,rfl,c,4,5,rfl,by decide,by decide,by decide,fun x2 HC x20 x21 sC=>⟨_,_,rfl,rfl,?_⟩⟩;have FO:=Zk (t:=x1 - 9) (b:=1+x2) (by lia) (by lia) (by lia) (by lia);refine⟨x1 - 9,1+x2,6,rfl,by lia,(lZ (by lia) (by lia)),by lia,fun fa HD sD eD=>?_⟩;generalize red (x1 - 9) (1+x2)=f' at FO eD
 try dsimp only
 have sAD:=sA.trans (sB.trans (sC.trans sD));have s3D:=s39.trans sAD;have ntD:=nt.same s3D;have nt2D:=nt2.same sAD;have fuD:=(s9.trans sAD).fq fu8;have faD:Fq K HD fa f':=Fq.of eD;have erD:=(s3.trans s3D) _ _ er;have hRD:=hR.same (s3.trans s3D);obtain⟨ls0,el,_⟩:=ntD.ls;have nll:l2≠l:=fun z=>by
  obtain⟨ls1,el1,_⟩:=(nt.same s38).ls;rw[z,el1] at nl2;cases nl2
 have f1:=FO.l.pos;clear nl nn2 nl2 hs7 n3 s1 s2;refine kA (fun σ' H'=>cK l HD H'/\cV CN K H' n l (M:Int) ((rwZ E).map (scR f'))/\∃z,σ'=[some (.ref a),some (.int (M:Int)),some (.ref r),some (.ref s),some (.ref hA),some (.ref n),some (.ref u),some (.ref n2),some (.int c),some (.ref fa),z]) (fun X hX=>?_) ?_
 ·refine⟨_,rfl,r,us,rfl,.inl (SqL.of erD),(us.length:Int),rfl,by lia,by lia,?_⟩;refine gM (n:=(us.length:Int).toNat) (fun i σ' H'=>cK l HD H'/\cV CN K H' n l (M:Int) (scT f' i (rwZ E))/\∃z,σ'=[some (.ref a),some (.int (M:Int)),some (.ref r),some (.ref s),some (.ref hA),some (.ref n),some (.ref u),some (.ref n2),some (.int c),some (.ref fa),z]) ⟨(aY.refl _).x,ntD,_,rfl⟩ ?_ ?_
  ·rintro i σ' HE hi ⟨sx,ntE,z10,rfl⟩;have hi:i < (rwZ E).length:=by lia
   rw[Int.zero_add];obtain⟨d,hd⟩:∃d,(rwZ E)[i]?=some d:=⟨_,getElem?_eq_getElem hi⟩
   obtain⟨t',z,et,ht,fz⟩:=hRD.at hd;have ea:atI us (i:Int)=some (.ref t'):=bV et;have erE:=sx _ _ erD nlr;have htE:=sx.seqT el ht;refine⟨_,rfl,_,rfl,r,us,_,_,rfl,rfl,SqL.of erE,ea,t',_,_,_,rfl,rfl,htE,rfl,rfl,_,rfl,?_⟩
   by_cases hkd:d.1=.pc
   ·refine L2.ifF (by show (!decide (V.str d.1.wd=V.str Kd.pc.wd))=false;rw[bY,decide_eq_true hkd];rfl) ?_;exact⟨sx,by rw[Yp hd hkd];exact ntE,_,rfl⟩
   refine L2.ifT (by show (!decide (V.str d.1.wd=V.str Kd.pc.wd))=true;rw[bY,decide_eq_false hkd];rfl) ?_;obtain⟨dn',hn'⟩:=ntE.ob;have fzE:Fq K HE z d.2.2.2:=sx.seqT el fz;have faE:Fq K HE fa f':=sx.seqT el faD;obtain⟨⟨_,_,_,_,zl,_,_⟩,zb⟩:=kn.ok d (mem_of_getElem? hd);have zb:Bd 500 d.2.2.2:=zb.mono (by split<;>decide);refine⟨_,rfl,n,dn',_,rfl,hn',fF _ _ (by decide +kernel) (by decide +kernel),_,rfl,_,rfl,_,rfl,r,us,_,_,rfl,rfl,SqL.of erE,ea,t',_,_,_,rfl,rfl,htE,rfl,_,rfl,z,fa,_,_,500,4,rfl,fzE,faE,zl.pos,f1,zb,FO.b,by decide,fun zn HF sF eF=>?_⟩;refine⟨n,l,zn,(M:Int),(i:Int),scT f' i (rwZ E),d.1,d.2.1,d.2.2.1,d.2.2.2,_,rfl,ntE.same sF,by lia,by rw[Int.toNat_natCast];exact Gm hd,Fq.of eF,cP zl.pos f1,(fun k=>absurd k hkd),(eE zb FO.b zl.pos f1).mono (by decide),fun HG sG ntG=>?_⟩;rw[Int.toNat_natCast] at ntG;refine⟨(sx.trans sF.x).trans sG,?_,_,rfl⟩;rw[Aw hd];unfold scR;rw[if_neg hkd];exact ntG
  ·rintro σ' HE ⟨sx,ntE,z10,rfl⟩;rw[Int.toNat_natCast,show us.length=(rwZ E).length by lia,Sf] at ntE;exact hX _ _ ⟨sx,ntE,_,rfl⟩
 rintro σE HE ⟨sx,ntE,z10,rfl⟩;have S2:=qe4 b hk bal (knS f' FO) (fun d hd=>(ok d hd).2.2.2.2.1.pos) FO;have fuE:Fq K HE u (iY (prZ E)):=sx.seqT el fuD;have faE:Fq K HE fa f':=sx.seqT el faD;have nt2E:=cV.x el sx nll nt2D;refine⟨_,rfl,S2.call (E:=L2.E0) ntE fun x HF sF eF=>?_⟩;have ff:=cP f1 f1;refine⟨_,rfl,_,rfl,fa,fa,_,_,4,4,rfl,sF.fq faE,sF.fq faE,f1,f1,FO.b,FO.b,by decide,fun y1 HG sG eG=>?_⟩;refine⟨_,rfl,y1,u,_,_,8,1+ww,rfl,Fq.of eG,(sF.trans sG).fq fuE,ff.pos,dl.pos,(eE FO.b FO.b f1 f1).mono (by decide),wW.tot wp,by lia,fun y2 HH sH eH=>?_⟩;have sFH:=sF.trans (sG.trans sH);refine⟨x,y2,_,rfl,(sG.trans sH).fq (Fq.of eF),Fq.of eH,_,rfl,fU ?_⟩;refine⟨_,rfl,S1.call (E:=L2.E0) (nt2E.same sFH) fun x3 HI sI eI=>?_⟩;exact⟨_,rfl,x3,u,_,rfl,Fq.of eI,(sFH.trans sI).fq fuE,q _⟩
end
theorem Wi {l:W.OpenLaw}{w:World}{K:Frag}{mg:Str->Option Value}{fa:Addr}(hfa:mg "law"=some (.ref fa)){c_Row c_Piece c_Push c_Hold c_Net c_Answer f1 f2 f3 f4 f5 f6 f7 f8 f9 f10 f11 f12 f13 f14 f15 f16 f17 f18 f19 f20 f21 f22 f23 f24 f25 f26 f27 f28 f29 f30 f31 f32 f33 f34 f35 f36 f37 f38 f39 f40 f41 f42 f43 f44 f45 f46 f47 f48 f49 f50 f51 f52 f53 f54 f55 f56 f57 f58 f59 f60 f61 f62 f63 f64 f65 f66 f67 f68 f69 f70 f71 f72 f73 f74 f75 f76 f77 f78 f79 f80 f81 f82 f83:Addr}{d1 d2 d3 d5 d6 d7 d8 d9 d10 d11 d12 d13 d14 d15 d16 d17 d18 d19 d20 d21 d22 d23 d24 d25 d26 d27 d28 d29 d30 d31 d32 d33 d34 d35 d36 d37 d39 d40 d41 d42 d43 d44 d45 d46 d47 d48 d49 d50 d51 d52 d53 d54 d55 d56 d57 d58 d59 d60 d61 d62 d63 d64 d65 d66 d67 d68 d69 d70 d71 d72 d73 d74 d75 d76 d77 d78 d79 d80 d81 d82:FuncData}{od4 an4:Option Addr}{sl4:Array (Option Value)}{oc4 kV4 dc4 pm4 cd4 ct4:Value}{T4:Addr}{oT4:Value}{dT4:Option Addr}{nT4:Nat}{sT4:Array (Option Value)}{tk4:Tok}{od38 an38:Option Addr}{sl38:Array (Option Value)}{oc38 kV38 dc38 pm38 cd38 ct38:Value}{T38:Addr}{oT38:Value}{dT38:Option Addr}{nT38:Nat}{sT38:Array (Option Value)}{od83 an83:Option Addr}{sl83:Array (Option Value)}{oc83 kV83 dc83 pm83 cd83 ct83:Value}{aO:Addr}{dO:Option Addr}{nO:Nat}{sO:Array (Option Value)}{t2 t3:Tok}{aN:Addr}{dN:Option Addr}{nN:Nat}{sN:Array (Option Value)}{t0 t1:Tok}{aJ:Addr}{dJ:Option Addr}{nJ:Nat}{sJ:Array (Option Value)}{tj0 tj1:Tok}{tM:Tok}{tR:Tok}(mc_Row:mI9 mg "Row" c_Row)(mc_Piece:mI9 mg "Piece" c_Piece)(mc_Push:mI9 mg "Push" c_Push)(mc_Hold:mI9 mg "Hold" c_Hold)(mc_Net:mI9 mg "Net" c_Net)(mc_Answer:mI9 mg "Answer" c_Answer)(m1:mI9 mg "is_whole" f1)(F1:aV K "is_whole" "is_whole" Dv .none f1 d1)(m2:mI9 mg "greatest_common" f2)(F2:aV K "greatest_common" "greatest_common" sGc .none f2 d2)(m3:mI9 mg "under" f3)(F3:aV K "under" "under" Cw .none f3 d3)(m4:mI9 mg "fraction" f4)(l4:K.lookup f4=some ⟨oc4,od4,.func (W.fnOf "fraction" "fraction" (eU kX) (cQ kX) (aH kX) (.ref T4) kV4 dc4 pm4 an4 cd4 ct4),sl4⟩)(c4:W.codeIn K cd4 "fraction"=true)(k4:kI9 K f4)(lt4:K.lookup T4=some ⟨oT4,dT4,.seq #[.int 1 tk4] nT4,sT4⟩)(m5:mI9 mg "minus" f5)(F5:aV K "minus" "minus" Ex .none f5 d5)(m6:mI9 mg "plus" f6)(F6:aV K "plus" "plus" Ku .none f6 d6)(m7:mI9 mg "over" f7)(F7:aV K "over" "over" Md .none f7 d7)(m8:mI9 mg "times" f8)(F8:aV K "times" "times" Fd .none f8 d8)(m9:mI9 mg "is_fraction" f9)(F9:aV K "is_fraction" "is_fraction" Xb .none f9 d9)(a10_0:W.findIn K (.ref c_Piece) "__init__"=some (some (.ref f10)))(a10_1:W.findIn K (.ref c_Push) "__init__"=some (some (.ref f10)))(a10_2:W.findIn K (.ref c_Hold) "__init__"=some (some (.ref f10)))(i10:W.isFn K (.ref f10)=true)(F10:aV K "__init__" "Row.__init__" Ci .none f10 d10)(a11_0:W.findIn K (.ref c_Piece) "word"=some (some (.ref f11)))(i11:W.isFn K (.ref f11)=true)(F11:aV K "word" "Piece.word" tZ .none f11 d11)(a12_0:W.findIn K (.ref c_Push) "word"=some (some (.ref f12)))(i12:W.isFn K (.ref f12)=true)(F12:aV K "word" "Push.word" tV .none f12 d12)(a13_0:W.findIn K (.ref c_Hold) "word"=some (some (.ref f13)))(i13:W.isFn K (.ref f13)=true)(F13:aV K "word" "Hold.word" sX .none f13 d13)(a14_0:W.findIn K (.ref c_Piece) "joins"=some (some (.ref f14)))(i14:W.isFn K (.ref f14)=true)(F14:aV K "joins" "Piece.joins" pT .none f14 d14)(a15_0:W.findIn K (.ref c_Push) "joins"=some (some (.ref f15)))(i15:W.isFn K (.ref f15)=true)(F15:aV K "joins" "Push.joins" pW .none f15 d15)(a16_0:W.findIn K (.ref c_Hold) "joins"=some (some (.ref f16)))(i16:W.isFn K (.ref f16)=true)(F16:aV K "joins" "Hold.joins" pV .none f16 d16)(a17_0:W.findIn K (.ref c_Piece) "told"=some (some (.ref f17)))(a17_1:W.findIn K (.ref c_Push) "told"=some (some (.ref f17)))(a17_2:W.findIn K (.ref c_Hold) "told"=some (some (.ref f17)))(i17:W.isFn K (.ref f17)=true)(F17:aV K "told" "Row.told" Cl .none f17 d17)(m18:mI9 mg "row_of" f18)(F18:aV K "row_of" "row_of" Fc .none f18 d18)(a19_0:W.findIn K (.ref c_Piece) "stream"=some (some (.ref f19)))(i19:W.isFn K (.ref f19)=true)(F19:aV K "stream" "Piece.stream" oC .none f19 d19)(a20_0:W.findIn K (.ref c_Push) "stream"=some (some (.ref f20)))(i20:W.isFn K (.ref f20)=true)(F20:aV K "stream" "Push.stream" oA .none f20 d20)(a21_0:W.findIn K (.ref c_Hold) "stream"=some (some (.ref f21)))(i21:W.isFn K (.ref f21)=true)(F21:aV K "stream" "Hold.stream" nX .none f21 d21)(m22:mI9 mg "is_piece_size" f22)(F22:aV K "is_piece_size" "is_piece_size" sPS .none f22 d22)(m23:mI9 mg "is_number_below" f23)(F23:aV K "is_number_below" "is_number_below" sNB .none f23 d23)(m24:mI9 mg "refuse_size" f24)(F24:aV K "refuse_size" "refuse_size" sRS .none f24 d24)(m25:mI9 mg "refuse_points" f25)(F25:aV K "refuse_points" "refuse_points" sRP .none f25 d25)(m26:mI9 mg "refuse_number" f26)(F26:aV K "refuse_number" "refuse_number" sRN .none f26 d26)(a27_0:W.findIn K (.ref c_Net) "__init__"=some (some (.ref f27)))(i27:W.isFn K (.ref f27)=true)(F27:aV K "__init__" "Net.__init__" Db .none f27 d27)(a28_0:W.findIn K (.ref c_Net) "many"=some (some (.ref f28)))(i28:W.isFn K (.ref f28)=true)(F28:aV K "many" "Net.many" Oo .none f28 d28)(a29_0:W.findIn K (.ref c_Net) "add"=some (some (.ref f29)))(i29:W.isFn K (.ref f29)=true)(F29:aV K "add" "Net.add" Ze .none f29 d29)(a30_0:W.findIn K (.ref c_Net) "change"=some (some (.ref f30)))(i30:W.isFn K (.ref f30)=true)(F30:aV K "change" "Net.change" zO .none f30 d30)(a31_0:W.findIn K (.ref c_Net) "rows"=some (some (.ref f31)))(i31:W.isFn K (.ref f31)=true)(F31:aV K "rows" "Net.rows" Of .none f31 d31)(m32:mI9 mg "fall_of" f32)(F32:aV K "fall_of" "fall_of" Nz .none f32 d32)(m33:mI9 mg "joined" f33)(F33:aV K "joined" "joined" yV .none f33 d33)(m34:mI9 mg "marks_of" f34)(F34:aV K "marks_of" "marks_of" Cs .none f34 d34)(m35:mI9 mg "floating" f35)(F35:aV K "floating" "floating" Ed .none f35 d35)(m36:mI9 mg "steps_from" f36)(F36:aV K "steps_from" "steps_from" Dk .none f36 d36)(m37:mI9 mg "way_along" f37)(F37:aV K "way_along" "way_along" Xq .none f37 d37)(m38:mI9 mg "rings" f38)(l38:K.lookup f38=some ⟨oc38,od38,.func (W.fnOf "rings" "rings" (eU iG) (cQ iG) (aH iG) (.ref T38) kV38 dc38 pm38 an38 cd38 ct38),sl38⟩)(c38:W.codeIn K cd38 "rings"=true)(k38:kI9 K f38)(lt38:K.lookup T38=some ⟨oT38,dT38,.seq #[.none] nT38,sT38⟩)(m39:mI9 mg "raise_at" f39)(F39:aV K "raise_at" "raise_at" Cu .none f39 d39)(m40:mI9 mg "enter_stream" f40)(F40:aV K "enter_stream" "enter_stream" Do .none f40 d40)(m41:mI9 mg "enter_piece" f41)(F41:aV K "enter_piece" "enter_piece" yJ .none f41 d41)(m42:mI9 mg "enter_push" f42)(F42:aV K "enter_push" "enter_push" yC .none f42 d42)(m43:mI9 mg "enter_hold" f43)(F43:aV K "enter_hold" "enter_hold" xH .none f43 d43)(m44:mI9 mg "equations" f44)(F44:aV K "equations" "equations" Xt .none f44 d44)(m45:mI9 mg "in_wholes" f45)(F45:aV K "in_wholes" "in_wholes" sIW .none f45 d45)(m46:mI9 mg "pivot_place" f46)(F46:aV K "pivot_place" "pivot_place" Zf .none f46 d46)(m47:mI9 mg "cleared" f47)(F47:aV K "cleared" "cleared" Ys .none f47 d47)(m48:mI9 mg "cleared_rows" f48)(F48:aV K "cleared_rows" "cleared_rows" rR .none f48 d48)(m49:mI9 mg "eliminated" f49)(F49:aV K "eliminated" "eliminated" Pu .none f49 d49)(m50:mI9 mg "solved" f50)(F50:aV K "solved" "solved" xV .none f50 d50)(m51:mI9 mg "refuse_unanswered" f51)(F51:aV K "refuse_unanswered" "refuse_unanswered" Yb .none f51 d51)(m52:mI9 mg "flows_of" f52)(F52:aV K "flows_of" "flows_of" Eb .none f52 d52)(a53_0:W.findIn K (.ref c_Answer) "__init__"=some (some (.ref f53)))(i53:W.isFn K (.ref f53)=true)(F53:aV K "__init__" "Answer.__init__" Cq .none f53 d53)(a54_0:W.findIn K (.ref c_Answer) "heights"=some (some (.ref f54)))(i54:W.isFn K (.ref f54)=true)(F54:aV K "heights" "Answer.heights" Pe .none f54 d54)(a55_0:W.findIn K (.ref c_Answer) "streams"=some (some (.ref f55)))(i55:W.isFn K (.ref f55)=true)(F55:aV K "streams" "Answer.streams" Ma .none f55 d55)(a56_0:W.findIn K (.ref c_Net) "copy"=some (some (.ref f56)))(i56:W.isFn K (.ref f56)=true)(F56:aV K "copy" "Net.copy" Ll .none f56 d56)(m57:mI9 mg "total" f57)(F57:aV K "total" "total" Ey .none f57 d57)(m58:mI9 mg "rows_of" f58)(F58:aV K "rows_of" "rows_of" zM .none f58 d58)(m59:mI9 mg "with_streams" f59)(F59:aV K "with_streams" "with_streams" De .none f59 d59)(m60:mI9 mg "waste" f60)(F60:aV K "waste" "waste" Du .none f60 d60)(m61:mI9 mg "held_total" f61)(F61:aV K "held_total" "held_total" Ml .none f61 d61)(m62:mI9 mg "pushed_total" f62)(F62:aV K "pushed_total" "pushed_total" Dr .none f62 d62)(m63:mI9 mg "supplied" f63)(F63:aV K "supplied" "supplied" Wy .none f63 d63)(m64:mI9 mg "_law_draw" f64)(F64:aV K "_law_draw" "_law_draw" Mm .none f64 d64)(m65:mI9 mg "_law_mix" f65)(F65:aV K "_law_mix" "_law_mix" xY .none f65 d65)(m66:mI9 mg "_law_part" f66)(F66:aV K "_law_part" "_law_part" Py .none f66 d66)(m67:mI9 mg "_law_far" f67)(F67:aV K "_law_far" "_law_far" Zh .none f67 d67)(m68:mI9 mg "_law_lowest" f68)(F68:aV K "_law_lowest" "_law_lowest" yK .none f68 d68)(m69:mI9 mg "_law_plus" f69)(F69:aV K "_law_plus" "_law_plus" Di .none f69 d69)(m70:mI9 mg "_law_less" f70)(F70:aV K "_law_less" "_law_less" Er .none f70 d70)(m71:mI9 mg "_law_times" f71)(F71:aV K "_law_times" "_law_times" xW .none f71 d71)(m72:mI9 mg "_law_by" f72)(F72:aV K "_law_by" "_law_by" Xl .none f72 d72)(m73:mI9 mg "_law_number" f73)(F73:aV K "_law_number" "_law_number" yD .none f73 d73)(m74:mI9 mg "_law_size" f74)(F74:aV K "_law_size" "_law_size" Nr .none f74 d74)(m75:mI9 mg "_law_told" f75)(F75:aV K "_law_told" "_law_told" Qu .none f75 d75)(m76:mI9 mg "_law_net" f76)(F76:aV K "_law_net" "_law_net" El .none f76 d76)(m77:mI9 mg "_law_put" f77)(F77:aV K "_law_put" "_law_put" Xr .none f77 d77)(m78:mI9 mg "_law_balanced" f78)(F78:aV K "_law_balanced" "_law_balanced" Mj .none f78 d78)(m79:mI9 mg "_law_answered" f79)(F79:aV K "_law_answered" "_law_answered" Nm .none f79 d79)(m80:mI9 mg "_law_fall" f80)(F80:aV K "_law_fall" "_law_fall" Ch .none f80 d80)(m81:mI9 mg "_law_waste" f81)(F81:aV K "_law_waste" "_law_waste" Xz .none f81 d81)(m82:mI9 mg "_law_sources" f82)(F82:aV K "_law_sources" "_law_sources" Yj .none f82 d82)(m83:mI9 mg "law" f83)(l83:K.lookup f83=some ⟨oc83,od83,.func (W.fnOf "law" "law" (eU xM) (cQ xM) (aH xM) .none kV83 dc83 pm83 an83 cd83 ct83),sl83⟩)(c83:W.codeIn K cd83 "law"=true)(k83:kI9 K f83)(mv_ONE:mI9 mg "ONE" aO)(mv_NOUGHT:mI9 mg "NOUGHT" aN)(mv_JOINING_WORDS:mI9 mg "JOINING_WORDS" aJ)(mv_MOST_POINTS:mg "MOST_POINTS"=some (.int 20 tM))(mv_MOST_ROWS:mg "MOST_ROWS"=some (.int 40 tR))(lO:K.lookup aO=some ⟨.type "tuple",dO,.seq #[.int 1 t2,.int 1 t3] nO,sO⟩)(lN:K.lookup aN=some ⟨.type "tuple",dN,.seq #[.int 0 t0,.int 1 t1] nN,sN⟩)(lJ:K.lookup aJ=some ⟨.type "tuple",dJ,.seq #[.str "piece" tj0,.str "hold" tj1] nJ,sJ⟩)(pg_Piece:W.plainGet K c_Piece Str.empty=true)(hd_Piece:W.hasDictIn K c_Piece=true)(po_Piece:W.plainOver K c_Piece=true)(sa_Piece:W.findIn K (.ref c_Piece) "__setattr__"=some (some (.builtin "object.__setattr__")))(mk_Piece:W.makesIn K c_Piece=true)(kc_Piece:kI9 K c_Piece)(t1_Piece:W.findIn K (.ref c_Piece) "__class__"=some (some (.builtin "object.__class__")))(t4_Piece:W.mroIn K c_Piece (.type "object")=some true)(na_Piece_start:W.findIn K (.ref c_Piece) "start"=some none)(na_Piece_goal:W.findIn K (.ref c_Piece) "goal"=some none)(na_Piece_size:W.findIn K (.ref c_Piece) "size"=some none)(pg_Push:W.plainGet K c_Push Str.empty=true)(hd_Push:W.hasDictIn K c_Push=true)(po_Push:W.plainOver K c_Push=true)(sa_Push:W.findIn K (.ref c_Push) "__setattr__"=some (some (.builtin "object.__setattr__")))(mk_Push:W.makesIn K c_Push=true)(kc_Push:kI9 K c_Push)(t1_Push:W.findIn K (.ref c_Push) "__class__"=some (some (.builtin "object.__class__")))(t4_Push:W.mroIn K c_Push (.type "object")=some true)(na_Push_start:W.findIn K (.ref c_Push) "start"=some none)(na_Push_goal:W.findIn K (.ref c_Push) "goal"=some none)(na_Push_size:W.findIn K (.ref c_Push) "size"=some none)(pg_Hold:W.plainGet K c_Hold Str.empty=true)(hd_Hold:W.hasDictIn K c_Hold=true)(po_Hold:W.plainOver K c_Hold=true)(sa_Hold:W.findIn K (.ref c_Hold) "__setattr__"=some (some (.builtin "object.__setattr__")))(mk_Hold:W.makesIn K c_Hold=true)(kc_Hold:kI9 K c_Hold)(t1_Hold:W.findIn K (.ref c_Hold) "__class__"=some (some (.builtin "object.__class__")))(t4_Hold:W.mroIn K c_Hold (.type "object")=some true)(na_Hold_start:W.findIn K (.ref c_Hold) "start"=some none)(na_Hold_goal:W.findIn K (.ref c_Hold) "goal"=some none)(na_Hold_size:W.findIn K (.ref c_Hold) "size"=some none)(tt2:W.specialIn K (.builtin "object.__class__") "__get__"=some (some (.builtin "getset_descriptor.__get__")))(tt3:W.takesIn K (.builtin "object.__class__")=some true)(isR_Piece:W.kitOne K (.ref c_Piece) (.ref c_Row)=some true)(isR_Push:W.kitOne K (.ref c_Push) (.ref c_Row)=some true)(isR_Hold:W.kitOne K (.ref c_Hold) (.ref c_Row)=some true)(isK_Piece_Push:W.kitOne K (.ref c_Piece) (.ref c_Push)=some false)(isK_Piece_Hold:W.kitOne K (.ref c_Piece) (.ref c_Hold)=some false)(isK_Push_Piece:W.kitOne K (.ref c_Push) (.ref c_Piece)=some false)(isK_Push_Hold:W.kitOne K (.ref c_Push) (.ref c_Hold)=some false)(isK_Hold_Piece:W.kitOne K (.ref c_Hold) (.ref c_Piece)=some false)(isK_Hold_Push:W.kitOne K (.ref c_Hold) (.ref c_Push)=some false)(pg_Net:W.plainGet K c_Net Str.empty=true)(hd_Net:W.hasDictIn K c_Net=true)(po_Net:W.plainOver K c_Net=true)(sa_Net:W.findIn K (.ref c_Net) "__setattr__"=some (some (.builtin "object.__setattr__")))(mk_Net:W.makesIn K c_Net=true)(kc_Net:kI9 K c_Net)(t1_Net:W.findIn K (.ref c_Net) "__class__"=some (some (.builtin "object.__class__")))(t4_Net:W.mroIn K c_Net (.type "object")=some true)(na_Net_point_count:W.findIn K (.ref c_Net) "point_count"=some none)(na_Net_kept:W.findIn K (.ref c_Net) "kept"=some none)(pg_Answer:W.plainGet K c_Answer Str.empty=true)(hd_Answer:W.hasDictIn K c_Answer=true)(po_Answer:W.plainOver K c_Answer=true)(sa_Answer:W.findIn K (.ref c_Answer) "__setattr__"=some (some (.builtin "object.__setattr__")))(mk_Answer:W.makesIn K c_Answer=true)(kc_Answer:kI9 K c_Answer)(t1_Answer:W.findIn K (.ref c_Answer) "__class__"=some (some (.builtin "object.__class__")))(t4_Answer:W.mroIn K c_Answer (.type "object")=some true)(na_Answer_lines:W.findIn K (.ref c_Answer) "lines"=some none)(na_Answer_levels:W.findIn K (.ref c_Answer) "levels"=some none)(na_Answer_flows:W.findIn K (.ref c_Answer) "flows"=some none)(n_isinstance:mg "isinstance"=none)(n_int:mg "int"=none)(n_bool:mg "bool"=none)(n_abs:mg "abs"=none)(n_len:mg "len"=none)(n_range:mg "range"=none)(n_str:mg "str"=none)(n_tuple:mg "tuple"=none)(n_list:mg "list"=none)(n_all:mg "all"=none)(n_zip:mg "zip"=none)(n_enumerate:mg "enumerate"=none) :
  ∃fd:FuncData,(∀(s:Shared) (v:Value),BindsTo s fd ⟨[v],[]⟩ [("_law_script",v)])/\∀base:Heap,K.In base->base.Ns mainGlobals mg->aL l.prog w K mg base CX0 11 fa fd ["_law_script"] (Gp K):=by
 have e:=hfa.symm.trans m83
 cases e
 have b1:=F1.b1 "thing" (by intros;rfl);have b2:=F2.b2 "one" "other" (by intros;rfl);have b3:=F3.b2 "one" "other" (by intros;rfl);have F4:=rA (st:=kX) l4 c4 k4;have b4:aM K _ ["top","bottom"] []:=fun s us XX hl=>match us,hl with | [_,_],_=>W.binds_K (fd:=W.fnOf "fraction" "fraction" (eU kX) (cQ kX) (aH kX) (.ref T4) kV4 dc4 pm4 an4 cd4 ct4) XX rfl lt4 rfl rfl rfl
 have bd4:aM K _ ["top","bottom"] [.int 1 tk4]:=fun s us XX hl=>match us,(show us.length=1 by simp at hl;lia) with | [_],_=>W.binds_K (fd:=W.fnOf "fraction" "fraction" (eU kX) (cQ kX) (aH kX) (.ref T4) kV4 dc4 pm4 an4 cd4 ct4) XX rfl lt4 rfl rfl rfl
 have b5:=F5.b2 "one" "other" (by intros;rfl);have b6:=F6.b2 "one" "other" (by intros;rfl);have b7:=F7.b2 "one" "other" (by intros;rfl);have b8:=F8.b2 "one" "other" (by intros;rfl);have b9:=F9.b1 "thing" (by intros;rfl);have b10:=F10.b4 "self" "start" "goal" "size" (by intros;rfl);have b11:=F11.b1 "self" (by intros;rfl);have b12:=F12.b1 "self" (by intros;rfl);have b13:=F13.b1 "self" (by intros;rfl);have b14:=F14.b1 "self" (by intros;rfl);have b15:=F15.b1 "self" (by intros;rfl);have b16:=F16.b1 "self" (by intros;rfl);have b17:=F17.b1 "self" (by intros;rfl);have b18:=F18.b1 "told" (by intros;rfl);have b19:=F19.b3 "self" "fall" "held" (by intros;rfl);have b20:=F20.b3 "self" "fall" "held" (by intros;rfl);have b21:=F21.b3 "self" "fall" "held" (by intros;rfl);have b22:=F22.b1 "thing" (by intros;rfl);have b23:=F23.b2 "thing" "bound" (by intros;rfl);have b24:=F24.b2 "word" "size" (by intros;rfl);have b25:=F25.b2 "some" "many" (by intros;rfl);have b26:=F26.b2 "k" "count" (by intros;rfl);have b27:=F27.b2 "self" "many" (by intros;rfl);have b28:=F28.b1 "self" (by intros;rfl);have b29:=F29.b2 "self" "row" (by intros;rfl);have b30:=F30.b3 "self" "k" "size" (by intros;rfl);have b31:=F31.b1 "self" (by intros;rfl);have b32:=F32.b2 "row" "heights" (by intros;rfl);have b33:=F33.b2 "marks" "row" (by intros;rfl);have b34:=F34.b1 "net" (by intros;rfl);have b35:=F35.b1 "net" (by intros;rfl);have b36:=F36.b3 "rows" "numbers" "point" (by intros;rfl);have b37:=F37.b4 "rows" "numbers" "begin" "end" (by intros;rfl);have F38:=rA (st:=iG) l38 c38 k38;have b38:aM K _ ["net","words"] []:=fun s us XX hl=>match us,hl with | [_,_],_=>W.binds_K (fd:=W.fnOf "rings" "rings" (eU iG) (cQ iG) (aH iG) (.ref T38) kV38 dc38 pm38 an38 cd38 ct38) XX rfl lt38 rfl rfl rfl
 have bd38:aM K _ ["net","words"] [.none]:=fun s us XX hl=>match us,(show us.length=1 by simp at hl;lia) with | [_],_=>W.binds_K (fd:=W.fnOf "rings" "rings" (eU iG) (cQ iG) (aH iG) (.ref T38) kV38 dc38 pm38 an38 cd38 ct38) XX rfl lt38 rfl rfl rfl
 have b39:=F39.b3 "line" "column" "amount" (by intros;rfl);have b40:=F40.b4 "matrix" "row" "column" "amount" (by intros;rfl);have b41:=F41.b2 "matrix" "row" (by intros;rfl);have b42:=F42.b2 "right" "row" (by intros;rfl);have b43:=F43.b4 "matrix" "right" "row" "column" (by intros;rfl);have b44:=F44.b1 "net" (by intros;rfl);have b45:=F45.b1 "some" (by intros;rfl);have b46:=F46.b3 "rows" "rank" "column" (by intros;rfl);have b47:=F47.b4 "row" "upper" "column" "divisor" (by intros;rfl);have b48:=F48.b4 "rows" "rank" "column" "divisor" (by intros;rfl);have b49:=F49.b2 "rows" "width" (by intros;rfl);have b50:=F50.b2 "matrix" "right" (by intros;rfl);have b51:=F51.b1 "net" (by intros;rfl);have b52:=F52.b3 "rows" "levels" "held" (by intros;rfl);have b53:=F53.b2 "self" "net" (by intros;rfl);have b54:=F54.b1 "self" (by intros;rfl);have b55:=F55.b1 "self" (by intros;rfl);have b56:=F56.b1 "self" (by intros;rfl);have b57:=F57.b1 "some" (by intros;rfl);have b58:=F58.b2 "net" "word" (by intros;rfl);have b59:=F59.b3 "net" "word" "streams" (by intros;rfl);have b60:=F60.b2 "net" "streams" (by intros;rfl);have b61:=F61.b2 "net" "streams" (by intros;rfl);have b62:=F62.b2 "net" "heights" (by intros;rfl);have b63:=F63.b1 "net" (by intros;rfl);have b64:=F64.b2 "_law_script" "_law_k" (by intros;rfl);have b65:=F65.b3 "_law_cell" "_law_turn" "_law_many" (by intros;rfl);have b66:=F66.b2 "_law_cell" "_law_k" (by intros;rfl);have b67:=F67.b2 "_law_cell" "_law_turn" (by intros;rfl);have b68:=F68.b2 "_law_top" "_law_bottom" (by intros;rfl);have b69:=F69.b2 "_law_one" "_law_other" (by intros;rfl);have b70:=F70.b2 "_law_one" "_law_other" (by intros;rfl);have b71:=F71.b2 "_law_one" "_law_other" (by intros;rfl);have b72:=F72.b2 "_law_one" "_law_other" (by intros;rfl);have b73:=F73.b2 "_law_cell" "_law_turn" (by intros;rfl);have b74:=F74.b1 "_law_cell" (by intros;rfl);have b75:=F75.b2 "_law_found" "_law_due" (by intros;rfl);have b76:=F76.b2 "_law_many" "_law_rows" (by intros;rfl);have b77:=F77.b4 "_law_net_here" "_law_cell" "_law_word" "_law_ends" (by intros;rfl);have b78:=F78.b2 "_law_net_here" "_law_cell" (by intros;rfl);have b79:=F79.b3 "_law_script" "_law_many" "_law_most" (by intros;rfl);have b80:=F80.b2 "_law_row" "_law_heights" (by intros;rfl);have b81:=F81.b2 "_law_rows" "_law_streams" (by intros;rfl);have b82:=F82.b3 "_law_rows" "_law_streams" "_law_heights" (by intros;rfl);have F83:=rA (st:=xM) l83 c83 k83;refine⟨W.fnOf "law" "law" (eU xM) (cQ xM) (aH xM) .none kV83 dc83 pm83 an83 cd83 ct83,fun s v=>.of_eq rfl,fun base _ _=>?_⟩;have bl:Bl mg:=⟨n_isinstance,n_int,n_bool,n_abs⟩
 have T:RT K mg c_Row (kd3 c_Piece c_Push c_Hold):=⟨jA ⟨pg_Piece,hd_Piece,po_Piece,sa_Piece⟩ ⟨pg_Push,hd_Push,po_Push,sa_Push⟩ ⟨pg_Hold,hd_Hold,po_Hold,sa_Hold⟩,jA na_Piece_start na_Push_start na_Hold_start,jA na_Piece_goal na_Push_goal na_Hold_goal,jA na_Piece_size na_Push_size na_Hold_size,jA t1_Piece t1_Push t1_Hold,tt2,tt3,jA t4_Piece t4_Push t4_Hold,jA isR_Piece isR_Push isR_Hold,jA (jA (rV _ _) isK_Piece_Push isK_Piece_Hold) (jA isK_Push_Piece (rV _ _) isK_Push_Hold) (jA isK_Hold_Piece isK_Hold_Push (rV _ _)),mc_Row,jA mc_Piece mc_Push mc_Hold⟩
 have fN:∀H,Fq K H aN (0,1):=Fq.mod lN;have fO:∀H,Fq K H aO (1,1):=Fq.mod lO;have fJ:∀H,SqT K H aJ [.str "piece",.str "hold"]:=fun H=>.inr ⟨_,_,_,lJ,rfl,rfl,(zl9 2),.cons ⟨_,rfl⟩ (.cons ⟨_,rfl⟩ .nil)⟩;have NTx:NT K mg c_Net:=⟨⟨pg_Net,hd_Net,po_Net,sa_Net⟩,na_Net_point_count,na_Net_kept,t1_Net,tt2,tt3,t4_Net,mc_Net⟩
 have ABx:AB K mg c_Answer:=⟨⟨pg_Answer,hd_Answer,po_Answer,sa_Answer⟩,na_Answer_lines,na_Answer_levels,na_Answer_flows,mc_Answer⟩
 have R1:=Qq (P:=l.prog) (w:=w) (K:=K) (mg:=mg) (base:=base) (CX:=CX0) F1 bl;have R2:=qb1 (P:=l.prog) (w:=w) (K:=K) (mg:=mg) (base:=base) (CX:=CX0) F2 bl;have R3:=Mt (P:=l.prog) (w:=w) (K:=K) (mg:=mg) (base:=base) (CX:=CX0) F3;have R4:=Tl (P:=l.prog) (w:=w) (K:=K) (mg:=mg) (base:=base) (CX:=CX0) F4  R1 b1 F1.kp m1 R2 b2 F2.kp m2;have R5:=Qs (P:=l.prog) (w:=w) (K:=K) (mg:=mg) (base:=base) (CX:=CX0) F5  R4 b4 F4.kp m4;have R6:=Rz (P:=l.prog) (w:=w) (K:=K) (mg:=mg) (base:=base) (CX:=CX0) F6  R4 b4 F4.kp m4;have R7:=Uj (P:=l.prog) (w:=w) (K:=K) (mg:=mg) (base:=base) (CX:=CX0) F7  R4 b4 F4.kp m4;have R8:=Lb (P:=l.prog) (w:=w) (K:=K) (mg:=mg) (base:=base) (CX:=CX0) F8  R4 b4 F4.kp m4;have R9:=Xe (P:=l.prog) (w:=w) (K:=K) (mg:=mg) (base:=base) (CX:=CX0) F9 bl n_len n_tuple R1 b1 F1.kp m1 R2 b2 F2.kp m2;have R10:=Ks (P:=l.prog) (w:=w) (K:=K) (mg:=mg) (base:=base) (CX:=CX0) F10 T;have R11:=Ej (P:=l.prog) (w:=w) (K:=K) (mg:=mg) (base:=base) (CX:=CX0) F11;have R12:=Ew (P:=l.prog) (w:=w) (K:=K) (mg:=mg) (base:=base) (CX:=CX0) F12;have R13:=Eo (P:=l.prog) (w:=w) (K:=K) (mg:=mg) (base:=base) (CX:=CX0) F13;have GW:∀k,aL l.prog w K mg base CX0 1 (kd3 f11 f12 f13 k) (kd3 _ _ _ k) ["self"] (jL k):=jA (R11) (R12) (R13);have bW:∀k,aM K (kd3 _ _ _ k) ["self"] []:=jA (b11) (b12) (b13);have mW:∀k,gE K (kd3 c_Piece c_Push c_Hold k) "word" (kd3 f11 f12 f13 k):=jA (⟨a11_0,i11,F11.kp⟩) (⟨a12_0,i12,F12.kp⟩) (⟨a13_0,i13,F13.kp⟩);have R14:=Aj (P:=l.prog) (w:=w) (K:=K) (mg:=mg) (base:=base) (CX:=CX0) F14;have R15:=Ap (P:=l.prog) (w:=w) (K:=K) (mg:=mg) (base:=base) (CX:=CX0) F15;have R16:=Bb (P:=l.prog) (w:=w) (K:=K) (mg:=mg) (base:=base) (CX:=CX0) F16;have GJ:∀k,aL l.prog w K mg base CX0 1 (kd3 f14 f15 f16 k) (kd3 _ _ _ k) ["self"] (pD k):=jA (R14) (R15) (R16);have bJ:∀k,aM K (kd3 _ _ _ k) ["self"] []:=jA (b14) (b15) (b16);have mJ:∀k,gE K (kd3 c_Piece c_Push c_Hold k) "joins" (kd3 f14 f15 f16 k):=jA (⟨a14_0,i14,F14.kp⟩) (⟨a15_0,i15,F15.kp⟩) (⟨a16_0,i16,F16.kp⟩);have R17:=Pq (P:=l.prog) (w:=w) (K:=K) (mg:=mg) (base:=base) (CX:=CX0) F17 T GW bW mW;have mT:∀k,gE K (kd3 c_Piece c_Push c_Hold k) "told" f17:=jA (⟨a17_0,i17,F17.kp⟩) (⟨a17_1,i17,F17.kp⟩) (⟨a17_2,i17,F17.kp⟩);have MK:∀k,Mk K (kd3 c_Piece c_Push c_Hold k) f10:=jA (⟨mk_Piece,a10_0,i10,kc_Piece⟩) (⟨mk_Push,a10_1,i10,kc_Push⟩) (⟨mk_Hold,a10_2,i10,kc_Hold⟩);have R18:=Ql (P:=l.prog) (w:=w) (K:=K) (mg:=mg) (base:=base) (CX:=CX0) F18 T bl n_str R10 b10 MK;have R19:=xJ (P:=l.prog) (w:=w) (K:=K) (mg:=mg) (base:=base) (CX:=CX0) F19 T R7 b7 F7.kp m7;have R20:=yO (P:=l.prog) (w:=w) (K:=K) (mg:=mg) (base:=base) (CX:=CX0) F20 T;have R21:=zG (P:=l.prog) (w:=w) (K:=K) (mg:=mg) (base:=base) (CX:=CX0) F21 T;have GS:∀k,aL l.prog w K mg base CX0 4 (kd3 f19 f20 f21 k) (kd3 _ _ _ k) ["self","fall","held"] (tP K (kd3 c_Piece c_Push c_Hold) k):=jA (R19) (R20) (R21);have bS:∀k,aM K (kd3 _ _ _ k) ["self","fall","held"] []:=jA (b19) (b20) (b21);have mS:∀k,gE K (kd3 c_Piece c_Push c_Hold k) "stream" (kd3 f19 f20 f21 k):=jA (⟨a19_0,i19,F19.kp⟩) (⟨a20_0,i20,F20.kp⟩) (⟨a21_0,i21,F21.kp⟩);have R22:=Zu (P:=l.prog) (w:=w) (K:=K) (mg:=mg) (base:=base) (CX:=CX0) F22 fN mv_NOUGHT (Bk R9) b9 F9.kp m9 R3 b3 F3.kp m3;have R23:=qe5 (P:=l.prog) (w:=w) (K:=K) (mg:=mg) (base:=base) (CX:=CX0) F23  R1 b1 F1.kp m1;have R24:=qd9 (P:=l.prog) (w:=w) (K:=K) (mg:=mg) (base:=base) (CX:=CX0) F24 (Bk R9) b9 F9.kp m9 R22 b22 F22.kp m22;have R25:=qc8 (P:=l.prog) (w:=w) (K:=K) (mg:=mg) (base:=base) (CX:=CX0) F25 n_all R23 b23 F23.kp m23;have R26:=qd6 (P:=l.prog) (w:=w) (K:=K) (mg:=mg) (base:=base) (CX:=CX0) F26  R23 b23 F23.kp m23;have R27:=Oi (P:=l.prog) (w:=w) (K:=K) (mg:=mg) (base:=base) (CX:=CX0) F27 NTx mv_MOST_POINTS R1 b1 F1.kp m1;have R28:=Ui (P:=l.prog) (w:=w) (K:=K) (mg:=mg) (base:=base) (CX:=CX0) F28 NTx;have R29:=Yz (P:=l.prog) (w:=w) (K:=K) (mg:=mg) (base:=base) (CX:=CX0) F29 NTx mv_MOST_ROWS n_len T R17 b17 mT R25 b25 F25.kp m25 R24 b24 F24.kp m24;have R30:=Jz (P:=l.prog) (w:=w) (K:=K) (mg:=mg) (base:=base) (CX:=CX0) F30 NTx n_len R26 b26 F26.kp m26 R24 b24 F24.kp m24;have R31:=Rl (P:=l.prog) (w:=w) (K:=K) (mg:=mg) (base:=base) (CX:=CX0) F31 NTx R18 b18 F18.kp m18;have MN:Mk K c_Net f27:=⟨mk_Net,a27_0,i27,kc_Net⟩
 have R32:=Rt (P:=l.prog) (w:=w) (K:=K) (mg:=mg) (base:=base) (CX:=CX0) F32 T R5 b5 F5.kp m5;have R33:=Ik (P:=l.prog) (w:=w) (K:=K) (mg:=mg) (base:=base) (CX:=CX0) F33 T;have R34:=Nv (P:=l.prog) (w:=w) (K:=K) (mg:=mg) (base:=base) (CX:=CX0) F34 n_list n_range NTx T GJ bJ mJ R28 b28 ⟨a28_0,i28,F28.kp⟩ R31 b31 ⟨a31_0,i31,F31.kp⟩ R33 b33 F33.kp m33;have R35:=Nu (P:=l.prog) (w:=w) (K:=K) (mg:=mg) (base:=base) (CX:=CX0) F35 n_enumerate R34 b34 F34.kp m34;have R36:=Mu (P:=l.prog) (w:=w) (K:=K) (mg:=mg) (base:=base) (CX:=CX0) F36 T;have R37:=Yd (P:=l.prog) (w:=w) (K:=K) (mg:=mg) (base:=base) (CX:=CX0) F37 n_len R36 b36 F36.kp m36;have R38:=Mn (P:=l.prog) (w:=w) (K:=K) (mg:=mg) (base:=base) (CX:=CX0) F38 NTx T n_enumerate fJ mv_JOINING_WORDS GW bW mW R31 b31 ⟨a31_0,i31,F31.kp⟩ R37 b37 F37.kp m37;have R39:=Qy (P:=l.prog) (w:=w) (K:=K) (mg:=mg) (base:=base) (CX:=CX0) F39  R6 b6 F6.kp m6;have R40:=Pd (P:=l.prog) (w:=w) (K:=K) (mg:=mg) (base:=base) (CX:=CX0) F40 T fN mv_NOUGHT R39 b39 F39.kp m39 R5 b5 F5.kp m5;have R41:=Jh (P:=l.prog) (w:=w) (K:=K) (mg:=mg) (base:=base) (CX:=CX0) F41 T fN mv_NOUGHT fO mv_ONE R7 b7 F7.kp m7 R40 b40 F40.kp m40 R5 b5 F5.kp m5;have R42:=Jw (P:=l.prog) (w:=w) (K:=K) (mg:=mg) (base:=base) (CX:=CX0) F42 T fN mv_NOUGHT R39 b39 F39.kp m39 R5 b5 F5.kp m5;have R43:=Jr (P:=l.prog) (w:=w) (K:=K) (mg:=mg) (base:=base) (CX:=CX0) F43 T fN mv_NOUGHT fO mv_ONE R40 b40 F40.kp m40 R39 b39 F39.kp m39 R5 b5 F5.kp m5;have R44:=Wq (P:=l.prog) (w:=w) (K:=K) (mg:=mg) (base:=base) (CX:=CX0) F44 NTx T n_len n_range fN mv_NOUGHT GW bW mW R31 b31 ⟨a31_0,i31,F31.kp⟩ R28 b28 ⟨a28_0,i28,F28.kp⟩ R41 b41 F41.kp m41 R42 b42 F42.kp m42 R43 b43 F43.kp m43;have R45:=qe6 (P:=l.prog) (w:=w) (K:=K) (mg:=mg) (base:=base) (CX:=CX0) F45  R2 b2 F2.kp m2;have R46:=Wn (P:=l.prog) (w:=w) (K:=K) (mg:=mg) (base:=base) (CX:=CX0) F46 n_len n_range;have R47:=Xu (P:=l.prog) (w:=w) (K:=K) (mg:=mg) (base:=base) (CX:=CX0) F47 n_zip;have R48:=Df (P:=l.prog) (w:=w) (K:=K) (mg:=mg) (base:=base) (CX:=CX0) F48 n_enumerate R47 b47 F47.kp m47;have R49:=Sg (P:=l.prog) (w:=w) (K:=K) (mg:=mg) (base:=base) (CX:=CX0) F49 n_range n_list R46 b46 F46.kp m46 R48 b48 F48.kp m48;have R50:=Je (P:=l.prog) (w:=w) (K:=K) (mg:=mg) (base:=base) (CX:=CX0) F50 n_len n_zip R45 b45 F45.kp m45 R49 b49 F49.kp m49 R4 b4 F4.kp m4;have R51:=Zc (P:=l.prog) (w:=w) (K:=K) (mg:=mg) (base:=base) (CX:=CX0) F51 n_len R38 b38 F38.kp m38 R35 b35 F35.kp m35;have R52:=Kl (P:=l.prog) (w:=w) (K:=K) (mg:=mg) (base:=base) (CX:=CX0) F52 T fN mv_NOUGHT GW bW mW GS bS mS R32 b32 F32.kp m32;have R53:=Ob (P:=l.prog) (w:=w) (K:=K) (mg:=mg) (base:=base) (CX:=CX0) F53 ABx NTx fN mv_NOUGHT R31 b31 ⟨a31_0,i31,F31.kp⟩ R28 b28 ⟨a28_0,i28,F28.kp⟩ R51 b51 F51.kp m51 R44 b44 F44.kp m44 R50 b50 F50.kp m50 R52 b52 F52.kp m52;have MA:Mk K c_Answer f53:=⟨mk_Answer,a53_0,i53,kc_Answer⟩
 have R54:=Sm (P:=l.prog) (w:=w) (K:=K) (mg:=mg) (base:=base) (CX:=CX0) F54 ABx n_list;have R55:=Sb (P:=l.prog) (w:=w) (K:=K) (mg:=mg) (base:=base) (CX:=CX0) F55 ABx n_list;have R56:=Sz (P:=l.prog) (w:=w) (K:=K) (mg:=mg) (base:=base) (CX:=CX0) F56 NTx n_list R27 b27 MN;have R57:=Nl (P:=l.prog) (w:=w) (K:=K) (mg:=mg) (base:=base) (CX:=CX0) F57 fN mv_NOUGHT R6 b6 F6.kp m6;have R58:=Ja (P:=l.prog) (w:=w) (K:=K) (mg:=mg) (base:=base) (CX:=CX0) F58 NTx T GW bW mW R31 b31 ⟨a31_0,i31,F31.kp⟩;have R59:=On (P:=l.prog) (w:=w) (K:=K) (mg:=mg) (base:=base) (CX:=CX0) F59 NTx T n_zip GW bW mW R31 b31 ⟨a31_0,i31,F31.kp⟩;have R60:=Mo (P:=l.prog) (w:=w) (K:=K) (mg:=mg) (base:=base) (CX:=CX0) F60 (CN:=c_Net) T R57 b57 F57.kp m57 R8 b8 F8.kp m8 R59 b59 F59.kp m59;have R61:=Ru (P:=l.prog) (w:=w) (K:=K) (mg:=mg) (base:=base) (CX:=CX0) F61 (CN:=c_Net) T R57 b57 F57.kp m57 R8 b8 F8.kp m8 R59 b59 F59.kp m59;have R62:=Pa (P:=l.prog) (w:=w) (K:=K) (mg:=mg) (base:=base) (CX:=CX0) F62 (CN:=c_Net) T fN mv_NOUGHT R5 b5 F5.kp m5 R57 b57 F57.kp m57 R8 b8 F8.kp m8 R32 b32 F32.kp m32 R58 b58 F58.kp m58;have R63:=Yf (P:=l.prog) (w:=w) (K:=K) (mg:=mg) (base:=base) (CX:=CX0) F63 (CN:=c_Net) ABx R53 b53 MA R54 b54 ⟨a54_0,i54,F54.kp⟩ R55 b55 ⟨a55_0,i55,F55.kp⟩ R5 b5 F5.kp m5 R62 b62 F62.kp m62 R61 b61 F61.kp m61;have R64:=Up (P:=l.prog) (w:=w) (K:=K) (mg:=mg) (base:=base) (CX:=CX0) F64;have R65:=Wj (P:=l.prog) (w:=w) (K:=K) (mg:=mg) (base:=base) (CX:=CX0) F65 n_range;have R66:=Rk (P:=l.prog) (w:=w) (K:=K) (mg:=mg) (base:=base) (CX:=CX0) F66 n_range;have R67:=Xg (P:=l.prog) (w:=w) (K:=K) (mg:=mg) (base:=base) (CX:=CX0) F67 n_range;have R68:=Id (P:=l.prog) (w:=w) (K:=K) (mg:=mg) (base:=base) (CX:=CX0) F68 bl;have R69:=Qa (P:=l.prog) (w:=w) (K:=K) (mg:=mg) (base:=base) (CX:=CX0) F69  R68 b68 F68.kp m68;have R70:=Ko (P:=l.prog) (w:=w) (K:=K) (mg:=mg) (base:=base) (CX:=CX0) F70  R68 b68 F68.kp m68;have R71:=Ib (P:=l.prog) (w:=w) (K:=K) (mg:=mg) (base:=base) (CX:=CX0) F71  R68 b68 F68.kp m68;have R72:=Xs (P:=l.prog) (w:=w) (K:=K) (mg:=mg) (base:=base) (CX:=CX0) F72  R68 b68 F68.kp m68;have R73:=Iz (P:=l.prog) (w:=w) (K:=K) (mg:=mg) (base:=base) (CX:=CX0) F73  R65 b65 F65.kp m65 R67 b67 F67.kp m67 R68 b68 F68.kp m68;have R74:=Rp (P:=l.prog) (w:=w) (K:=K) (mg:=mg) (base:=base) (CX:=CX0) F74  R65 b65 F65.kp m65 R67 b67 F67.kp m67 R68 b68 F68.kp m68;have R75:=Tc (P:=l.prog) (w:=w) (K:=K) (mg:=mg) (base:=base) (CX:=CX0) F75 bl n_len n_tuple;have R76:=Og (P:=l.prog) (w:=w) (K:=K) (mg:=mg) (base:=base) (CX:=CX0) F76 NTx R29 b29 ⟨a29_0,i29,F29.kp⟩ R27 b27 MN R18 b18 F18.kp m18;have R77:=Yv (P:=l.prog) (w:=w) (K:=K) (mg:=mg) (base:=base) (CX:=CX0) F77 n_len R70 b70 F70.kp m70 R73 b73 F73.kp m73 R74 b74 F74.kp m74 R72 b72 F72.kp m72 R65 b65 F65.kp m65;have R78:=Ri (P:=l.prog) (w:=w) (K:=K) (mg:=mg) (base:=base) (CX:=CX0) F78 n_len n_range n_zip R69 b69 F69.kp m69 R70 b70 F70.kp m70 R65 b65 F65.kp m65 R66 b66 F66.kp m66;have R79:=Td (P:=l.prog) (w:=w) (K:=K) (mg:=mg) (base:=base) (CX:=CX0) F79 n_range R64 b64 F64.kp m64 R73 b73 F73.kp m73 R66 b66 F66.kp m66 R70 b70 F70.kp m70 R65 b65 F65.kp m65 R77 b77 F77.kp m77 R78 b78 F78.kp m78;have R80:=Mf (P:=l.prog) (w:=w) (K:=K) (mg:=mg) (base:=base) (CX:=CX0) F80  R70 b70 F70.kp m70;have R81:=Zb (P:=l.prog) (w:=w) (K:=K) (mg:=mg) (base:=base) (CX:=CX0) F81 n_zip R69 b69 F69.kp m69 R71 b71 F71.kp m71;have R82:=Xc (P:=l.prog) (w:=w) (K:=K) (mg:=mg) (base:=base) (CX:=CX0) F82 n_zip R70 b70 F70.kp m70 R71 b71 F71.kp m71 R80 b80 F80.kp m80;exact Yq (P:=l.prog) (w:=w) (K:=K) (mg:=mg) (base:=base) (CX:=CX0) F83 NTx n_len n_range n_list R56 b56 ⟨a56_0,i56,F56.kp⟩ R30 b30 ⟨a30_0,i30,F30.kp⟩ R64 b64 F64.kp m64 R79 b79 F79.kp m79 R76 b76 F76.kp m76 R81 b81 F81.kp m81 R82 b82 F82.kp m82 R75 b75 F75.kp m75 R63 b63 F63.kp m63 R60 b60 F60.kp m60 R68 b68 F68.kp m68 R65 b65 F65.kp m65 R71 b71 F71.kp m71
theorem qg6 {l:W.OpenLaw}{q:Program}{loose:List Str}{XP:(Str->Option Value)->Heap->Prop}{YP:World->Heap->Prop}{d:DefRec}{K:Params->Frag}(hn:l.most=some 63)(hdf:d.params.defaults=[])(hY:∀(w:World) (h:Heap),YP w h->(K w.params).In h)(F:∀(w:World) (mg:Str->Option Value) (fa:Addr) (h:Heap),(K w.params).In h->h.Ns mainGlobals mg->mg d.name=some (.ref fa)->
   ∃fd:FuncData,(∀(s:Shared) (u:Value),BindsTo s fd ⟨[u],[]⟩ [("_law_script",u)])/\∀base:Heap,(K w.params).In base->base.Ns mainGlobals mg->aL l.prog w (K w.params) mg base CX0 11 fa fd ["_law_script"] (Gp (K w.params))) :
  W.WalkO q loose XP YP l.row.toRowW d [] (fun f vs=>PySem.call f vs):=
 L2.Te (n:=63) (k:=11) (x:="_law_script") (CX:=fun _=>CX0) (sp:=fun w=>Gp (K w.params)) hn (by decide) hdf ⟨rfl,by decide,by decide⟩ hY F (fun _ _ a ns hl _ hS=>⟨a,ns,rfl,hS,hl,fun _=>rfl⟩) fun _ _ _ _ _ z=>z
end K47
local macro_rules | `(tactic| walk_at "F9")=>`(tactic| (refine' L2.rA ?l9 ?c9 ?kk9;(case l9=>k_is);(case c9=>k_is);(case kk9=>show _=_;k_is)))
namespace PySem.W.Fast
def Q:=Nat
def tw15172404713677823292:=Q
def tw14175180631461202474:=Q
def tw5024304702348223358:=Q
def tw10187084047408395255:=Q
def tw12795188105268299267:=Q
def tw12938864964296229250:=Q
def tw13258691548227823703:=Q
def tw5104792847053324474:=Q
def tw2174157998844431639:=Q
def tw12869959166614939400:=Q
def tw16647171253442984461:=Q
def tw5243089826598051338:=Q
def tw12986925030032994571:=Q
def tw6499637843410138027:=Q
def tw632188908896936904:=Q
def tw12493813798134156071:=Q
def tw339208668394765394:=Q
def tw17660666400173998233:=Q
def tw3242963028717778948:=Q
def tw11728369747797020709:=Q
def tw5757780930515544979:=Q
def tw4363697352673746281:=Q
def tw5259216203542927009:=Q
def tw4303311895183677743:=Q
def tw4424758545322281687:=Q
def tw8094038349667229829:=Q
def tw10649001203571427310:=Q
def tw4389404411733892990:=Q
def tw441701228172150339:=Q
def tw8570659237346402212:=Q
def tw16756827924621836472:=Q
def tw17179836525867919387:=Q
def tw10680508918020293854:=Q
def tw12320750013968251028:=Q
def tw1950477087213950620:=Q
def tw10602307051175814847:=Q
def tw5392773879896909595:=Q
def tw3485915277902215703:=Q
def tw11845542557043485749:=Q
def tw5847971788738419831:=Q
def tw16565271270877283558:=Q
def tw10696203083471905944:=Q
def tw14735459742259350614:=Q
def tw8130655213765489833:=Q
def tw4312127041860311666:=Q
def tw1218161328855417161:=Q
def tw121649014620386191:=Q
def tw4471091739101863261:=Q
def tw17904091569948328438:=Q
def tw2137145552707338784:=Q
def tw9868303519090229829:=Q
def tw17155834956937396283:=Q
def tw9789184458518440364:=Q
def tw17579182904267152659:=Q
def tw17531700143285856321:=Q
def tw8194438933667918690:=Q
def tw1026043563837984991:=Q
def tw15408964541336628094:=Q
def tw6210629935467415251:=Q
def tw10777804773817574455:=Q
def tw13503167113144221389:=Q
def tw9954508665065062802:=Q
def tw6749897107216112421:=Q
def tw17102413771250426040:=Q
def tw3933836359798682918:=Q
def tw1112460089064735733:=Q
def tw10349280501201573293:=Q
def tw3218161216977817699:=Q
def tw587530947659070886:=Q
def tw7121942024798462543:=Q
def tw7479122120711937278:=Q
def tw15777171412595561053:=Q
def tw2562910423617045469:=Q
def tw15749848850715577307:=Q
def tw2401890143173030629:=Q
def tw9055078803203601443:=Q
def tw18215030396685460831:=Q
def tw7540400283811096222:=Q
def tw8901723137085514292:=Q
def tw12736420384911433699:=Q
def tw12508338370346330040:=Q
def tw4311886636283775164:=Q
def tw8310052735762687153:=Q
def tw16776357386908531567:=Q
def tw6190671322944192933:=Q
def tw15832050360395404506:=Q
def tw9777119083335396927:=Q
def tw3949618086013446271:=Q
def tw2295254525018959280:=Q
def tw15758077863988188850:=Q
def tw1384539352178565215:=Q
def tw5819877343331588416:=Q
def tw16172775324523062711:=Q
def tw12767771300973231613:=Q
def tw11768131846666731333:=Q
def tw9249107678243892129:=Q
def tw2502736804802562887:=Q
def tw7214978120389529298:=Q
def tw7804751819270016095:=Q
def tw1900853718687036036:=Q
def tw15605709485572357791:=Q
def tw8201504853355485547:=Q
def tw2018400005006677887:=Q
def tw16900883565474760330:=Q
def tw2072040087423306013:=Q
def tw14053998518234324732:=Q
def tw7873555858018762338:=Q
def tw1114499168133084686:=Q
def tw17912234772313959320:=Q
def tw4059862841081173556:=Q
def tw5988542317442989296:=Q
def tw13400345196433078310:=Q
def tw16367589617833692616:=Q
def tw5010251146332999989:=Q
def tw8395370796188340807:=Q
def tw2663994210923078918:=Q
def tw16321925991103392405:=Q
def tw787853650731887659:=Q
def tw17873470098367606697:=Q
def tw5028235228720991000:=Q
def tw3423202351469267248:=Q
def tw11613364035703845427:=Q
def tw4547280692769968787:=Q
def tw2971401711697780623:=Q
def tw12164683567701399971:=Q
def tw13829243408847980138:=Q
def tw1612709513898105479:=Q
def tw3798343042030412371:=Q
def tw3318685708542544554:=Q
def tw1809433085677992331:=Q
def tw15334536414255179732:=Q
def tw12380486892879320606:=Q
def tw14365558877571243763:=Q
def tw5085224264968402829:=Q
def tw8862919542086320608:=Q
def tw16466033030514093483:=Q
def tw10929781853974914075:=Q
def tw14034159267258172507:=Q
def tw10839916271968392960:=Q
def tw6480268906981875156:=Q
def tw12370484194392393198:=Q
def tw4281720216020204640:=Q
def tw152827579680082283:=Q
def tw9577644952191821723:=Q
def tw16185021089431861702:=Q
def tw1866563827849565176:=Q
def tw12431143668965600692:=Q
def tw3663826544278738136:=Q
def tw12085516963203810674:=Q
def tw9540927194473064003:=Q
def tw16660093590422413155:=Q
def tw7831959327601219704:=Q
def tw15610647280488057317:=Q
def tw16500326607277328987:=Q
def tw4361887728967387423:=Q
def tw7132742277667061667:=Q
def tw8722730112498491391:=Q
def tw14143747868418352473:=Q
def tw677832117117103118:=Q
def tw12178573101283625485:=Q
def tw10035797283934260835:=Q
def tw14651990008102587854:=Q
def tw4966287913430061498:=Q
def tw9631009089957646656:=Q
def tw8905243342070958901:=Q
def tw3459388489509419978:=Q
def tw13824253445823285667:=Q
def tw7136055018106549339:=Q
def tw15680477107183753372:=Q
def tw13907469531945197067:=Q
def tw8217486310927945634:=Q
def tw14488668753111685883:=Q
def tw15268285373214768102:=Q
def tw15187321460342116683:=Q
def tw9813056132826110863:=Q
def tw10992435512425285432:=Q
def tw2884179937023905743:=Q
def tw6881562506826073328:=Q
def tw12234454323441479639:=Q
def tw18012162950975653501:=Q
def tw12337180177887521258:=Q
def tw17188575941536052768:=Q
def tw15114722165899213081:=Q
def tw6113694641315054011:=Q
def tw18421991785392595628:=Q
def tw4887545810385302315:=Q
def tw3265516939576605213:=Q
def tw13117129868335025316:=Q
def tw1251688045453104045:=Q
def tw10667894422030938368:=Q
def tw11290135407210050501:=Q
def tw11501291149385056191:=Q
def tw8273159667635982873:=Q
def tw16420904224352004829:=Q
def tw14726493721008215910:=Q
def tw15797884915671809712:=Q
def tw11236660503292345807:=Q
def tw4969263747031537321:=Q
def tw4323861189204247640:=Q
def tw17368186179948041111:=Q
def tw10824782121161573495:=Q
def tw8282786902339531681:=Q
def tw2693424256239563994:=Q
def tw16117861136788479240:=Q
def tw15381423648258576402:=Q
def tw3296752867494388692:=Q
def tw2714297181743034334:=Q
def tw6321519995441762110:=Q
def tw1338408651534714011:=Q
def tw4343957647698073077:=Q
def tw3313933019367374886:=Q
def tw15211026779883362784:=Q
def tw8480704096350856124:=Q
def tw4569614256917085779:=Q
def tw2672131923736979195:=Q
def tw1490935721467452352:=Q
def tw18255519777365174646:=Q
def tw8709480799508050412:=Q
def tw6394823593858937930:=Q
def tw6119920488202383954:=Q
def tw14028484651158118955:=Q
def tw10340431461127574621:=Q
def tw9579497324856812522:=Q
def tw2786182284575938600:=Q
def tw6173768272551232921:=Q
def tw16817643815178586797:=Q
def tw4735196170059793278:=Q
def tw17043530289810266348:=Q
def tw16675455902872901536:=Q
def tw12627910817410137292:=Q
def tw3774623881292099306:=Q
def tw5674816390759304578:=Q
def tw14362010531315358813:=Q
def tw10002023203674514732:=Q
def tw8651837409757103454:=Q
def tw11271295483807285897:=Q
def tw548727624935226456:=Q
def tw8391831907041887809:=Q
def tw181371566239944412:=Q
def tw331399505766783946:=Q
def tw14357938130248871633:=Q
def tw5582424084562801742:=Q
def tw407063204542854398:=Q
def tw7966648161554327814:=Q
def tw7999889021251015929:=Q
def tw14962222837840712748:=Q
def tw10147449746299455339:=Q
def tw2939882390251163815:=Q
def tw17158070397421200375:=Q
def tw14546502293077843947:=Q
def tw10887930921751463844:=Q
def tw8309109382348999963:=Q
def tw17533383245304882616:=Q
def tw7295083597556098410:=Q
def tw14241480691564490916:=Q
def tw15148659960531677142:=Q
def tw12105808759550851621:=Q
def tw9994895958490615446:=Q
def tw5444749006326462823:=Q
def tw11122654680377165307:=Q
def tw8259979695477664494:=Q
def tw16971020777855179632:=Q
def tw12952637879927838896:=Q
def tw137555385492244427:=Q
def tw12353893508727637705:=Q
def tw11131928325959044745:=Q
def tw13957467543352177132:=Q
def tw7040732512605616519:=Q
def tw16093336898619964312:=Q
def tw7511132617407792296:=Q
def tw13744912189789221337:=Q
def tw8463243089300129896:=Q
def tw15457226527316268472:=Q
def tw14996068670403137464:=Q
def tw16401733647981616609:=Q
def tw10780593613202264315:=Q
def tw1351541141032146369:=Q
def tw3462059051617104689:=Q
def tw4061174123884358497:=Q
def tw8604466667396723582:=Q
def tw8181278109724373924:=Q
def tw7130450840428822615:=Q
def tw5140503003073959147:=Q
def tw14582828627217390659:=Q
def tw8300731200809772444:=Q
def tw9274040350569712008:=Q
def tw5742348849707674859:=Q
def tw14854265378347159317:=Q
def tw10416015966434249020:=Q
def tw14818147318806797218:=Q
def tw12987624625395817078:=Q
def tw1884422253108299564:=Q
def tw12819544229002909557:=Q
def tw12867045418554868032:=Q
def tw9586399727670109115:=Q
def tw1206359012029838637:=Q
def tw602425615575318851:=Q
def tw10455153209475492211:=Q
def tw13311384924954558711:=Q
def tw8820097252796385261:=Q
def tw12218997822913787209:=Q
def tw1831053216333055969:=Q
def tw15017434246014073754:=Q
def tw5504372246472156223:=Q
def tw5113891441004007896:=Q
def tw9588607380663401203:=Q
def tw14351477274793783031:=Q
def tw3455887404494244482:=Q
def tw6013657778691222000:=Q
def tw18116499304070992557:=Q
def tw15882152372468498882:=Q
def tw5767199780401406430:=Q
def tw18071617643590278735:=Q
def tw15729011980942223894:=Q
def tw13129063907350175584:=Q
def tw14337661618520644972:=Q
def tw16230301356042948388:=Q
def tw6813927694606728026:=Q
def tw11279905610344884129:=Q
def tw11396366536921448245:=Q
def tw843913847354133779:=Q
def tw17990460781883808467:=Q
def tw10817416202661365611:=Q
def tw8974255865740913265:=Q
def tw13065648510812953326:=Q
def tw15355233310000851696:=Q
def tw5652485242757028620:=Q
def tw18254577646982898409:=Q
def tw12891160631377418834:=Q
def tw7643767523068687607:=Q
def tw9182503772438102168:=Q
def tw4077156214810407896:=Q
def tw10160601556900546764:=Q
def tw14436390911027528566:=Q
def tw14186136114043761570:=Q
def tw9591084144827353662:=Q
def tw15952573770207001642:=Q
def tw3870116046920129917:=Q
def tw6564451901952323823:=Q
def tw5810145072946263266:=Q
def tw12723224045138038122:=Q
def tw14943229693633362703:=Q
def tw802563789206864229:=Q
def tw7351914821183973431:=Q
def tw5863557090820019041:=Q
def tw8744705556406146855:=Q
def tw14899951599696580930:=Q
def tw15433401645314173433:=Q
def tw8964163060263072200:=Q
def tw16529866042219837129:=Q
def tw12337357198663863395:=Q
def tw7264929638448379274:=Q
def tw13093072911732529690:=Q
def tw6685914175808760483:=Q
def tw5829198689625913133:=Q
def tw10358260325934833298:=Q
def tw14509170197083560458:=Q
def tw9636243930577395690:=Q
def tw7727005524777989599:=Q
def tw16832210152692320135:=Q
def tw8753464006269878479:=Q
def tw15385651435088804941:=Q
def tw8954394285349076778:=Q
def tw14488409624804885046:=Q
def tw9789647683295775505:=Q
def tw530494933823167769:=Q
def tw8763588173674319610:=Q
def tw477401858932165052:=Q
def tw7053328174776745262:=Q
def tw16185030101041894014:=Q
def tw740839829559582935:=Q
def tw16708457675938023061:=Q
def tw18419810559449638607:=Q
def tw14669878105740754800:=Q
def tw6521433351149717933:=Q
def tw5214444680314674860:=Q
def tw6101565912739207780:=Q
def tw2119695204723991886:=Q
def tw11464688429091640932:=Q
def tw16334802550870271370:=Q
def tw3183665449295829200:=Q
def tw5546654509810496687:=Q
def tw17118769294519432832:=Q
def tw7220550959347821917:=Q
def tw2980490986940662457:=Q
def tw15748374973337297665:=Q
def tw883113210240533415:=Q
def tw4477884918230324836:=Q
def tw13168788218602180804:=Q
def tw8889414474685368261:=Q
def tw4056389339506845383:=Q
def tw9104000261947902566:=Q
def tw7954049827543764124:=Q
def tw2270709147550247413:=Q
def tw4422817300347453752:=Q
def tw14050773686928162822:=Q
def tw1653027577545570082:=Q
def tw17218870499032000996:=Q
def tw17140545901343504708:=Q
def tw9796268121508984930:=Q
def tw11356789706580293031:=Q
def tw11735178564195010575:=Q
def tw11743217236485302636:=Q
def tw11477439592425200145:=Q
def tw17190201795570046220:=Q
def tw8806083664590429609:=Q
def tw9867809795010983290:=Q
def tw6296168466529852996:=Q
def tw7947808116322501536:=Q
def tw7248383217607524886:=Q
def tw4251157653985117989:=Q
def tw9320439310013596914:=Q
def tw13038406969774810248:=Q
def tw11196624533943003860:=Q
def tw877680469463639517:=Q
def tw1947868561208223645:=Q
def tw4532723174069456146:=Q
def tw16162955887432719038:=Q
def tw14320949300203625782:=Q
def tw8430209633055555992:=Q
def tw15851388977848885580:=Q
def tw11627890551381642071:=Q
def tw2257295071625182760:=Q
def tw1392249317814169367:=Q
def tw2193607744159843764:=Q
def tw14534672191243948917:=Q
def tw7979800243422566489:=Q
def tw1964879809606624980:=Q
def tw18150589902457071728:=Q
def tw10263886166565760993:=Q
def tw2601840941190716704:=Q
def tw15312342978456875392:=Q
def tw5315513048879655755:=Q
def tw15290448020106907380:=Q
def tw16803456886529559438:=Q
def tw226699180336244727:=Q
def tw84732250310053444:=Q
def tw15421218494880603883:=Q
def tw12445028719983280707:=Q
def tw4689080372757267299:=Q
def tw17904190277499969382:=Q
def tw16437232819715935296:=Q
def tw10193822440429608669:=Q
def tw588638361403597596:=Q
def tw15589831202909882103:=Q
def tw11107300283487988328:=Q
def tw1158115448216738953:=Q
def tw12241101787005877432:=Q
def tw14044033715086320607:=Q
def tw16612548418723356813:=Q
def tw11435467276690330822:=Q
def tw8207222909521832179:=Q
def tw5263985436517685264:=Q
def tw13159151389211752533:=Q
def tw15026764799858204631:=Q
def tw4190844932355400125:=Q
def tw966727855751727429:=Q
def tw5359494457830751203:=Q
def tw954930758162124070:=Q
def tw11559266246550296961:=Q
def tw17655261815217418533:=Q
def tw17933526245722836518:=Q
def tw10207280525257284717:=Q
def tw18122370343060035430:=Q
def tw3926659024731491747:=Q
def tw4710787422964730393:=Q
def tw17337058655580745622:=Q
def tw12660801640074849475:=Q
def tw7093622785049941507:=Q
def tw5537009167554396222:=Q
def tw2602833165446674276:=Q
def tw16990052090206947350:=Q
def tw9927371027933812111:=Q
def tw15748246412572473026:=Q
def tw18025734584634196657:=Q
def tw1691347311812117861:=Q
def tw7881433518863370193:=Q
def tw2599207399797236293:=Q
def tw11909137251051168383:=Q
def tw5964928902006326250:=Q
def tw18155693152370096927:=Q
def tw10929855068357310679:=Q
def tw5100825833045563736:=Q
def tw9109783937217912508:=Q
def tw6137537479024635695:=Q
def tw16732620363745245152:=Q
def tw11364514198744224036:=Q
def tw202183070671107638:=Q
def tw10668456333042481203:=Q
def tw14586293545997274853:=Q
def tw17206007723058027418:=Q
def tw10662823918170515753:=Q
def tw13454897987675414815:=Q
def tw6781311355465383412:=Q
def tw6829195174811688696:=Q
def tw13196037217458447151:=Q
def tw15918940328116004253:=Q
def tw8105780259699729654:=Q
def tw5577171807279760023:=Q
def tw4680834858785313649:=Q
def tw15730370700032128129:=Q
def tw5102835245872082471:=Q
def tw8329698889317882543:=Q
def tw7692080093225159718:=Q
def tw11541161675954050528:=Q
def tw2564674204808935812:=Q
def tw15418533127991743845:=Q
def tw17825538697740600280:=Q
def tw3772258123355019037:=Q
def tw9239706482563916690:=Q
def tw9705674052470578991:=Q
def tw5548416392194797174:=Q
def tw11221154327353800380:=Q
def tw1619695509989859233:=Q
def tw16458988851477714498:=Q
def tw5129029428477684579:=Q
def tw15391518621265183955:=Q
def tw8283025309429663755:=Q
end PySem.W.Fast
open PySem PySem.W PyProof.Rows
set_option maxRecDepth 100000 in
set_option maxHeartbeats 0 in
theorem PySem.Challenge.cw_ohmyard_k47_supplied_holds : PySem.Challenge.rw_ohmyard_k47_supplied.Holds := by
  w_on; o_law; z_head; (case hw => w_witness2)
  k_fill
  refine L2.Mb (fun _ => by kernel_rfl) (K47.qg6 (l := PySem.Challenge.rw_ohmyard_k47_supplied) rfl rfl (fun w h Y => Y) ?F)
  case F =>
    intro w mg fa h KX G hmg
    refine' K47.Wi hmg (mg_of KX G ?y_Row) (mg_of KX G ?y_Piece) (mg_of KX G ?y_Push) (mg_of KX G ?y_Hold) (mg_of KX G ?y_Net) (mg_of KX G ?y_Answer) (mg_of KX G ?a1) ?F1 (mg_of KX G ?a2) ?F2 (mg_of KX G ?a3) ?F3 (mg_of KX G ?a4) ?l4 ?c4 ?k4 ?lt4 (mg_of KX G ?a5) ?F5 (mg_of KX G ?a6) ?F6 (mg_of KX G ?a7) ?F7 (mg_of KX G ?a8) ?F8 (mg_of KX G ?a9) ?F9 ?a10_0 ?a10_1 ?a10_2 ?i10 ?F10 ?a11_0 ?i11 ?F11 ?a12_0 ?i12 ?F12 ?a13_0 ?i13 ?F13 ?a14_0 ?i14 ?F14 ?a15_0 ?i15 ?F15 ?a16_0 ?i16 ?F16 ?a17_0 ?a17_1 ?a17_2 ?i17 ?F17 (mg_of KX G ?a18) ?F18 ?a19_0 ?i19 ?F19 ?a20_0 ?i20 ?F20 ?a21_0 ?i21 ?F21 (mg_of KX G ?a22) ?F22 (mg_of KX G ?a23) ?F23 (mg_of KX G ?a24) ?F24 (mg_of KX G ?a25) ?F25 (mg_of KX G ?a26) ?F26 ?a27_0 ?i27 ?F27 ?a28_0 ?i28 ?F28 ?a29_0 ?i29 ?F29 ?a30_0 ?i30 ?F30 ?a31_0 ?i31 ?F31 (mg_of KX G ?a32) ?F32 (mg_of KX G ?a33) ?F33 (mg_of KX G ?a34) ?F34 (mg_of KX G ?a35) ?F35 (mg_of KX G ?a36) ?F36 (mg_of KX G ?a37) ?F37 (mg_of KX G ?a38) ?l38 ?c38 ?k38 ?lt38 (mg_of KX G ?a39) ?F39 (mg_of KX G ?a40) ?F40 (mg_of KX G ?a41) ?F41 (mg_of KX G ?a42) ?F42 (mg_of KX G ?a43) ?F43 (mg_of KX G ?a44) ?F44 (mg_of KX G ?a45) ?F45 (mg_of KX G ?a46) ?F46 (mg_of KX G ?a47) ?F47 (mg_of KX G ?a48) ?F48 (mg_of KX G ?a49) ?F49 (mg_of KX G ?a50) ?F50 (mg_of KX G ?a51) ?F51 (mg_of KX G ?a52) ?F52 ?a53_0 ?i53 ?F53 ?a54_0 ?i54 ?F54 ?a55_0 ?i55 ?F55 ?a56_0 ?i56 ?F56 (mg_of KX G ?a57) ?F57 (mg_of KX G ?a58) ?F58 (mg_of KX G ?a59) ?F59 (mg_of KX G ?a60) ?F60 (mg_of KX G ?a61) ?F61 (mg_of KX G ?a62) ?F62 (mg_of KX G ?a63) ?F63 (mg_of KX G ?a64) ?F64 (mg_of KX G ?a65) ?F65 (mg_of KX G ?a66) ?F66 (mg_of KX G ?a67) ?F67 (mg_of KX G ?a68) ?F68 (mg_of KX G ?a69) ?F69 (mg_of KX G ?a70) ?F70 (mg_of KX G ?a71) ?F71 (mg_of KX G ?a72) ?F72 (mg_of KX G ?a73) ?F73 (mg_of KX G ?a74) ?F74 (mg_of KX G ?a75) ?F75 (mg_of KX G ?a76) ?F76 (mg_of KX G ?a77) ?F77 (mg_of KX G ?a78) ?F78 (mg_of KX G ?a79) ?F79 (mg_of KX G ?a80) ?F80 (mg_of KX G ?a81) ?F81 (mg_of KX G ?a82) ?F82 (mg_of KX G ?a83) ?l83 ?c83 ?k83 (mg_of KX G ?v_ONE) (mg_of KX G ?v_NOUGHT) (mg_of KX G ?v_JOINING_WORDS) (mg_of KX G ?v_MOST_POINTS) (mg_of KX G ?v_MOST_ROWS) ?lO ?lN ?lJ ?pg_Piece ?hd_Piece ?po_Piece ?sa_Piece ?mk_Piece ?kc_Piece ?t1_Piece ?t4_Piece ?na_Piece_start ?na_Piece_goal ?na_Piece_size ?pg_Push ?hd_Push ?po_Push ?sa_Push ?mk_Push ?kc_Push ?t1_Push ?t4_Push ?na_Push_start ?na_Push_goal ?na_Push_size ?pg_Hold ?hd_Hold ?po_Hold ?sa_Hold ?mk_Hold ?kc_Hold ?t1_Hold ?t4_Hold ?na_Hold_start ?na_Hold_goal ?na_Hold_size ?tt2 ?tt3 ?isR_Piece ?isR_Push ?isR_Hold ?isK_Piece_Push ?isK_Piece_Hold ?isK_Push_Piece ?isK_Push_Hold ?isK_Hold_Piece ?isK_Hold_Push ?pg_Net ?hd_Net ?po_Net ?sa_Net ?mk_Net ?kc_Net ?t1_Net ?t4_Net ?na_Net_point_count ?na_Net_kept ?pg_Answer ?hd_Answer ?po_Answer ?sa_Answer ?mk_Answer ?kc_Answer ?t1_Answer ?t4_Answer ?na_Answer_lines ?na_Answer_levels ?na_Answer_flows (mg_none_of KX G ?z1) (mg_none_of KX G ?z2) (mg_none_of KX G ?z3) (mg_none_of KX G ?z4) (mg_none_of KX G ?z5) (mg_none_of KX G ?z6) (mg_none_of KX G ?z7) (mg_none_of KX G ?z8) (mg_none_of KX G ?z9) (mg_none_of KX G ?z10) (mg_none_of KX G ?z11) (mg_none_of KX G ?z12)
    (case y_Row=>k_is)
    (case y_Piece=>k_is)
    (case y_Push=>k_is)
    (case y_Hold=>k_is)
    (case y_Net=>k_is)
    (case y_Answer=>k_is)
    (case a1=>k_is)
    (case F1=>walk_at "F9")
    (case a2=>k_is)
    (case F2=>walk_at "F9")
    (case a3=>k_is)
    (case F3=>walk_at "F9")
    (case a4=>k_is)
    (case l4=>k_is)
    (case c4=>k_is)
    (case k4=>show _=_;k_is)
    (case lt4=>k_is)
    (case a5=>k_is)
    (case F5=>walk_at "F9")
    (case a6=>k_is)
    (case F6=>walk_at "F9")
    (case a7=>k_is)
    (case F7=>walk_at "F9")
    (case a8=>k_is)
    (case F8=>walk_at "F9")
    (case a9=>k_is)
    (case F9=>walk_at "F9")
    (case a10_0=>k_is)
    (case a10_1=>k_is)
    (case a10_2=>k_is)
    (case i10=>k_is)
    (case F10=>walk_at "F9")
    (case a11_0=>k_is)
    (case i11=>k_is)
    (case F11=>walk_at "F9")
    (case a12_0=>k_is)
    (case i12=>k_is)
    (case F12=>walk_at "F9")
    (case a13_0=>k_is)
    (case i13=>k_is)
    (case F13=>walk_at "F9")
    (case a14_0=>k_is)
    (case i14=>k_is)
    (case F14=>walk_at "F9")
    (case a15_0=>k_is)
    (case i15=>k_is)
    (case F15=>walk_at "F9")
    (case a16_0=>k_is)
    (case i16=>k_is)
    (case F16=>walk_at "F9")
    (case a17_0=>k_is)
    (case a17_1=>k_is)
    (case a17_2=>k_is)
    (case i17=>k_is)
    (case F17=>walk_at "F9")
    (case a18=>k_is)
    (case F18=>walk_at "F9")
    (case a19_0=>k_is)
    (case i19=>k_is)
    (case F19=>walk_at "F9")
    (case a20_0=>k_is)
    (case i20=>k_is)
    (case F20=>walk_at "F9")
    (case a21_0=>k_is)
    (case i21=>k_is)
    (case F21=>walk_at "F9")
    (case a22=>k_is)
    (case F22=>walk_at "F9")
    (case a23=>k_is)
    (case F23=>walk_at "F9")
    (case a24=>k_is)
    (case F24=>walk_at "F9")
    (case a25=>k_is)
    (case F25=>walk_at "F9")
    (case a26=>k_is)
    (case F26=>walk_at "F9")
    (case a27_0=>k_is)
    (case i27=>k_is)
    (case F27=>walk_at "F9")
    (case a28_0=>k_is)
    (case i28=>k_is)
    (case F28=>walk_at "F9")
    (case a29_0=>k_is)
    (case i29=>k_is)
    (case F29=>walk_at "F9")
    (case a30_0=>k_is)
    (case i30=>k_is)
    (case F30=>walk_at "F9")
    (case a31_0=>k_is)
    (case i31=>k_is)
    (case F31=>walk_at "F9")
    (case a32=>k_is)
    (case F32=>walk_at "F9")
    (case a33=>k_is)
    (case F33=>walk_at "F9")
    (case a34=>k_is)
    (case F34=>walk_at "F9")
    (case a35=>k_is)
    (case F35=>walk_at "F9")
    (case a36=>k_is)
    (case F36=>walk_at "F9")
    (case a37=>k_is)
    (case F37=>walk_at "F9")
    (case a38=>k_is)
    (case l38=>k_is)
    (case c38=>k_is)
    (case k38=>show _=_;k_is)
    (case lt38=>k_is)
    (case a39=>k_is)
    (case F39=>walk_at "F9")
    (case a40=>k_is)
    (case F40=>walk_at "F9")
    (case a41=>k_is)
    (case F41=>walk_at "F9")
    (case a42=>k_is)
    (case F42=>walk_at "F9")
    (case a43=>k_is)
    (case F43=>walk_at "F9")
    (case a44=>k_is)
    (case F44=>walk_at "F9")
    (case a45=>k_is)
    (case F45=>walk_at "F9")
    (case a46=>k_is)
    (case F46=>walk_at "F9")
    (case a47=>k_is)
    (case F47=>walk_at "F9")
    (case a48=>k_is)
    (case F48=>walk_at "F9")
    (case a49=>k_is)
    (case F49=>walk_at "F9")
    (case a50=>k_is)
    (case F50=>walk_at "F9")
    (case a51=>k_is)
    (case F51=>walk_at "F9")
    (case a52=>k_is)
    (case F52=>walk_at "F9")
    (case a53_0=>k_is)
    (case i53=>k_is)
    (case F53=>walk_at "F9")
    (case a54_0=>k_is)
    (case i54=>k_is)
    (case F54=>walk_at "F9")
    (case a55_0=>k_is)
    (case i55=>k_is)
    (case F55=>walk_at "F9")
    (case a56_0=>k_is)
    (case i56=>k_is)
    (case F56=>walk_at "F9")
    (case a57=>k_is)
    (case F57=>walk_at "F9")
    (case a58=>k_is)
    (case F58=>walk_at "F9")
    (case a59=>k_is)
    (case F59=>walk_at "F9")
    (case a60=>k_is)
    (case F60=>walk_at "F9")
    (case a61=>k_is)
    (case F61=>walk_at "F9")
    (case a62=>k_is)
    (case F62=>walk_at "F9")
    (case a63=>k_is)
    (case F63=>walk_at "F9")
    (case a64=>k_is)
    (case F64=>walk_at "F9")
    (case a65=>k_is)
    (case F65=>walk_at "F9")
    (case a66=>k_is)
    (case F66=>walk_at "F9")
    (case a67=>k_is)
    (case F67=>walk_at "F9")
    (case a68=>k_is)
    (case F68=>walk_at "F9")
    (case a69=>k_is)
    (case F69=>walk_at "F9")
    (case a70=>k_is)
    (case F70=>walk_at "F9")
    (case a71=>k_is)
    (case F71=>walk_at "F9")
    (case a72=>k_is)
    (case F72=>walk_at "F9")
    (case a73=>k_is)
    (case F73=>walk_at "F9")
    (case a74=>k_is)
    (case F74=>walk_at "F9")
    (case a75=>k_is)
    (case F75=>walk_at "F9")
    (case a76=>k_is)
    (case F76=>walk_at "F9")
    (case a77=>k_is)
    (case F77=>walk_at "F9")
    (case a78=>k_is)
    (case F78=>walk_at "F9")
    (case a79=>k_is)
    (case F79=>walk_at "F9")
    (case a80=>k_is)
    (case F80=>walk_at "F9")
    (case a81=>k_is)
    (case F81=>walk_at "F9")
    (case a82=>k_is)
    (case F82=>walk_at "F9")
    (case a83=>k_is)
    (case l83=>k_is)
    (case c83=>k_is)
    (case k83=>show _=_;k_is)
    (case v_ONE=>k_is)
    (case v_NOUGHT=>k_is)
    (case v_JOINING_WORDS=>k_is)
    (case v_MOST_POINTS=>k_is)
    (case v_MOST_ROWS=>k_is)
    (case lO=>k_is)
    (case lN=>k_is)
    (case lJ=>k_is)
    (case pg_Piece=>k_is)
    (case hd_Piece=>k_is)
    (case po_Piece=>k_is)
    (case sa_Piece=>k_is)
    (case mk_Piece=>k_is)
    (case kc_Piece=>show _=_;k_is)
    (case t1_Piece=>k_is)
    (case t4_Piece=>k_is)
    (case na_Piece_start=>k_is)
    (case na_Piece_goal=>k_is)
    (case na_Piece_size=>k_is)
    (case pg_Push=>k_is)
    (case hd_Push=>k_is)
    (case po_Push=>k_is)
    (case sa_Push=>k_is)
    (case mk_Push=>k_is)
    (case kc_Push=>show _=_;k_is)
    (case t1_Push=>k_is)
    (case t4_Push=>k_is)
    (case na_Push_start=>k_is)
    (case na_Push_goal=>k_is)
    (case na_Push_size=>k_is)
    (case pg_Hold=>k_is)
    (case hd_Hold=>k_is)
    (case po_Hold=>k_is)
    (case sa_Hold=>k_is)
    (case mk_Hold=>k_is)
    (case kc_Hold=>show _=_;k_is)
    (case t1_Hold=>k_is)
    (case t4_Hold=>k_is)
    (case na_Hold_start=>k_is)
    (case na_Hold_goal=>k_is)
    (case na_Hold_size=>k_is)
    (case tt2=>k_is)
    (case tt3=>k_is)
    (case isR_Piece=>kit_is)
    (case isR_Push=>kit_is)
    (case isR_Hold=>kit_is)
    (case isK_Piece_Push=>kit_is)
    (case isK_Piece_Hold=>kit_is)
    (case isK_Push_Piece=>kit_is)
    (case isK_Push_Hold=>kit_is)
    (case isK_Hold_Piece=>kit_is)
    (case isK_Hold_Push=>kit_is)
    (case pg_Net=>k_is)
    (case hd_Net=>k_is)
    (case po_Net=>k_is)
    (case sa_Net=>k_is)
    (case mk_Net=>k_is)
    (case kc_Net=>show _=_;k_is)
    (case t1_Net=>k_is)
    (case t4_Net=>k_is)
    (case na_Net_point_count=>k_is)
    (case na_Net_kept=>k_is)
    (case pg_Answer=>k_is)
    (case hd_Answer=>k_is)
    (case po_Answer=>k_is)
    (case sa_Answer=>k_is)
    (case mk_Answer=>k_is)
    (case kc_Answer=>show _=_;k_is)
    (case t1_Answer=>k_is)
    (case t4_Answer=>k_is)
    (case na_Answer_lines=>k_is)
    (case na_Answer_levels=>k_is)
    (case na_Answer_flows=>k_is)
    (case z1=>k_is)
    (case z2=>k_is)
    (case z3=>k_is)
    (case z4=>k_is)
    (case z5=>k_is)
    (case z6=>k_is)
    (case z7=>k_is)
    (case z8=>k_is)
    (case z9=>k_is)
    (case z10=>k_is)
    (case z11=>k_is)
    (case z12=>k_is)
