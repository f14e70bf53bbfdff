import PyProof.Rows.All
import Wide.All
import OpenK.AllK
import Wide.FinOn
import Lean
import PyProof.EqAt
import PyProof.EqKinds
import PyProof.TupleCall
import PyProof.Cells
import PyProof.SumWalkG
import PyProof.EnumStmt
import PyProof.EnumMake
import PyProof.InstStoreFacts
import KE.KDictList
import PySem.Challenge.RW_ohmyard_k62_least_roads
set_option Elab.async false
set_option linter.all false
set_option maxRecDepth 100000
namespace L2
open PySem PySem.Spec PyProof.Rows
abbrev Key:=Sum Int Str
def lM:Key->Value->Bool
 | .inl k,v=>Value.isInt k v
 | .inr x,v=>Value.isStrOf x v
def Iw (w:World):Key->Int
 | .inl k=>hashInt k
 | .inr x=>hashStr w x
theorem cA:∀{k:Key} {v:Value},lM k v=true->(∃i t,k=Sum.inl i/\v=Value.int i t)\/(∃x t,k=Sum.inr x/\v=Value.str x t)
 | .inl i,v,h=>by
  obtain⟨t,e⟩:=Value.isInt_shape (k:=i) (v:=v) h;exact .inl ⟨i,t,rfl,e⟩
 | .inr x,v,h=>by
  obtain⟨t,e⟩:=Value.isStrOf_shape (x:=x) (v:=v) h;exact .inr ⟨x,t,rfl,e⟩
theorem vW (i:Int)(t:Tok):lM (.inl i) (.int i t)=true:=by simp[lM,Value.isInt]
theorem wB (x:Str)(t:Tok):lM (.inr x) (.str x t)=true:=by simp[lM,Value.isStrOf]
theorem Fk (a b:Int):decide ((Sum.inl a:Key)=Sum.inl b)=(a == b):=by
 by_cases e:a=b
 ·subst e;simp
 ·have h:¬(Sum.inl a:Key)=Sum.inl b:=fun q=>e (Sum.inl.inj q);rw[decide_eq_false h];exact(beq_eq_false_iff_ne.mpr e).symm
theorem Dl (a b:Str):decide ((Sum.inr a:Key)=Sum.inr b)=decide (a=b):=by
 by_cases e:a=b
 ·subst e;simp
 ·have h:¬(Sum.inr a:Key)=Sum.inr b:=fun q=>e (Sum.inr.inj q);rw[decide_eq_false h,decide_eq_false e]
theorem Cy (a:Int)(b:Str):decide ((Sum.inl a:Key)=Sum.inr b)=false:=decide_eq_false (fun q=>nomatch q)
theorem Fa (a:Str)(b:Int):decide ((Sum.inr a:Key)=Sum.inl b)=false:=decide_eq_false (fun q=>nomatch q)
def cG (prog:Program)(w:World):PySem.KeyKind prog w Key where
 is:=lM
 hash:=Iw w
 inj:=fun v a b ha hb=>by
  rcases cA ha with ⟨i,t,rfl,rfl⟩ | ⟨x,t,rfl,rfl⟩
  ·rcases cA hb with ⟨j,u,rfl,e⟩ | ⟨y,u,rfl,e⟩
   ·injection e with e1 _;rw[e1]
   ·exact nomatch e
  ·rcases cA hb with ⟨j,u,rfl,e⟩ | ⟨y,u,rfl,e⟩
   ·exact nomatch e
   ·injection e with e1 _;rw[e1]
 byValue:=fun k v h=>by
  rcases cA h with ⟨i,t,rfl,rfl⟩ | ⟨x,t,rfl,rfl⟩<;>rfl
 pyHash:=fun hv h=>by
  rcases cA hv with ⟨i,t,rfl,rfl⟩ | ⟨x,t,rfl,rfl⟩
  ·exact wpAny_pyHash_int h
  ·exact wpAny_pyHash_str h
 eqBool:=fun hu hv h=>by
  rcases cA hu with ⟨i,t,rfl,rfl⟩ | ⟨x,t,rfl,rfl⟩
  ·rcases cA hv with ⟨j,u,rfl,rfl⟩ | ⟨y,u,rfl,rfl⟩
   ·rw[Fk] at h;exact wpAny_eqBool_int h
   ·rw[Cy] at h;exact SeqAt.EqAt.int_str i t y u _ _ _ _ h
  ·rcases cA hv with ⟨j,u,rfl,rfl⟩ | ⟨y,u,rfl,rfl⟩
   ·rw[Fa] at h;exact SeqAt.EqAt.str_int x t j u _ _ _ _ h
   ·rw[Dl] at h;exact wpAny_eqBool_str h
 «strs»:=fun k x t v h=>by
  rcases cA h with ⟨i,u,rfl,e⟩ | ⟨y,u,rfl,e⟩
  ·exact nomatch e
  ·injection e with e1 _
   subst e1
   cases v<;>rfl
theorem qO (prog:Program)(w:World)(i:Int)(t:Tok):(cG prog w).is (.inl i) (.int i t)=true:=vW i t
theorem qH (prog:Program)(w:World)(x:Str)(t:Tok):(cG prog w).is (.inr x) (.str x t)=true:=wB x t
inductive V where
 |non | bl (b:Bool) | int (i:Int) | str (x:Str) | byt (b:Array UInt8) | flt (b:UInt64) | ref (a:Addr) | ty (n:String)
 deriving DecidableEq
def bK:V->Value->Prop
 | .non,u=>u=Value.none
 | .bl b,u=>u=Value.bool b
 | .int i,u=>∃t,u=Value.int i t
 | .str x,u=>∃t,u=Value.str x t
 | .byt b,u=>∃t,u=Value.bytes b t
 | .flt b,u=>∃t,u=Value.float b t
 | .ref a,u=>u=Value.ref a
 | .ty n,u=>u=Value.type n
abbrev bL:List V->List Value->Prop:=Paired bK
theorem bL.length {xs:List V}{us:List Value}(r:bL xs us):xs.length=us.length:=Paired.length r
theorem bL.get:∀{xs:List V} {us:List Value} {i:Nat} {x:V},bL xs us->xs[i]?=some x->∃u,us[i]?=some u/\bK x u
 |_,_,_,_,.nil,e=>by simp at e
 |_,_,0,_,.cons r _,e=>by simp at e;subst e;exact⟨_,rfl,r⟩
 |_,_,i+1,x,.cons _ t,e=>by
  obtain⟨u,h1,h2⟩:=bL.get (i:=i) (x:=x) t (by simpa using e);exact⟨u,by simpa using h1,h2⟩
theorem bL.set {x:V}{u:Value}(r:bK x u):∀{xs:List V} {us:List Value} (i:Nat),bL xs us->bL (xs.set i x) (us.set i u)
 |_,_,_,.nil=>.nil
 |_,_,0,.cons _ t=>.cons r t
 |_,_,i+1,.cons q t=>.cons q (bL.set r i t)
theorem bL.append:∀{xs ys:List V} {us ws:List Value},bL xs us->bL ys ws->bL (xs++ys) (us++ws)
 |_,_,_,_,.nil,s=>s
 |_,_,_,_,.cons r t,s=>.cons r (bL.append t s)
theorem bL.take:∀{xs:List V} {us:List Value} (n:Nat),bL xs us->bL (xs.take n) (us.take n)
 |_,_,0,_=>.nil
 |_,_,_+1,.nil=>.nil
 |_,_,n+1,.cons r t=>.cons r (bL.take n t)
theorem bL.drop:∀{xs:List V} {us:List Value} (n:Nat),bL xs us->bL (xs.drop n) (us.drop n)
 |_,_,0,r=>r
 |_,_,_+1,.nil=>.nil
 |_,_,n+1,.cons _ t=>bL.drop n t
def gC:Option V->Option Value->Prop
 |some v,some u=>bK v u
 |none,none=>True
 |_,_=>False
def KV {κ:Type}:List (κ × V)->List (κ × Value)->Prop:=Paired fun (p:κ × V) (q:κ × Value)=>p.1=q.1/\bK p.2 q.2
def kV:Key->V
 | .inl i=>.int i
 | .inr x=>.str x
inductive HO where
 |lst (xs:List V)
 |tup (xs:List V)
 |dK (kvs:List (Key × V)) | dT (kvs:List (List Key × V))
 |set (S:Int->Bool) (n:Nat)
 |ins (C dx:Addr) (fs:List (Str × V))
 |own (x:Addr)
 |xd (fs:List (Str × V))
 |met (f x:Addr)
 |rng (lo hi:Int)
 |frz (o:Obj) (u:HO)
 |tbl (ps:Array Value)
 |ext (φ:Heap->Prop)
abbrev Hp:=Addr->Option HO
def upd (H:Hp)(a:Addr)(o:HO):Hp:=fun b=>if b=a then some o else H b
theorem aF {H:Hp}{a:Addr}{o:HO}:upd H a o a=some o:=by unfold upd;rw[if_pos rfl]
theorem aU {H:Hp}{a b:Addr}{o:HO}(h:b≠a):upd H a o b=H b:=by unfold upd;rw[if_neg h]
theorem jC {H:Hp}{a:Addr}{o u:HO}:upd (upd H a o) a u=upd H a u:=by
 funext b;unfold upd;split<;>rfl
theorem fY {H:Hp}{a b:Addr}{o u:HO}(h:H a=some o)(h':H b=some u)(d:o≠u):a≠b:=by
 intro e;subst e;rw[h] at h';exact d (Option.some.inj h')
theorem bD {H:Hp}{a b:Addr}{o:HO}(h:H a=some o)(h':H b=none):a≠b:=by
 intro e;subst e;rw[h] at h';cases h'
section
variable (P:Program) (w:World)
def cB (H:Hp)(h:Heap)(a:Addr):HO->Prop
 | .lst xs=>xs.length<=sizeLine/\∃(its:List Value) (n:Nat),bL xs its/\h.get? a=some { cls:=.type "list",data:=.seq its.toArray n }
 | .tup xs=>xs.length<=sizeLine/\∃its:List Value,bL xs its/\IsTup h a its.toArray
 | .dK kvs=>kvs.length<=sizeLine/\(a == sysModules)=false/\∃vs,KV kvs vs/\h.DictOf (cG P w) a vs
 | .dT kvs=>kvs.length<=sizeLine/\(a == sysModules)=false/\∃xs:List (List Key × Addr × Value),
   Paired (fun (p:List Key × V) (q:List Key × Addr × Value)=>p.1=q.1/\H q.2.1=some (.tup (p.1.map kV))/\bK p.2 q.2.2) kvs xs/\
   ∃o es ep,h.get? a=some o/\o.ExactDict/\o.data=.dict es ep/\es.toList=xs.map (entryOfKey (tupleKind (cG P w)))/\(xs.map (·.1)).Nodup
 | .set S n=>h.SetOf (intKind P w) a S n
 | .ins C dx fs=>H dx=some (.own a)/\fs.length<=1000/\dx≠a/\h.get? a=some (PySem.W.instObj C dx)/\
   ∃mA,h.Ns1 dx mA/\(∀f,gC (fs.lookup f) (mA f))/\PySem.Within mA (fs.map (·.1))
 | .own _=>∃o,h.get? a=some o
 | .xd fs=>∃mA,h.Ns1 a mA/\∀f,gC (fs.lookup f) (mA f)
 | .rng lo hi=>∃t u v,h.get? a=some { cls:=.type "range",data:=.fields #[.int lo t,.int hi u,.int 1 v] }
 | .frz o u=>h.get? a=some o/\cB H h a u
 | .tbl ps=>h.get? a=some { cls:=.none,data:=.fields ps }
 | .met f x=>h.get? a=some (PySem.W.methodObj (.ref f) (.ref x))
 | .ext φ=>φ h/\(∃o,h.get? a=some o)/\∀h1 h2:Heap,φ h1->(∀o,h1.get? a=some o->h2.get? a=some o)->φ h2
def HOk (H:Hp)(h:Heap):Prop:=∀a o,H a=some o->cB P w H h a o
end
section
variable {P:Program} {w:World} {H H':Hp} {h h':Heap} {a:Addr} {o:HO}
theorem cB.lt (x:cB P w H h a o):a < h.objs.size:=by
 cases o with
 |lst xs=>obtain⟨_,_,_,_,e⟩:=x;exact Heap.lt_size e
 |tup xs=>obtain⟨_,_,_,p⟩:=x;exact p.lt
 |dK kvs=>obtain⟨_,_,_,_,o,_,_,e,_⟩:=x;exact Heap.lt_size e
 |dT kvs=>obtain⟨_,_,_,_,o,_,_,e,_⟩:=x;exact Heap.lt_size e
 |set S n=>obtain⟨o,_,_,_,e,_⟩:=x;exact Heap.lt_size e
 |ins C dx fs=>obtain⟨_,_,_,e,_⟩:=x;exact Heap.lt_size e
 |own y=>obtain⟨_,e⟩:=x;exact Heap.lt_size e
 |xd fs=>obtain⟨_,⟨_,_,_,e,_⟩,_⟩:=x;exact Heap.lt_size e
 |rng lo hi=>obtain⟨_,_,_,e⟩:=x;exact Heap.lt_size e
 |frz ob u=>obtain⟨e,_⟩:=x;exact Heap.lt_size e
 |tbl ps=>exact Heap.lt_size (show h.get? a=some _ from x)
 |met f y=>exact Heap.lt_size (show h.get? a=some _ from x)
 |ext φ=>obtain⟨_,⟨_,e⟩,_⟩:=x;exact Heap.lt_size e
theorem Paired.mapP {α β:Type}{F G:α->β->Prop}:∀{l₁:List α} {l₂:List β},Paired F l₁ l₂->(∀a b,F a b->G a b)->Paired G l₁ l₂
 |_,_,.nil,_=>.nil
 |_,_,.cons r t,f=>.cons (f _ _ r) (Paired.mapP t f)
theorem cB.stay (x:cB P w H h a o)(k:∀b u,(b=a\/H b=some (.own a))->h.get? b=some u->h'.get? b=some u)(ho:∀b,H b=some (.own a)->H' b=some (.own a))(ht:∀b xs,H b=some (.tup xs)->H' b=some (.tup xs)):cB P w H' h' a o:=by
 induction o with
 |lst xs=>obtain⟨z,its,n,r,e⟩:=x;exact⟨z,its,n,r,k _ _ (.inl rfl) e⟩
 |tup xs=>obtain⟨z,its,r,ob,e,c⟩:=x;exact⟨z,its,r,ob,k _ _ (.inl rfl) e,c⟩
 |dK kvs=>obtain⟨z,y,vs,r,ob,es,ep,e,c⟩:=x;exact⟨z,y,vs,r,ob,es,ep,k _ _ (.inl rfl) e,c⟩
 |dT kvs=>
  obtain⟨z,y,xs,r,ob,es,ep,e,c⟩:=x;exact⟨z,y,xs,Paired.mapP r fun p q z=>⟨z.1,ht _ _ z.2.1,z.2.2⟩,ob,es,ep,k _ _ (.inl rfl) e,c⟩
 |set S n=>obtain⟨ob,es,ep,t,e,c⟩:=x;exact⟨ob,es,ep,t,k _ _ (.inl rfl) e,c⟩
 |ins C dx fs=>
  obtain⟨d,z,ne,e,mA,⟨od,es,ep,e2,c⟩,r⟩:=x;exact⟨ho _ d,z,ne,k _ _ (.inl rfl) e,mA,⟨od,es,ep,k _ _ (.inr d) e2,c⟩,r⟩
 |own y=>obtain⟨ob,e⟩:=x;exact⟨ob,k _ _ (.inl rfl) e⟩
 |xd fs=>obtain⟨mA,⟨od,es,ep,e,c⟩,r⟩:=x;exact⟨mA,⟨od,es,ep,k _ _ (.inl rfl) e,c⟩,r⟩
 |rng lo hi=>obtain⟨t,u,v,e⟩:=x;exact⟨t,u,v,k _ _ (.inl rfl) e⟩
 |frz ob u ih=>obtain⟨e,q⟩:=x;exact⟨k _ _ (.inl rfl) e,ih q⟩
 |tbl ps=>
  have e:h.get? a=some { cls:=.none,data:=.fields ps }:=x;show h'.get? a=some { cls:=.none,data:=.fields ps };exact k a _ (.inl rfl) e
 |met f y=>
  have e:h.get? a=some (PySem.W.methodObj (.ref f) (.ref y)):=x;show h'.get? a=some (PySem.W.methodObj (.ref f) (.ref y));exact k a _ (.inl rfl) e
 |ext φ=>obtain⟨p,⟨o,e⟩,st⟩:=x;exact⟨st _ _ p fun o q=>k _ _ (.inl rfl) q,⟨o,k _ _ (.inl rfl) e⟩,st⟩
theorem HOk.lt (x:HOk P w H h)(e:H a=some o):a < h.objs.size:=(x a o e).lt
theorem HOk.fresh (x:HOk P w H h)(e:h.objs.size<=a):H a=none:=by
 cases q:H a with
 |none=>rfl
 |some u=>exact absurd (Nat.lt_of_lt_of_le (x.lt q) e) (Nat.lt_irrefl _)
theorem HOk.kept (x:HOk P w H h)(k:∀b u,h.get? b=some u->h'.get? b=some u):HOk P w H h':=fun a o e=>
 (x a o e).stay (fun b u _ q=>k b u q) (fun _ q=>q) fun _ _ q=>q
theorem HOk.laid (x:HOk P w H h)(k:∀b u,h.get? b=some u->h'.get? b=some u)(hp:h.objs.size<=a)(new:cB P w (upd H a o) h' a o):HOk P w (upd H a o) h':=fun b u e=>by
 have hn:=x.fresh hp
 by_cases hb:b=a
 ·subst hb;rw[aF] at e;cases e;exact new
 ·rw[aU hb] at e;exact(x b u e).stay (fun c v _ q=>k c v q) (fun c q=>by rw[aU (bD q hn)];exact q) fun c xs q=>by rw[aU (bD q hn)];exact q
end
def Rd (H:Hp)(a:Addr)(u:HO):Prop:=H a=some u\/∃o,H a=some (.frz o u)
theorem Rd.ok {P:Program}{w:World}{H:Hp}{h:Heap}{a:Addr}{u:HO}(r:Rd H a u)(x:HOk P w H h):cB P w H h a u:=by
 rcases r with r | ⟨o,r⟩
 ·exact x a u r
 ·obtain⟨_,q⟩:=x a _ r;exact q
def Mut:Option HO->Prop
 |some (.lst _)=>True
 |some (.dK _)=>True
 |some (.dT _)=>True
 |some (.set _ _)=>True
 |some (.ins _ _ _)=>True
 |some (.ext _)=>True
 |_=>False
section
variable {P:Program} {w:World} {H:Hp} {h h':Heap} {x e:Addr} {o':HO}
theorem HOk.write (ok:HOk P w H h)(mu:Mut (H x))(he:e=x\/H e=some (.own x))(k:∀b u,b≠e->h.get? b=some u->h'.get? b=some u)(heo:∃u,h'.get? e=some u)(new:cB P w (upd H x o') h' x o'):HOk P w (upd H x o') h':=fun b u q=>by
 have nown:∀c y,H c=some (.own y)->c≠x:=fun c y r z=>by subst z;rw[r] at mu;exact mu
 have ntup:∀c xs,H c=some (.tup xs)->c≠x:=fun c xs r z=>by subst z;rw[r] at mu;exact mu
 by_cases hb:b=x
 ·subst hb;rw[aF] at q;cases q;exact new
 ·rw[aU hb] at q
  by_cases hbe:b=e
  ·have q':H b=some (.own x):=by
    rcases he with z | z
    ·exact absurd (hbe.trans z) hb
    ·rw[hbe];exact z
   rw[q] at q';cases q';obtain⟨v,hv⟩:=heo;exact⟨v,by rw[hbe];exact hv⟩
  ·refine(ok b u q).stay (fun c v hc r=>k c v ?_ r) (fun c r=>by rw[aU (nown c b r)];exact r) fun c xs r=>by rw[aU (ntup c xs r)];exact r
   rcases hc with rfl | hc
   ·exact hbe
   ·rintro rfl;rcases he with z | z
    ·exact nown c b hc z
    ·rw[hc] at z;cases z;exact hb rfl
end
structure Un (fs ex:List Addr) (H H':Hp) (h h':Heap):Prop where
 keep:∀b o,h.get? b=some o->H b=none->b∉fs->b∉ex->h'.get? b=some o
 slot:∀b o,h.get? b=some o->H b=none->b∈fs->b∉ex->∃sl,h'.get? b=some { o with slots:=sl }
 free:∀b o,h.get? b=some o->H b=none->b∉ex->H' b=none
 there:∀b o,h.get? b=some o->b∉ex->∃o',h'.get? b=some o'
 tups:∀b xs,H b=some (.tup xs)->H' b=some (.tup xs)
 frzs:∀b o u,H b=some (.frz o u)->H' b=some (.frz o u)
 tbls:∀b ps,H b=some (.tbl ps)->∃more,H' b=some (.tbl (ps++more))
section
variable {fs fs' ex ex':List Addr} {H H1 H2:Hp} {h h1 h2 h':Heap} {a x e:Addr} {o:HO}
theorem Un.any (u:Un fs ex H H1 h h1){b:Addr}{ob:Obj}(q:h.get? b=some ob)(n:H b=none)(hx:b∉ex):∃sl,h1.get? b=some { ob with slots:=sl }:=by
 by_cases hb:b∈fs
 ·exact u.slot b ob q n hb hx
 ·exact⟨ob.slots,u.keep b ob q n hb hx⟩
theorem Un.kept (k:∀b u,h.get? b=some u->h'.get? b=some u):Un fs ex H H h h':=
 ⟨fun b ob q _ _ _=>k b ob q,fun b ob q _ _ _=>⟨ob.slots,k b ob q⟩,fun _ _ _ n _=>n,fun b ob q _=>⟨ob,k b ob q⟩,fun _ _ q=>q,fun _ _ _ q=>q,fun _ ps q=>⟨#[],by rw[q];simp⟩⟩
theorem Un.refl:Un fs ex H H h h:=Un.kept fun _ _ q=>q
theorem Un.laid (k:∀b u,h.get? b=some u->h'.get? b=some u)(hp:h.objs.size<=a)(hn:H a=none):Un fs ex H (upd H a o) h h' where
 keep:=fun b u q _ _ _=>k b u q
 slot:=fun b u q _ _ _=>⟨u.slots,k b u q⟩
 free:=fun b u q n _=>by rw[aU (Nat.ne_of_lt (Nat.lt_of_lt_of_le (Heap.lt_size q) hp))];exact n
 there:=fun b u q _=>⟨u,k b u q⟩
 tups:=fun b xs q=>by rw[aU (bD q hn)];exact q
 frzs:=fun b u xs q=>by rw[aU (bD q hn)];exact q
 tbls:=fun b ps q=>⟨#[],by rw[aU (bD q hn),q];simp⟩
theorem Un.write (mu:Mut (H x))(he:e=x\/H e=some (.own x))(k:∀b u,b≠e->h.get? b=some u->h'.get? b=some u)(heo:∃u,h'.get? e=some u):Un fs ex H (upd H x o) h h':=by
 have hx:∀b,H b=none->b≠x:=fun b n z=>by subst z;rw[n] at mu;exact mu
 have hb:∀b,H b=none->b≠e:=fun b n z=>by
  subst z;rcases he with r | r
  ·exact hx b n r
  ·rw[n] at r;cases r
 have hm:∀b u,H b=some u->¬Mut (some u)->b≠x:=fun b u q nm z=>by subst z;rw[q] at mu;exact nm mu
 refine⟨fun b u q n _ _=>k b u (hb b n) q,fun b u q n _ _=>⟨u.slots,k b u (hb b n) q⟩,fun b u q n _=>by rw[aU (hx b n)];exact n,fun b u q _=>?_,
  fun b xs q=>by rw[aU (hm b _ q fun z=>z)];exact q,fun b u xs q=>by rw[aU (hm b _ q fun z=>z)];exact q,fun b ps q=>⟨#[],by rw[aU (hm b _ q fun z=>z),q];simp⟩⟩
 by_cases hbe:b=e
 ·subst hbe;exact heo
 ·exact⟨u,k b u hbe q⟩
end
def trk (h:Heap)(H:Hp):List Addr:=(List.range h.objs.size).filter fun a=>(H a).isSome
def pE (h:Heap)(H:Hp):Heap:=PySem.W.hideAll h (trk h H)
theorem wL (h:Heap)(H:Hp):(pE h H).objs.size=h.objs.size:=PySem.W.hideAll_size _ _
theorem yT {h:Heap}{H:Hp}{b:Addr}{o:Obj}(e:h.get? b=some o)(n:H b=none):(pE h H).get? b=some o:=
 PySem.W.hideAll_get _ e fun hm=>by
  have q:(H b).isSome=true:=(List.mem_filter.mp hm).2;rw[n] at q;simp at q
theorem Bi {h:Heap}{H:Hp}{b:Addr}{o:Obj}(e:(pE h H).get? b=some o):h.get? b=some o/\H b=none:=by
 have e':h.get? b=some o:=PySem.W.of_hideAll (trk h H) e;refine⟨e',?_⟩
 cases q:H b with
 |none=>rfl
 |some x=>
  have hm:b∈trk h H:=List.mem_filter.mpr ⟨List.mem_range.mpr (Heap.lt_size e'),by simp[q]⟩;have z:(pE h H).get? b=none:=PySem.W.hideAll_none (trk h H) hm;rw[z] at e;cases e
structure Mod (K:PySem.W.Frag) (mg:Str->Option Value) (base:Heap):Prop where
 kin:K.In base
 glob:base.Ns mainGlobals mg
 blt:∃mb,base.Ns builtinsNs mb/\∀x:Str,x≠"__name__"->mb x=bootBuiltins x
 nolimit:base.NoLimit
structure Cx where
 prog:Program
 w:World
 K:PySem.W.Frag
 mg:Str->Option Value
 base:Heap
 A:Around
 N:List Str
 s₀:Shared
 H₀:Hp
 env:Env
 outer:List Env
 stack:List Env
 ex:List Addr
 fn:Str->Bool
 calm:Bool
 pn:List (Addr × Obj)
 xe:Value->Shared->Prop
def frs (l:List Env):List Addr:=l.filterMap (·.frame)
abbrev Cx.fs (X:Cx):List Addr:=frs X.outer
def Vis (sc:Scope)(x:Str):Prop:=sc.names.lookup x=some .local\/sc.names.lookup x=some .cell\/sc.names.lookup x=some .free
def Loc (sc:Scope)(x:Str):Prop:=sc.names.lookup x=some .local\/sc.names.lookup x=some .cell
def Hx (env:Env)(h:Heap)(m:Str->Option Value)(x:Str)(u:Value):Prop:=
 (env.kindOf x=some .local/\m x=some u)\/((env.kindOf x=some .cell\/env.kindOf x=some .free)/\∃c,env.cells.lookup x=some c/\h.IsCell c (some u))
structure Cx.Ok (X:Cx):Prop where
 mod:Mod X.K X.mg X.base
 kind:X.env.scope.kind=.function
 glob:X.env.globals=mainGlobals
 blt:X.env.builtins=builtinsNs
 above:X.s₀.heap.objs.size<=X.env.locals
 inj:∀x y c,X.env.cells.lookup x=some c->X.env.cells.lookup y=some c->x=y
 has:∀x,(X.env.kindOf x=some .cell\/X.env.kindOf x=some .free)->∃c,X.env.cells.lookup x=some c
 cab:∀x c,X.fn x=true->X.env.cells.lookup x=some c->X.s₀.heap.objs.size<=c
 hd:X.calm=true->X.A.handled=none
 frames:X.A.frames=some X.stack
 stk:X.stack=X.outer\/(X.stack=X.env :: X.outer/\X.env.frame=some X.env.locals)
 exf:∀b∈X.ex,b≠X.env.locals/\∀x c,X.env.cells.lookup x=some c->c≠b
 bs:∀b o,X.base.get? b=some o->X.s₀.heap.get? b=some o/\X.H₀ b=none
 bsz:X.base.objs.size<=X.s₀.heap.objs.size
 noex:∀b o,X.base.get? b=some o->b∉X.ex
 exfs:∀b∈X.ex,b∉X.fs
 funs:X.s₀.heap.FunFrames X.base X.outer
 frf:∀b∈X.fs,X.H₀ b=none
structure Inv (X:Cx) (pins:List (Addr × Obj)) (σ:List (Option V)) (H:Hp) (s:Shared):Prop where
 ok:X.Ok
 os:s.os=X.s₀.os
 bare:AllBare s.gens
 base:Un X.fs X.ex X.H₀ H X.s₀.heap s.heap
 loc:∃m,s.heap.Ns X.env.locals m/\∀(i:Nat) (x:Str) (v:V),X.N[i]?=some x->σ[i]?=some (some v)->Vis X.env.scope x->∃u,bK v u/\Hx X.env s.heap m x u
 cell:∀x c,X.env.cells.lookup x=some c->∃v,s.heap.IsCell c v
 free:H X.env.locals=none
 freeC:∀x c,X.env.cells.lookup x=some c->H c=none
 pin:∀p∈X.pn++pins,s.heap.get? p.1=some p.2/\H p.1=none/\p.1≠X.env.locals/\p.1∉X.fs/\∀v,p.2.data≠.cell v
 hok:HOk X.prog X.w H s.heap
 len:σ.length=X.N.length
section
variable {X:Cx} {pins:List (Addr × Obj)} {σ:List (Option V)} {H H':Hp} {s:Shared} {h':Heap}
theorem Cx.Ok.nofr (ok:X.Ok){b:Addr}{o:Obj}(e:X.base.get? b=some o):b∉X.fs:=fun hb=>by
 have:=(ok.funs.mem hb).1;rw[e] at this;cases this
theorem Inv.bs (I:Inv X pins σ H s):∀b o,X.base.get? b=some o->s.heap.get? b=some o/\H b=none:=fun b o e=>
 ⟨I.base.keep b o (I.ok.bs b o e).1 (I.ok.bs b o e).2 (I.ok.nofr e) (I.ok.noex b o e),I.base.free b o (I.ok.bs b o e).1 (I.ok.bs b o e).2 (I.ok.noex b o e)⟩
theorem Inv.bk (I:Inv X pins σ H s):∀b o,X.base.get? b=some o->s.heap.get? b=some o:=fun b o e=>(I.bs b o e).1
theorem Inv.mod (I:Inv X pins σ H s):Mod X.K X.mg X.base:=I.ok.mod
theorem Inv.kIn (I:Inv X pins σ H s):X.K.In s.heap:=I.ok.mod.kin.keeps I.bk
theorem Inv.lt (I:Inv X pins σ H s):X.env.locals < s.heap.objs.size:=let ⟨_,hn,_⟩:=I.loc;hn.lt
theorem Inv.sz (I:Inv X pins σ H s):X.s₀.heap.objs.size<=s.heap.objs.size:=Nat.le_trans I.ok.above (Nat.le_of_lt I.lt)
theorem Inv.nofs (I:Inv X pins σ H s){a:Addr}(h:s.heap.objs.size<=a):a∉X.fs:=fun hb=>by
 obtain⟨_,o,ho,_⟩:=I.ok.funs.mem hb;exact absurd (Nat.lt_of_lt_of_le (Heap.lt_size ho) (Nat.le_trans I.sz h)) (Nat.lt_irrefl _)
theorem Inv.cne (I:Inv X pins σ H s):∀x c,X.env.cells.lookup x=some c->c≠X.env.locals:=fun x c e z=>by
 obtain⟨v,o,ho,hd⟩:=I.cell x c e;obtain⟨m,⟨o',es,ep,ho',hd',_⟩,_⟩:=I.loc;rw[z,ho'] at ho;cases ho;rw[hd'] at hd;cases hd
theorem Inv.funs (I:Inv X pins σ H s):s.heap.FunFrames X.base X.outer:=by
 have all:∀(l:List Env),(∀b∈frs l,b∈X.fs)->X.s₀.heap.FunFrames X.base l->s.heap.FunFrames X.base l:=by
  intro l
  induction l with
  |nil=>intro _ _;trivial
  |cons env r ih=>
   intro hs hl;obtain⟨hk,⟨L,o,hf,hn,ho,hd⟩,hr⟩:=hl;have hL:L∈X.fs:=hs L (by unfold frs;rw[List.filterMap_cons,hf];exact List.mem_cons_self);obtain⟨sl,e⟩:=I.base.slot L o ho (I.ok.frf L hL) hL fun z=>I.ok.exfs L z hL;exact⟨hk,⟨L,_,hf,hn,e,hd⟩,ih (fun b hb=>hs b (by unfold frs;rw[List.filterMap_cons,hf];exact List.mem_cons_of_mem _ hb)) hr⟩
 exact all X.outer (fun _ hb=>hb) I.ok.funs
theorem Inv.stack (I:Inv X pins σ H s):s.heap.FunFrames X.base X.stack:=by
 rcases I.ok.stk with e | ⟨e,hf⟩
 ·rw[e];exact I.funs
 ·rw[e];obtain⟨m,hn,_⟩:=I.loc;refine .cons (by rw[I.ok.kind];decide) hf hn ?_ I.funs;exact Heap.get?_none_of_le (Nat.le_trans I.ok.bsz I.ok.above)
theorem Inv.stkSub (I:Inv X pins σ H s):∀b∈frs X.stack,b∈X.env.locals :: X.fs:=fun b hb=>by
 rcases I.ok.stk with e | ⟨e,hf⟩
 ·rw[e] at hb;exact List.mem_cons_of_mem _ hb
 ·rw[e] at hb;unfold frs at hb;rw[List.filterMap_cons,hf] at hb;exact hb
theorem Inv.stkFree (I:Inv X pins σ H s):∀b∈frs X.stack,H b=none:=fun b hb=>by
 rcases List.mem_cons.mp (I.stkSub b hb) with e | hb
 ·rw[e];exact I.free
 ·obtain⟨_,o,ho,_⟩:=I.ok.funs.mem hb;exact I.base.free b o ho (I.ok.frf b hb) fun z=>I.ok.exfs b z hb
theorem Inv.step {g':Array GenState}{t':Nat}{d':Drawn}{ch:List Addr}(I:Inv X pins σ H s)(hch:∀b∈ch,(b∈X.ex\/X.s₀.heap.objs.size<=b)/\b≠X.env.locals/\(∀x c,X.env.cells.lookup x=some c->c≠b)/\∀p∈X.pn++pins,p.1≠b)(keep:∀b o,b≠X.env.locals->b∉X.fs->b∉ch->s.heap.get? b=some o->H b=none->h'.get? b=some o)(slot:∀b o,b≠X.env.locals->b∈X.fs->b∉ch->s.heap.get? b=some o->H b=none->∃sl,h'.get? b=some { o with slots:=sl })(free:∀b o,b∉ch->s.heap.get? b=some o->H b=none->H' b=none)(there:∀b o,b∉ch->s.heap.get? b=some o->∃o',h'.get? b=some o')(tups:∀b xs,H b=some (.tup xs)->H' b=some (.tup xs))(frzs:∀b o u,H b=some (.frz o u)->H' b=some (.frz o u))(tbls:∀b ps,H b=some (.tbl ps)->∃more,H' b=some (.tbl (ps++more)))(ns:∀m,s.heap.Ns X.env.locals m->h'.Ns X.env.locals m)(hok:HOk X.prog X.w H' h')(hg:AllBare g') :
  Inv X pins σ H' { s with heap:=h',gens:=g',drawn:=d',toks:=t' }:=by
 have neL:∀b o,X.s₀.heap.get? b=some o->b≠X.env.locals:=fun b o e=>Nat.ne_of_lt (Nat.lt_of_lt_of_le (Heap.lt_size e) I.ok.above);have neC:∀b o,X.s₀.heap.get? b=some o->b∉X.ex->b∉ch:=fun b o e hx hb=>by
  rcases (hch b hb).1 with z | z
  ·exact hx z
  ·exact absurd (Nat.lt_of_lt_of_le (Heap.lt_size e) z) (Nat.lt_irrefl _)
 have cellK:∀x c,X.env.cells.lookup x=some c->∀v,s.heap.IsCell c v->h'.IsCell c v:=fun x c e v ⟨o,ho,hd⟩=>by
  have nch:c∉ch:=fun z=>(hch c z).2.2.1 x c e rfl
  by_cases hc:c∈X.fs
  ·obtain⟨sl,q⟩:=slot c o (I.cne x c e) hc nch ho (I.freeC x c e);exact⟨_,q,hd⟩
  ·exact⟨o,keep c o (I.cne x c e) hc nch ho (I.freeC x c e),hd⟩
 refine⟨I.ok,I.os,hg,⟨fun b o e n hb hx=>?_,fun b o e n hb hx=>?_,fun b o e n hx=>?_,fun b o e hx=>?_,fun b xs e=>tups b xs (I.base.tups b xs e),fun b o xs e=>frzs b o xs (I.base.frzs b o xs e),fun b ps e=>?_⟩,?_,fun x c e=>?_,?_,fun x c e=>?_,fun p hp=>?_,hok,I.len⟩
 ·exact keep b o (neL b o e) hb (neC b o e hx) (I.base.keep b o e n hb hx) (I.base.free b o e n hx)
 ·obtain⟨sl,e1⟩:=I.base.slot b o e n hb hx;obtain⟨sl',e2⟩:=slot b _ (neL b o e) hb (neC b o e hx) e1 (I.base.free b o e n hx);exact⟨sl',e2⟩
 ·obtain⟨o',e1⟩:=I.base.there b o e hx;exact free b o' (neC b o e hx) e1 (I.base.free b o e n hx)
 ·obtain⟨o',e1⟩:=I.base.there b o e hx;exact there b o' (neC b o e hx) e1
 ·obtain⟨m1,e1⟩:=I.base.tbls b ps e;obtain⟨m2,e2⟩:=tbls b _ e1;exact⟨m1++m2,by rw[e2,Array.append_assoc]⟩
 ·obtain⟨m,hn,hl⟩:=I.loc;refine⟨m,ns m hn,fun i x v e1 e2 e3=>?_⟩;obtain⟨u,r,l⟩:=hl i x v e1 e2 e3;refine⟨u,r,?_⟩;rcases l with l | ⟨k,c,e,z⟩
  ·exact .inl l
  ·exact .inr ⟨k,c,e,cellK x c e _ z⟩
 ·obtain⟨v,z⟩:=I.cell x c e;exact⟨v,cellK x c e v z⟩
 ·obtain⟨m,⟨o,_,_,ho,_⟩,_⟩:=I.loc;exact free _ o (fun z=>(hch _ z).2.1 rfl) ho I.free
 ·obtain⟨v,o,ho,hd⟩:=I.cell x c e;exact free c o (fun z=>(hch c z).2.2.1 x c e rfl) ho (I.freeC x c e)
 ·obtain⟨e,n,ne,nf,d⟩:=I.pin p hp;have nch:p.1∉ch:=fun z=>(hch p.1 z).2.2.2 p hp rfl;exact⟨keep p.1 p.2 ne nf nch e n,free p.1 p.2 nch e n,ne,nf,d⟩
theorem Inv.un {t':Nat}(I:Inv X pins σ H s)(u:Un X.fs [] H H' s.heap h')(hok:HOk X.prog X.w H' h'):Inv X pins σ H' { s with heap:=h',toks:=t' }:=by
 obtain⟨m,⟨o,es,ep,ho,r⟩,_⟩:=id I.loc;obtain⟨sl,hL⟩:=u.any ho I.free (by simp);exact I.step (g':=s.gens) (d':=s.drawn) (ch:=[]) (fun _ z=>nomatch z) (fun b o _ hb _ e n=>u.keep b o e n hb (by simp)) (fun b o _ hb _ e n=>u.slot b o e n hb (by simp)) (fun b o _ e n=>u.free b o e n (by simp)) (fun b o _ e=>u.there b o e (by simp)) u.tups u.frzs u.tbls (fun m' hm=>by
  obtain⟨o',es',ep',ho',r'⟩:=hm;rw[ho] at ho';cases ho';exact⟨_,es',ep',hL,r'⟩) hok I.bare
theorem Inv.call {g':Array GenState}{t':Nat}{d':Drawn}{ch:List Addr}(I:Inv X pins σ H s)(u:Un (frs X.stack) ch H H' s.heap h')(hok:HOk X.prog X.w H' h')(hg:AllBare g')(hch:∀b∈ch,(b∈X.ex\/X.s₀.heap.objs.size<=b)/\b≠X.env.locals/\(∀x c,X.env.cells.lookup x=some c->c≠b)/\∀p∈X.pn++pins,p.1≠b) :
  Inv X pins σ H' { s with heap:=h',gens:=g',drawn:=d',toks:=t' }:=by
 obtain⟨m,⟨o,es,ep,ho,r⟩,_⟩:=id I.loc;obtain⟨sl,hL⟩:=u.any ho I.free fun z=>(hch _ z).2.1 rfl;exact I.step (ch:=ch) hch (fun b o hL hb hc e n=>u.keep b o e n (fun z=>(List.mem_cons.mp (I.stkSub b z)).elim hL hb) hc) (fun b o _ _ hc e n=>u.any e n hc) (fun b o hc e n=>u.free b o e n hc) (fun b o hc e=>u.there b o e hc) u.tups u.frzs u.tbls (fun m' hm=>by
  obtain⟨o',es',ep',ho',r'⟩:=hm;rw[ho] at ho';cases ho';exact⟨_,es',ep',hL,r'⟩) hok hg
theorem Inv.turned {t':Nat}{it:Addr}(I:Inv X pins σ H s)(k:∀b o,b≠it->s.heap.get? b=some o->h'.get? b=some o)(hn:H it=none)(hL:it≠X.env.locals)(h1:it∈X.ex\/X.s₀.heap.objs.size<=it)(h2:∀x c,X.env.cells.lookup x=some c->c≠it)(h3:∀p∈X.pn++pins,p.1≠it):Inv X pins σ H { s with heap:=h',toks:=t' }:=by
 have nit:∀b u,H b=some u->b≠it:=fun b u e z=>by rw[z,hn] at e;cases e
 refine I.step (g':=s.gens) (d':=s.drawn) (ch:=[it]) (fun b hb=>?_) (fun b o _ _ hc e _=>k b o (fun z=>hc (by simp[z])) e) (fun b o _ _ hc e _=>⟨o.slots,k b o (fun z=>hc (by simp[z])) e⟩) (fun _ _ _ _ n=>n)
  (fun b o hc e=>⟨o,k b o (fun z=>hc (by simp[z])) e⟩) (fun _ _ e=>e) (fun _ _ _ e=>e) (fun b ps e=>⟨#[],by rw[e];simp⟩) (fun m hm=>?_) (fun b u e=>?_) I.bare
 ·have e:b=it:=by simpa using hb
  subst e;exact⟨h1,hL,h2,h3⟩
 ·obtain⟨o,es,ep,ho,r⟩:=hm;exact⟨o,es,ep,k _ o (Ne.symm hL) ho,r⟩
 ·refine(I.hok b u e).stay (fun c v hc q=>k c v ?_ q) (fun _ q=>q) fun _ _ q=>q;rcases hc with z | z
  ·rw[z];exact nit b u e
  ·exact nit c _ z
theorem Inv.tok (I:Inv X pins σ H s)(t:Nat):Inv X pins σ H { s with toks:=t }:=I.un (h':=s.heap) (t':=t) Un.refl I.hok
theorem Inv.kept {t':Nat}(I:Inv X pins σ H s)(k:∀b u,s.heap.get? b=some u->h'.get? b=some u):Inv X pins σ H { s with heap:=h',toks:=t' }:=I.un (Un.kept k) (I.hok.kept k)
theorem Inv.laid {a:Addr}{o:HO}{t':Nat}(I:Inv X pins σ H s)(k:∀b u,s.heap.get? b=some u->h'.get? b=some u)(hp:s.heap.objs.size<=a)(new:cB X.prog X.w (upd H a o) h' a o) :
  Inv X pins σ (upd H a o) { s with heap:=h',toks:=t' }:=I.un (Un.laid k hp (I.hok.fresh hp)) (I.hok.laid k hp new)
theorem Inv.write {x e:Addr}{o:HO}{t':Nat}(I:Inv X pins σ H s)(mu:Mut (H x))(he:e=x\/H e=some (.own x))(k:∀b u,b≠e->s.heap.get? b=some u->h'.get? b=some u)(heo:∃u,h'.get? e=some u)(new:cB X.prog X.w (upd H x o) h' x o):Inv X pins σ (upd H x o) { s with heap:=h',toks:=t' }:=I.un (Un.write mu he k heo) (I.hok.write mu he k heo new)
theorem Inv.weak {σ':List (Option V)}(I:Inv X pins σ H s)(hl:σ'.length=σ.length)(w:∀(i:Nat) v,σ'[i]?=some (some v)->σ[i]?=some (some v)):Inv X pins σ' H s:=
 ⟨I.ok,I.os,I.bare,I.base,let ⟨m,hn,hl'⟩:=I.loc;⟨m,hn,fun i x v e1 e2 e3=>hl' i x v e1 (w i v e2) e3⟩,I.cell,I.free,I.freeC,I.pin,I.hok,hl.trans I.len⟩
theorem Inv.pins_of {pins':List (Addr × Obj)}(I:Inv X pins σ H s)(h:∀p∈pins',s.heap.get? p.1=some p.2/\H p.1=none/\p.1≠X.env.locals/\p.1∉X.fs/\∀v,p.2.data≠.cell v):Inv X pins' σ H s:=
 ⟨I.ok,I.os,I.bare,I.base,I.loc,I.cell,I.free,I.freeC,fun p hp=>(List.mem_append.mp hp).elim (fun z=>I.pin p (List.mem_append_left _ z)) (h p),I.hok,I.len⟩
theorem qE {N:List Str}(hN:N.Nodup){i j:Nat}{x:Str}(a:N[i]?=some x)(b:N[j]?=some x):i=j:=by
 obtain⟨h1,e1⟩:=List.getElem?_eq_some_iff.mp a;obtain⟨h2,e2⟩:=List.getElem?_eq_some_iff.mp b;exact(List.getElem_inj hN).mp (e1.trans e2.symm)
theorem oR {M:Model}{A:Around}{E:Value->Shared->Prop}{i:Nat}{x:Str}{v:V}{u:Value}{Q:Unit->Shared->Prop}(I:Inv X pins σ H s)(hN:X.N.Nodup)(hi:X.N[i]?=some x)(hx:Loc X.env.scope x)(r:bK v u)(h:∀s',Inv X pins (σ.set i (some v)) H s'->(∃a,Heap.SameBut a s.heap s'.heap/\(a=X.env.locals\/X.env.cells.lookup x=some a))->Q () s')(hf:X.fn x=true\/X.env.scope.names.lookup x=some .local:=by first | exact .inl rfl | exact .inr rfl | assumption):wpAny M A (storeName X.env x u) Q E s:=by
 obtain⟨m,hn,hl⟩:=id I.loc;have hcls:(X.env.scope.kind == .class || (X.env.scope.kind == .module && X.env.locals != X.env.globals))=false:=by rw[I.ok.kind];rfl
 have hiσ:i < σ.length:=by rw[I.len];exact(List.getElem?_eq_some_iff.mp hi).1
 have cne:=I.cne;have tracked:∀{a:Addr} {h':Heap},(∃o,s.heap.get? a=some o/\H a=none)->Heap.SameBut a s.heap h'->HOk X.prog X.w H h':=fun {a h'} ha hs b ob e=>by
  obtain⟨_,_,hfree⟩:=ha;refine(I.hok b ob e).stay (fun c w' hc q=>(hs.2 c ?_).trans q) (fun _ q=>q) fun _ _ q=>q;rintro rfl;rcases hc with rfl | hc
  ·rw[hfree] at e;cases e
  ·rw[hfree] at hc;cases hc
 rcases hx with hk | hk
 ·refine wpAny_storeName_local hk hn (fun h' hn' hs=>?_) hcls;obtain⟨oL,_,_,hoL,_⟩:=id hn;refine h _ ⟨I.ok,I.os,I.bare,⟨fun b o e n hb hx=>?_,fun b o e n hb hx=>?_,I.base.free,fun b o e hx=>?_,I.base.tups,I.base.frzs,I.base.tbls⟩,⟨_,hn',fun j y v' e1 e2 e3=>?_⟩,fun y c e=>?_,I.free,I.freeC,fun p hp=>?_,tracked ⟨oL,hoL,I.free⟩ hs,by simpa using I.len⟩ ⟨_,hs,.inl rfl⟩
  ·exact(hs.2 b (Nat.ne_of_lt (Nat.lt_of_lt_of_le (Heap.lt_size e) I.ok.above))).trans (I.base.keep b o e n hb hx)
  ·obtain⟨sl,e1⟩:=I.base.slot b o e n hb hx;exact⟨sl,(hs.2 b (Nat.ne_of_lt (Nat.lt_of_lt_of_le (Heap.lt_size e) I.ok.above))).trans e1⟩
  ·obtain⟨o',e1⟩:=I.base.there b o e hx;exact⟨o',(hs.2 b (Nat.ne_of_lt (Nat.lt_of_lt_of_le (Heap.lt_size e) I.ok.above))).trans e1⟩
  ·by_cases hj:j=i
   ·subst hj;rw[hi] at e1;cases e1;rw[List.getElem?_set_self hiσ] at e2
    cases e2
    exact⟨u,r,.inl ⟨hk,by simp⟩⟩
   ·rw[List.getElem?_set_ne (Ne.symm hj)] at e2;obtain⟨u',r',q⟩:=hl j y v' e1 e2 e3;refine⟨u',r',?_⟩;rcases q with ⟨k,e⟩ | ⟨k,c,e,z⟩
    ·refine .inl ⟨k,?_⟩;have:y≠x:=fun e=>hj (qE hN e1 (e ▸ hi));simp[this,e]
    ·exact .inr ⟨k,c,e,z.sameBut hs (cne y c e)⟩
  ·obtain⟨w',z⟩:=I.cell y c e;exact⟨w',z.sameBut hs (cne y c e)⟩
  ·obtain⟨e,n,ne,nf,d⟩:=I.pin p hp;exact⟨(hs.2 p.1 ne).trans e,n,ne,nf,d⟩
 ·have hfn:X.fn x=true:=by
   rcases hf with z | z
   ·exact z
   ·rw[z] at hk;cases hk
  obtain⟨c,hc⟩:=I.ok.has x (.inl hk);obtain⟨w',z⟩:=I.cell x c hc;refine wpAny_storeName_cell I.ok.kind hk hc z (fun h' hc' hs=>?_);obtain⟨oc,hoc,hocd⟩:=id z;refine h { s with heap:=h' } ⟨I.ok,I.os,I.bare,⟨fun b o e n hb hx=>?_,fun b o e n hb hx=>?_,I.base.free,fun b o e hx=>?_,I.base.tups,I.base.frzs,I.base.tbls⟩,⟨m,hn.sameBut hs (Ne.symm (cne x c hc)),fun j y v' e1 e2 e3=>?_⟩,fun y c' e=>?_,I.free,I.freeC,fun p hp=>?_,tracked ⟨oc,hoc,I.freeC x c hc⟩ hs,by simpa using I.len⟩ ⟨c,hs,.inr hc⟩
  ·exact(hs.2 b (Nat.ne_of_lt (Nat.lt_of_lt_of_le (Heap.lt_size e) (I.ok.cab x c hfn hc)))).trans (I.base.keep b o e n hb hx)
  ·obtain⟨sl,e1⟩:=I.base.slot b o e n hb hx;exact⟨sl,(hs.2 b (Nat.ne_of_lt (Nat.lt_of_lt_of_le (Heap.lt_size e) (I.ok.cab x c hfn hc)))).trans e1⟩
  ·obtain⟨o',e1⟩:=I.base.there b o e hx;exact⟨o',(hs.2 b (Nat.ne_of_lt (Nat.lt_of_lt_of_le (Heap.lt_size e) (I.ok.cab x c hfn hc)))).trans e1⟩
  ·by_cases hj:j=i
   ·subst hj;rw[hi] at e1;cases e1;rw[List.getElem?_set_self hiσ] at e2
    cases e2
    exact⟨u,r,.inr ⟨.inl hk,c,hc,hc'⟩⟩
   ·rw[List.getElem?_set_ne (Ne.symm hj)] at e2;obtain⟨u',r',q⟩:=hl j y v' e1 e2 e3;refine⟨u',r',?_⟩;rcases q with q | ⟨k,c',e,z'⟩
    ·exact .inl q
    ·refine .inr ⟨k,c',e,z'.sameBut hs ?_⟩;rintro rfl;exact hj (qE hN e1 (I.ok.inj _ _ _ e hc ▸ hi))
  ·by_cases hcc:c'=c
   ·subst hcc;exact⟨_,hc'⟩
   ·obtain⟨w2,z2⟩:=I.cell y c' e;exact⟨w2,z2.sameBut hs hcc⟩
  ·obtain⟨e,n,ne,nf,d⟩:=I.pin p hp;refine⟨(hs.2 p.1 ?_).trans e,n,ne,nf,d⟩;intro q;rw[q,hoc] at e;have q':oc=p.2:=Option.some.inj e;exact d w' (by rw[<- q'];exact hocd)
theorem iU {M:Model}{A:Around}{E:Value->Shared->Prop}{i:Nat}{x:Str}{v:V}{u:Value}{Q:Unit->Shared->Prop}(I:Inv X pins σ H s)(hN:X.N.Nodup)(hi:X.N[i]?=some x)(hx:Loc X.env.scope x)(r:bK v u)(h:∀s',Inv X pins (σ.set i (some v)) H s'->Q () s')(hf:X.fn x=true\/X.env.scope.names.lookup x=some .local:=by first | exact .inl rfl | exact .inr rfl | assumption):wpAny M A (storeName X.env x u) Q E s:=
 oR I hN hi hx r (fun s' I' _=>h s' I') hf
theorem Inv.call' {s':Shared}{ch:List Addr}(I:Inv X pins σ H s)(ho:s'.os=s.os)(u:Un (frs X.stack) ch H H' s.heap s'.heap)(hok:HOk X.prog X.w H' s'.heap)(hg:AllBare s'.gens)(hch:∀b∈ch,(b∈X.ex\/X.s₀.heap.objs.size<=b)/\b≠X.env.locals/\(∀x c,X.env.cells.lookup x=some c->c≠b)/\∀p∈X.pn++pins,p.1≠b):Inv X pins σ H' s':=by
 obtain⟨h',g',d',t',o'⟩:=s';have e:o'=s.os:=ho;subst e;exact I.call (g':=g') (t':=t') (d':=d') u hok hg hch
end
abbrev XK:=Value->Option Addr->Hp->Prop
abbrev St:=List (Option V)
abbrev VK:=V->Hp->Prop
abbrev TE:=St->Hp->VK->Prop
abbrev TT:=St->Hp->(Bool->Hp->Prop)->Prop
abbrev TA:=St->Hp->(List V->Hp->Prop)->Prop
structure fF where
 nx:St->Hp->Prop
 rt:VK
 bk:St->Hp->Prop:=fun _ _=>False
 ct:St->Hp->Prop:=fun _ _=>False
abbrev TS:=fF->St->Hp->Prop
def EP (X:Cx)(pins:List (Addr × Obj))(σ:St)(Q:VK)(u:Value)(s':Shared):Prop:=∃v H',Inv X pins σ H' s'/\bK v u/\Q v H'
def TP (X:Cx)(pins:List (Addr × Obj))(σ:St)(Q:Bool->Hp->Prop)(b:Bool)(s':Shared):Prop:=∃H',Inv X pins σ H' s'/\Q b H'
def AP (X:Cx)(pins:List (Addr × Obj))(σ:St)(Q:List V->Hp->Prop)(us:List Value)(s':Shared):Prop:=∃vs H',Inv X pins σ H' s'/\bL vs us/\Q vs H'
def SP (X:Cx)(pins:List (Addr × Obj))(D:fF)(f:Flow)(s':Shared):Prop:=
 match f with
 | .next=>∃σ' H',Inv X pins σ' H' s'/\D.nx σ' H'
 | .brk=>∃σ' H',Inv X pins σ' H' s'/\D.bk σ' H'
 | .cont=>∃σ' H',Inv X pins σ' H' s'/\D.ct σ' H'
 | .ret u=>∃v σ' H',Inv X pins σ' H' s'/\bK v u/\D.rt v H'
def PE (X:Cx)(e:Expr)(t:TE):Prop:=
 ∀(pins:List (Addr × Obj)) (s:Shared) (σ:St) (H:Hp) (Q:VK),Inv X pins σ H s->t σ H Q->wpAny (model X.prog X.w) X.A (eval e X.env) (EP X pins σ Q) X.xe s
def PT (X:Cx)(e:Expr)(t:TT):Prop:=
 ∀(pins:List (Addr × Obj)) (s:Shared) (σ:St) (H:Hp) (Q:Bool->Hp->Prop),Inv X pins σ H s->t σ H Q->wpAny (model X.prog X.w) X.A (isTrue e X.env (eval e X.env)) (TP X pins σ Q) X.xe s
def PW (X:Cx)(e:Expr)(t:TT):Prop:=
 ∀(whole:Sem Value) (pins:List (Addr × Obj)) (s:Shared) (σ:St) (H:Hp) (Q:Bool->Hp->Prop),Inv X pins σ H s->t σ H Q->wpAny (model X.prog X.w) X.A (isTrue e X.env whole) (TP X pins σ Q) X.xe s
theorem PW.pt {X:Cx}{e:Expr}{t:TT}(h:PW X e t):PT X e t:=h _
def PA (X:Cx)(es:List Expr)(t:TA):Prop:=
 ∀(pos:Pos) (pins:List (Addr × Obj)) (s:Shared) (σ:St) (H:Hp) (Q:List V->Hp->Prop),Inv X pins σ H s->t σ H Q->wpAny (model X.prog X.w) X.A (spliced (backTo pos (starEach es X.env))) (AP X pins σ Q) X.xe s
def PS (X:Cx)(st:Stmt)(t:TS):Prop:=
 ∀(pins:List (Addr × Obj)) (s:Shared) (σ:St) (H:Hp) (D:fF),Inv X pins σ H s->t D σ H->wpAny (model X.prog X.w) X.A (exec st X.env) (SP X pins D) X.xe s
def PSs (X:Cx)(st:List Stmt)(t:TS):Prop:=
 ∀(pins:List (Addr × Obj)) (s:Shared) (σ:St) (H:Hp) (D:fF),Inv X pins σ H s->t D σ H->wpAny (model X.prog X.w) X.A (execs st X.env) (SP X pins D) X.xe s
theorem thn {α:Type}{t:Sem α}{Q Q':α->Shared->Prop}{M:Model}{A:Around}{E:Value->Shared->Prop}{s:Shared}(h:wpAny M A t Q E s)(hQ:∀a s,Q a s->Q' a s):wpAny M A t Q' E s:=wpAny_mono h hQ fun _ _ x=>x
section
variable {X:Cx}
def Bf (i:Nat):TE:=fun σ H Q=>∃v,σ[i]?=some (some v)/\Q v H
def tC (v:V):TE:=fun _ H Q=>Q v H
theorem yJ {i:Nat}{x:Str}{pos:Pos}(hN:X.N[i]?=some x)(hv:Vis X.env.scope x)(hd:(x == ("__debug__":Str))=false:=by decide)(hcd:(x == ("__classdict__":Str))=false:=by decide):PE X (.Name x pos) (Bf i):=by
 intro pins s σ H Q I h;obtain⟨v,e,h⟩:=h;obtain⟨m,hn,hl⟩:=I.loc;obtain⟨u,r,l⟩:=hl i x v hN e hv;have fin:EP X pins σ Q u s:=⟨v,H,I,r,h⟩
 rcases l with ⟨hk,hm⟩ | ⟨hk,c,hc,hcell⟩
 ·exact wpAny_Name (wpAny_loadName_local I.ok.kind hk hn hm fin) hd
 ·rcases hk with hk | hk
  ·exact wpAny_Name (wpAny_loadName_cell I.ok.kind hk hc hcell fin) hd
  ·exact wpAny_Name (wpAny_loadName_free I.ok.kind hk hc hcell fin hcd) hd
theorem aB {i j pos}:PE X (.Constant (.int i) j pos) (tC (.int i)):=fun _ _ _ H _ I h=>wpAny_Constant_int ⟨.int i,H,I.tok _,⟨_,rfl⟩,h⟩
theorem dG {b j pos}:PE X (.Constant (.bool b) j pos) (tC (.bl b)):=fun _ _ _ H _ I h=>Constant_bool ⟨.bl b,H,I,rfl,h⟩
theorem iI {j pos}:PE X (.Constant .none j pos) (tC .non):=fun _ _ _ H _ I h=>Constant_none ⟨.non,H,I,rfl,h⟩
theorem cN {x j pos}:PE X (.Constant (.str x) j pos) (tC (.str x)):=fun _ _ _ H _ I h=>Calls.Constant_str ⟨.str x,H,I.tok _,⟨_,rfl⟩,h⟩
def Gl (X:Cx)(x:Str):Prop:=X.env.kindOf x=some .globalImplicit
theorem gP {E:Value->Shared->Prop}{pins:List (Addr × Obj)}{s:Shared}{σ:St}{H:Hp}{x:Str}{u:Value}{pos:Pos}{Q:Value->Shared->Prop}(I:Inv X pins σ H s)(hg:Gl X x)(hm:X.mg x=some u)(h:Q u s)(hd:(x == ("__debug__":Str))=false:=by decide):wpAny (model X.prog X.w) X.A (eval (.Name x pos) X.env) Q E s:=
 Calls.Name_function_global I.ok.kind hg (Calls.loadGlobal_global (by rw[I.ok.glob];exact I.mod.glob.keeps I.bk) hm h) hd
theorem jW {E:Value->Shared->Prop}{pins:List (Addr × Obj)}{s:Shared}{σ:St}{H:Hp}{x:Str}{u:Value}{pos:Pos}{Q:Value->Shared->Prop}(I:Inv X pins σ H s)(hg:Gl X x)(hm:X.mg x=none)(hv:bootBuiltins x=some u)(h:Q u s)(hn:x≠"__name__":=by decide)(hd:(x == ("__debug__":Str))=false:=by decide):wpAny (model X.prog X.w) X.A (eval (.Name x pos) X.env) Q E s:=by
 obtain⟨mb,h1,h2⟩:=I.mod.blt;exact Calls.Name_function_global I.ok.kind hg (Calls.loadGlobal_builtin (by rw[I.ok.glob];exact I.mod.glob.keeps I.bk) hm (by rw[I.ok.blt];exact h1.keeps I.bk) ((h2 x hn).trans hv) h) hd
theorem gO {x:Str}{v:V}{u:Value}{pos:Pos}(hg:Gl X x)(hm:X.mg x=some u)(r:bK v u)(hd:(x == ("__debug__":Str))=false:=by decide):PE X (.Name x pos) (tC v):=
 fun _ _ _ H _ I h=>gP I hg hm ⟨v,H,I,r,h⟩ hd
theorem zX {x:Str}{v:V}{u:Value}{pos:Pos}(hg:Gl X x)(hm:X.mg x=none)(hv:bootBuiltins x=some u)(r:bK v u)(hn:x≠"__name__":=by decide)(hd:(x == ("__debug__":Str))=false:=by decide):PE X (.Name x pos) (tC v):=
 fun _ _ _ H _ I h=>jW I hg hm hv ⟨v,H,I,r,h⟩ hn hd
variable {a b:Expr} {ta tb:TE} {pos:Pos}
def PC (X:Cx)(op:CmpOp)(a b:Expr)(t:TE):Prop:=
 ∀(pins:List (Addr × Obj)) (s:Shared) (σ:St) (H:Hp) (Q:VK),Inv X pins σ H s->t σ H Q->
  wpAny (model X.prog X.w) X.A (eval a X.env) (fun v s₁=>wpAny (model X.prog X.w) X.A (eval b X.env) (fun u s₂=>wpAny (model X.prog X.w) X.A (compareOp op v u) (EP X pins σ Q) X.xe s₂) X.xe s₁) X.xe s
theorem qK (b:Expr){op:CmpOp}(h:op≠.In)(h2:op≠.NotIn):behindInMarks op b=false:=by
 have e1:(op == CmpOp.In)=false:=by cases op<;>first | rfl | exact absurd rfl h
 have e2:(op == CmpOp.NotIn)=false:=by cases op<;>first | rfl | exact absurd rfl h2
 cases b<;>simp[behindInMarks,e1,e2]
def Il (ta:TE):TE:=fun σ H Q=>ta σ H fun x H1=>Q (.bl (decide (x=.non))) H1
def Hb (ta:TE):TE:=fun σ H Q=>ta σ H fun x H1=>Q (.bl (!decide (x=.non))) H1
theorem bK.none_iff {x:V}{v:Value}(r:bK x v):(v == Value.none)=decide (x=.non):=by
 cases x with
 |non=>cases r;rfl
 |bl _=>cases r;rfl
 |int _=>obtain⟨t,rfl⟩:=r;rfl
 |str _=>obtain⟨t,rfl⟩:=r;rfl
 |byt _=>obtain⟨t,rfl⟩:=r;rfl
 |flt _=>obtain⟨t,rfl⟩:=r;rfl
 |ref _=>cases r;rfl
 |ty _=>cases r;rfl
theorem jV {j pos'}(ha:PE X a ta):PC X .Is a (.Constant .none j pos') (Il ta):=by
 intro pins s σ H Q I h;refine thn (ha pins s σ H _ I h) fun v s1 ⟨x,H1,I1,r1,q1⟩=>?_;exact Constant_none (is_none_gen ⟨.bl _,H1,I1,by rw[r1.none_iff];rfl,q1⟩)
theorem pA {j pos'}(ha:PE X a ta):PC X .IsNot a (.Constant .none j pos') (Hb ta):=by
 intro pins s σ H Q I h;refine thn (ha pins s σ H _ I h) fun v s1 ⟨x,H1,I1,r1,q1⟩=>?_;exact Constant_none (isnot_none_gen ⟨.bl _,H1,I1,by rw[r1.none_iff];rfl,q1⟩)
def tB (t:TE):TT:=fun σ H Q=>t σ H fun x H1=>∃c,x=.bl c/\Q c H1
theorem Ej {op:CmpOp}{t:TE}(h:PC X op a b t)(h1:behindInMarks op b=false:=by first | exact qK _ (by decide) (by decide) | rfl):PE X (.Compare a [op] [b] pos) t:=fun pins s σ H Q I hw=>wpAny_Compare1 (h pins s σ H Q I hw) h1
theorem dZ {op:CmpOp}{t:TE}(h:PC X op a b t)(h1:behindInMarks op b=false:=by first | exact qK _ (by decide) (by decide) | rfl):PT X (.Compare a [op] [b] pos) (tB t):=by
 intro pins s σ H Q I hw;refine wpAny_isTrue_Compare1 (thn (h pins s σ H _ I hw) fun v s1 h1=>thn h1 fun u s2 h2=>thn h2 fun c s3 ⟨x,H1,I1,r1,q1⟩=>?_) h1;obtain⟨d,rfl,q⟩:=q1
 cases r1
 exact wpAny_truthy_bool ⟨H1,I1,q⟩
theorem bN {e:Expr}{t:TE}(h:PE X e t)(he:∀whole,isTrue e X.env whole=(do let v <- whole;standAt e.pos;holding [v] (truthy v)):=by intro _;rfl):PT X e (tB t):=by
 intro pins s σ H Q I hw;refine isTrue_plain (thn (h pins s σ H _ I hw) fun v s1 ⟨x,H1,I1,r1,q1⟩=>?_) (he _);obtain⟨d,rfl,q⟩:=q1
 cases r1
 exact wpAny_truthy_bool ⟨H1,I1,q⟩
variable {tA tB':TT} {rest:List Expr}
def Iu (t u:TT):TT:=fun σ H Q=>t σ H fun c H1=>if c=true then u σ H1 Q else Q false H1
def tOr (t u:TT):TT:=fun σ H Q=>t σ H fun c H1=>if c=true then Q true H1 else u σ H1 Q
def Iq (t:TT):TT:=fun σ H Q=>t σ H fun c H1=>Q (!c) H1
theorem gX (ha:PT X a tA):PW X (.BoolOp .And [a] pos) tA:=by
 intro wh pins s σ H Q I h;refine isTrue_and (thn (ha pins s σ H Q I h) fun c s1 e=>?_)
 cases c with
 |true=>exact isTrue_and_nil e
 |false=>exact e
theorem cR (ha:PT X a tA):PW X (.BoolOp .Or [a] pos) tA:=by
 intro wh pins s σ H Q I h;refine isTrue_or (thn (ha pins s σ H Q I h) fun c s1 e=>?_)
 cases c with
 |false=>exact isTrue_or_nil e
 |true=>exact e
theorem kH (ha:PT X a tA)(hb:PW X (.BoolOp .And (b :: rest) pos) tB'):PW X (.BoolOp .And (a :: b :: rest) pos) (Iu tA tB'):=by
 intro wh pins s σ H Q I h;refine isTrue_and (thn (ha pins s σ H _ I h) fun c s1 ⟨H1,I1,q1⟩=>?_)
 cases c with
 |true=>exact hb wh pins s1 σ H1 Q I1 q1
 |false=>exact⟨H1,I1,q1⟩
theorem cW (ha:PT X a tA)(hb:PW X (.BoolOp .Or (b :: rest) pos) tB'):PW X (.BoolOp .Or (a :: b :: rest) pos) (tOr tA tB'):=by
 intro wh pins s σ H Q I h;refine isTrue_or (thn (ha pins s σ H _ I h) fun c s1 ⟨H1,I1,q1⟩=>?_)
 cases c with
 |true=>exact⟨H1,I1,q1⟩
 |false=>exact hb wh pins s1 σ H1 Q I1 q1
theorem cC (ha:PT X a tA):PT X (.UnaryOp .Not a pos) (Iq tA):=by
 intro pins s σ H Q I h;exact isTrue_not (ha pins s σ H (fun c H1=>Q (!c) H1) I h)
def Ht (ta tb:TE):TE:=fun σ H Q=>ta σ H fun x H1=>∃c,x=.bl c/\if c=true then tb σ H1 Q else Q (.bl false) H1
def Io (ta tb:TE):TE:=fun σ H Q=>ta σ H fun x H1=>∃c,x=.bl c/\if c=true then Q (.bl true) H1 else tb σ H1 Q
def Gh (ta:TE):TE:=fun σ H Q=>ta σ H fun x H1=>∃c,x=.bl c/\Q (.bl (!c)) H1
theorem jU {op}{t:TE}(h:PE X a t):PE X (.BoolOp op [a] pos) t:=fun pins s σ H Q I hw=>BoolOp_one (h pins s σ H Q I hw)
theorem iE (ha:PE X a ta)(hb:PE X (.BoolOp .And (b :: rest) pos) tb):PE X (.BoolOp .And (a :: b :: rest) pos) (Ht ta tb):=by
 intro pins s σ H Q I h;refine BoolOp_and (thn (ha pins s σ H _ I h) fun v s1 ⟨x,H1,I1,r1,q1⟩=>?_);obtain⟨c,rfl,q1⟩:=q1
 cases r1
 refine wpAny_truthy_bool ?_
 cases c with
 |true=>exact hb pins s1 σ H1 Q I1 q1
 |false=>exact⟨.bl false,H1,I1,rfl,q1⟩
theorem Hq (ha:PE X a ta)(hb:PE X (.BoolOp .Or (b :: rest) pos) tb):PE X (.BoolOp .Or (a :: b :: rest) pos) (Io ta tb):=by
 intro pins s σ H Q I h;refine BoolOp_or (thn (ha pins s σ H _ I h) fun v s1 ⟨x,H1,I1,r1,q1⟩=>?_);obtain⟨c,rfl,q1⟩:=q1
 cases r1
 refine wpAny_truthy_bool ?_
 cases c with
 |false=>exact hb pins s1 σ H1 Q I1 q1
 |true=>exact⟨.bl true,H1,I1,rfl,q1⟩
theorem El (ha:PE X a ta):PE X (.UnaryOp .Not a pos) (Gh ta):=by
 intro pins s σ H Q I h;refine UnaryOp_ (thn (ha pins s σ H _ I h) fun v s1 ⟨x,H1,I1,r1,q1⟩=>?_);obtain⟨c,rfl,q1⟩:=q1
 cases r1
 exact not_of (wpAny_truthy_bool ⟨.bl (!c),H1,I1,rfl,q1⟩)
def tIf (t:TT)(ta tb:TE):TE:=fun σ H Q=>t σ H fun c H1=>if c=true then ta σ H1 Q else tb σ H1 Q
theorem mG {c:Expr}(hc:PT X c tA)(ha:PE X a ta)(hb:PE X b tb):PE X (.IfExp c a b pos) (tIf tA ta tb):=by
 intro pins s σ H Q I h;refine wpAny_IfExp (thn (hc pins s σ H _ I h) fun d s1 ⟨H1,I1,q1⟩=>?_)
 cases d with
 |true=>exact ha pins s1 σ H1 Q I1 q1
 |false=>exact hb pins s1 σ H1 Q I1 q1
end
def SqL (K:PySem.W.Frag)(H:Hp)(a:Addr)(xs:List V):Prop:=
 Rd H a (.lst xs)\/
  ∃(o:Obj) (its:Array Value) (n:Nat),K.lookup a=some o/\o.cls=.type "list"/\o.dict=none/\o.data=.seq its n/\its.size<=sizeLine/\bL xs its.toList
def SqT (K:PySem.W.Frag)(H:Hp)(a:Addr)(xs:List V):Prop:=
 Rd H a (.tup xs)\/
  ∃(o:Obj) (its:Array Value) (n:Nat),K.lookup a=some o/\o.cls=.type "tuple"/\o.data=.seq its n/\its.size<=sizeLine/\bL xs its.toList
def Hv:Value->Option V
 | .none=>some .non
 | .bool b=>some (.bl b)
 | .int i _=>some (.int i)
 | .str x _=>some (.str x)
 | .bytes b _=>some (.byt b)
 | .float b _=>some (.flt b)
 | .ref a=>some (.ref a)
 | .type n=>some (.ty n)
 |_=>none
theorem bK.abs {x:V}{u:Value}(r:bK x u):Hv u=some x:=by
 cases x with
 |non=>cases r;rfl
 |bl _=>cases r;rfl
 |int _=>obtain⟨t,rfl⟩:=r;rfl
 |str _=>obtain⟨t,rfl⟩:=r;rfl
 |byt _=>obtain⟨t,rfl⟩:=r;rfl
 |flt _=>obtain⟨t,rfl⟩:=r;rfl
 |ref _=>cases r;rfl
 |ty _=>cases r;rfl
theorem bK.inj {x y:V}{u:Value}(r:bK x u)(q:bK y u):x=y:=Option.some.inj (r.abs.symm.trans q.abs)
theorem bL.inj:∀{xs ys:List V} {us:List Value},bL xs us->bL ys us->xs=ys
 |_,_,_,.nil,.nil=>rfl
 |_,_,_,.cons r t,.cons r' t'=>by rw[r.inj r',bL.inj t t']
section
variable {X:Cx} {pins:List (Addr × Obj)} {σ:St} {H:Hp} {s:Shared} {a:Addr} {xs ys:List V}
theorem SqL.of {K:PySem.W.Frag}(h:H a=some (.lst xs)):SqL K H a xs:=.inl (.inl h)
theorem SqT.of {K:PySem.W.Frag}(h:H a=some (.tup xs)):SqT K H a xs:=.inl (.inl h)
theorem Inv.list (I:Inv X pins σ H s)(h:SqL X.K H a xs):∃its:List Value,bL xs its/\PlainL s.heap a its.toArray/\xs.length<=sizeLine:=by
 rcases h with h | ⟨o,its,n,hk,hc,hd,hs,hz,r⟩
 ·obtain⟨z,its,n,r,e⟩:=h.ok I.hok;exact⟨its,r,⟨_,n,e,rfl,rfl,rfl⟩,z⟩
 ·refine⟨its.toList,r,⟨o,n,I.kIn a o hk,hc,hd,by simpa using hs⟩,?_⟩;have e:=r.length;simp only[Array.length_toList] at e;omega
theorem Inv.tuple (I:Inv X pins σ H s)(h:SqT X.K H a xs):∃its:List Value,bL xs its/\IsTup s.heap a its.toArray/\xs.length<=sizeLine:=by
 rcases h with h | ⟨o,its,n,hk,hc,hs,hz,r⟩
 ·obtain⟨z,its,r,p⟩:=h.ok I.hok;exact⟨its,r,p,z⟩
 ·refine⟨its.toList,r,⟨o,I.kIn a o hk,hc,n,by simpa using hs⟩,?_⟩;have e:=r.length;simp only[Array.length_toList] at e;omega
theorem Inv.list_inj (I:Inv X pins σ H s)(h:SqL X.K H a xs)(h':SqL X.K H a ys):xs=ys:=by
 obtain⟨its,r,⟨o,n,e,_,_,d⟩,_⟩:=I.list h;obtain⟨its',r',⟨o',n',e',_,_,d'⟩,_⟩:=I.list h';rw[e] at e';cases e';rw[d] at d';injection d' with d1 _
 have:its=its':=by simpa using congrArg Array.toList d1
 subst this;exact r.inj r'
theorem Inv.tuple_inj (I:Inv X pins σ H s)(h:SqT X.K H a xs)(h':SqT X.K H a ys):xs=ys:=by
 obtain⟨its,r,⟨o,e,_,n,d⟩,_⟩:=I.tuple h;obtain⟨its',r',⟨o',e',_,n',d'⟩,_⟩:=I.tuple h';rw[e] at e';cases e';rw[d] at d';injection d' with d1 _
 have:its=its':=by simpa using congrArg Array.toList d1
 subst this;exact r.inj r'
end
abbrev Cx.wish (X:Cx)(E:Value->Shared->Prop):Cx:={ X with xe:=E }
abbrev Cx.nox (X:Cx):Cx:=X.wish fun _ _=>False
theorem Cx.Ok.wish {X:Cx}(ok:X.Ok)(E:Value->Shared->Prop):(X.wish E).Ok:=
 ⟨ok.mod,ok.kind,ok.glob,ok.blt,ok.above,ok.inj,ok.has,ok.cab,ok.hd,ok.frames,ok.stk,ok.exf,ok.bs,ok.bsz,ok.noex,ok.exfs,ok.funs,ok.frf⟩
theorem Cx.Ok.unwish {X:Cx}{E:Value->Shared->Prop}(ok:(X.wish E).Ok):X.Ok:=
 ⟨ok.mod,ok.kind,ok.glob,ok.blt,ok.above,ok.inj,ok.has,ok.cab,ok.hd,ok.frames,ok.stk,ok.exf,ok.bs,ok.bsz,ok.noex,ok.exfs,ok.funs,ok.frf⟩
section
variable {X:Cx} {pins:List (Addr × Obj)} {σ:St} {H:Hp} {s:Shared} {E:Value->Shared->Prop}
theorem Inv.wish (I:Inv X pins σ H s)(E:Value->Shared->Prop):Inv (X.wish E) pins σ H s:=⟨I.ok.wish E,I.os,I.bare,I.base,I.loc,I.cell,I.free,I.freeC,I.pin,I.hok,I.len⟩
theorem Inv.unwish (I:Inv (X.wish E) pins σ H s):Inv X pins σ H s:=⟨I.ok.unwish,I.os,I.bare,I.base,I.loc,I.cell,I.free,I.freeC,I.pin,I.hok,I.len⟩
theorem SP.unwish {D:fF}{f:Flow}{s':Shared}(h:SP (X.wish E) pins D f s'):SP X pins D f s':=by
 cases f with
 |next=>obtain⟨σ',H',I,q⟩:=h;exact⟨σ',H',I.unwish,q⟩
 |brk=>obtain⟨σ',H',I,q⟩:=h;exact⟨σ',H',I.unwish,q⟩
 |cont=>obtain⟨σ',H',I,q⟩:=h;exact⟨σ',H',I.unwish,q⟩
 |ret u=>obtain⟨v,σ',H',I,r,q⟩:=h;exact⟨v,σ',H',I.unwish,r,q⟩
theorem PSs.nox {st:List Stmt}{t:TS}(h:PSs X.nox st t):PSs X st t:=fun pins s σ H D I hw=>
 wpAny_mono (h pins s σ H D (I.wish _) hw) (fun _ _ q=>q.unwish) fun _ _ z=>False.elim z
end
section
variable {X:Cx} {st:Stmt} {rest:List Stmt} {t u:TS} {e:Expr} {te:TE} {pos:Pos}
def Gc:TS:=fun D σ H=>D.nx σ H
def fV (t u:TS):TS:=fun D σ H=>t { D with nx:=u D } σ H
theorem aV:PSs X [] Gc:=fun _ _ σ H _ I h=>wpAny_execs_nil ⟨σ,H,I,h⟩
theorem aC (h1:PS X st t)(h2:PSs X rest u):PSs X (st :: rest) (fV t u):=by
 intro pins s σ H D I h;refine wpAny_execs_cons (thn (h1 pins s σ H { D with nx:=u D } I h) fun f s1 q=>?_)
 cases f with
 |next=>
  obtain⟨σ',H',I',q⟩:=q;exact h2 pins s1 σ' H' D I' q
 |ret v=>exact q
 |brk=>exact q
 |cont=>exact q
theorem aG (h1:PS X st t):PSs X [st] t:=by
 intro pins s σ H D I h;refine wpAny_execs_cons (thn (h1 pins s σ H D I h) fun f s1 q=>?_)
 cases f with
 |next=>exact wpAny_execs_nil q
 |ret v=>exact q
 |brk=>exact q
 |cont=>exact q
def Di:TS:=fun D σ H=>D.bk σ H
def Hr:TS:=fun D σ H=>D.ct σ H
theorem zI:PS X (.Break pos) Di:=fun _ _ σ H _ I h=>wpAny_Break ⟨σ,H,I,h⟩
theorem gJ:PS X (.Continue pos) Hr:=fun _ _ σ H _ I h=>wpAny_Continue ⟨σ,H,I,h⟩
theorem Inv.quiet {pins:List (Addr × Obj)}{σ:St}{H:Hp}{s:Shared}(I:Inv X pins σ H s):interactive X.env=false:=by simp[interactive,I.ok.kind]
def Hi (te:TE):TS:=fun D σ H=>te σ H fun _ H1=>D.nx σ H1
theorem cQ (he:PE X e te)(hs:swapsWith e none pos.line X.env=pure false:=by rfl):PS X (.Expr e pos) (Hi te):=by
 intro pins s σ H D I h;exact wpAny_Expr_any (thn (he pins s σ H _ I h) fun v s1 ⟨x,H1,I1,r1,q1⟩=>⟨σ,H1,I1,q1⟩) I.quiet hs
def Ig (te:TE):TS:=fun D σ H=>te σ H D.rt
theorem aQ (he:PE X e te):PS X (.Return (some e) pos) (Ig te):=by
 intro pins s σ H D I h;exact wpAny_Return_some (thn (he pins s σ H _ I h) fun v s1 ⟨x,H1,I1,r1,q1⟩=>⟨x,σ,H1,I1,r1,q1⟩)
def Jb (c:TT)(t u:TS):TS:=fun D σ H=>c σ H fun b H1=>if b=true then t D σ H1 else u D σ H1
theorem bH {c:Expr}{a b:List Stmt}{tc:TT}(hc:PT X c tc)(ha:PSs X a t)(hb:PSs X b u):PS X (.If c a b pos) (Jb tc t u):=by
 intro pins s σ H D I h;refine wpAny_If (thn (hc pins s σ H _ I h) fun d s1 ⟨H1,I1,q1⟩=>?_)
 cases d with
 |true=>exact ha pins s1 σ H1 D I1 q1
 |false=>exact hb pins s1 σ H1 D I1 q1
def wZ:TS:=fun _ _ _=>False
theorem eT:PS X st wZ:=fun _ _ _ _ _ _ h=>h.elim
theorem wM {sts:List Stmt}:PSs X sts wZ:=fun _ _ _ _ _ _ h=>h.elim
end
abbrev TG:=V->St->Hp->(St->Hp->Prop)->Prop
abbrev TGs:=List V->St->Hp->(St->Hp->Prop)->Prop
def PG (X:Cx)(target:Expr)(t:TG):Prop:=
 ∀(pins:List (Addr × Obj)) (s:Shared) (σ:St) (H:Hp) (v:V) (u:Value) (Q:St->Hp->Prop),Inv X pins σ H s->bK v u->t v σ H Q->
  wpAny (model X.prog X.w) X.A (assign target X.env u) (fun _ s'=>∃σ' H',Inv X pins σ' H' s'/\Q σ' H') X.xe s
def PGs (X:Cx)(ts:List Expr)(t:TGs):Prop:=
 ∀(pins:List (Addr × Obj)) (s:Shared) (σ:St) (H:Hp) (vs:List V) (us:List Value) (Q:St->Hp->Prop),Inv X pins σ H s->bL vs us->t vs σ H Q->
  wpAny (model X.prog X.w) X.A (assignInOrder ((assignEach ts X.env).map (·.2)) us) (fun _ s'=>∃σ' H',Inv X pins σ' H' s'/\Q σ' H') X.xe s
abbrev Cr:=V->V->V->Hp->(Hp->Prop)->Prop
def Gv (X:Cx)(t:Cr):Prop:=
 ∀(pins:List (Addr × Obj)) (s:Shared) (σ:St) (H:Hp) (o i v:V) (ov iv u:Value) (Q:Hp->Prop),Inv X pins σ H s->bK o ov->bK i iv->bK v u->t o i v H Q->
  wpAny (model X.prog X.w) X.A (setItem ov iv u) (fun _ s'=>∃H',Inv X pins σ H' s'/\Q H') X.xe s
abbrev TIp:=V->V->Hp->VK->Prop
section
variable {X:Cx} {pos:Pos}
def lV (i:Nat):TG:=fun v σ H Q=>Q (σ.set i (some v)) H
theorem bE {i:Nat}{x:Str}(hN:X.N.Nodup)(hi:X.N[i]?=some x)(hx:Loc X.env.scope x)(hf:X.fn x=true\/X.env.scope.names.lookup x=some .local:=by first | exact .inl rfl | exact .inr rfl | assumption):PG X (.Name x pos) (lV i):=by
 intro pins s σ H v u Q I r h;exact wpAny_assign_Name (iU I hN hi hx r (fun s' I'=>⟨_,H,I',h⟩) hf)
def Ek:TGs:=fun vs σ H Q=>vs=[]/\Q σ H
def qV (t:TG)(u:TGs):TGs:=fun vs σ H Q=>∃v r,vs=v :: r/\t v σ H fun σ' H'=>u r σ' H' Q
theorem gV:PGs X [] Ek:=by
 intro pins s σ H vs us Q I r h;obtain⟨e,h⟩:=h;subst e
 cases r
 exact assignInOrder_nil ⟨σ,H,I,h⟩
theorem cI {e:Expr}{es:List Expr}{t:TG}{u:TGs}(h1:PG X e t)(h2:PGs X es u)(hs:(assignEach (e :: es) X.env).map (·.2)=assign e X.env :: (assignEach es X.env).map (·.2):=by rfl):PGs X (e :: es) (qV t u):=by
 intro pins s σ H vs us Q I r h;obtain⟨v,vr,e1,h⟩:=h;subst e1
 cases r with
 |cons r rr=>
  rw[hs];refine assignInOrder_cons (thn (h1 pins s σ H _ _ _ I r h) fun _ s1 ⟨σ1,H1,I1,q1⟩=>?_);exact h2 pins s1 σ1 H1 _ _ Q I1 rr q1
def Df (K:PySem.W.Frag)(n:Nat)(t:TGs):TG:=fun v σ H Q=>∃a xs,v=.ref a/\SqT K H a xs/\xs.length=n/\t xs σ H Q
theorem jP {es:List Expr}{k:Nat}{t:TGs}{n:Nat}(hc:X.calm=true)(h:PGs X es t)(hn:(assignEach es X.env).length=n:=by rfl)(hst:(assignEach es X.env).findIdx? (·.1)=none:=by rfl):PG X (.Tuple es k pos) (Df X.K n t):=by
 intro pins s σ H v u Q I r hw;obtain⟨a,xs,e1,hq,hl,hw⟩:=hw;subst e1
 cases r
 obtain⟨its,rv,ht,hz⟩:=I.tuple hq;refine assign_Tuple_tuple (I.ok.hd hc) ht (by simp[hn,<- hl,rv.length]) hst fun h' hx=>?_;have I1:Inv X pins σ H { s with heap:=h' }:=I.kept (t':=s.toks) fun b o e=>hx b o (Nat.ne_of_lt (Heap.lt_size e)) e;exact h pins _ σ H xs _ Q I1 (by simpa using rv) hw
def Ik (to ti:TE)(t:Cr):TG:=fun v σ H Q=>to σ H fun o H1=>ti σ H1 fun i H2=>t o i v H2 fun H3=>Q σ H3
theorem yP {o i:Expr}{to ti:TE}{t:Cr}(ho:PE X o to)(hi:PE X i ti)(hs:Gv X t)(ha:∀v,assign (.Subscript o i pos) X.env v=(do
   let ov <- holding [v] (eval o X.env)
   let iv <- holding [v,ov] (eval i X.env)
   standAt pos
   holding [v,ov,iv] (setItem ov iv v)
   release [v,ov,iv] []):=by intro _;rfl):PG X (.Subscript o i pos) (Ik to ti t):=by
 intro pins s σ H v u Q I r h;rw[ha];refine wpAny_bind (wpAny_holding (thn (ho pins s σ H _ I h) fun ov s1 ⟨x,H1,I1,r1,q1⟩=>?_));refine wpAny_bind (wpAny_holding (thn (hi pins s1 σ H1 _ I1 q1) fun iv s2 ⟨y,H2,I2,r2,q2⟩=>?_));refine wpAny_bind (wpAny_standAt (wpAny_bind (wpAny_holding (thn (hs pins s2 σ H2 x y v ov iv u _ I2 r1 r2 r q2) fun _ s3 ⟨H3,I3,q3⟩=>?_))));exact wpAny_release ⟨σ,H3,I3,q3⟩
def Fc (te:TE)(g:TG):TS:=fun D σ H=>te σ H fun x H1=>g x σ H1 D.nx
theorem pT {tg e:Expr}{te:TE}{g:TG}(he:PE X e te)(hg:PG X tg g)(hs:swapsWithSole [tg] e pos.line X.env=pure false:=by rfl)(hw:swappedStores [tg] e X.env=pure none:=by rfl)(h1:(assignEach [tg] X.env).map (·.2)=[assign tg X.env]:=by rfl):PS X (.Assign [tg] e pos) (Fc te g):=by
 intro pins s σ H D I h;refine wpAny_Assign_stores (thn (he pins s σ H _ I h) fun v s1 ⟨x,H1,I1,r1,q1⟩=>?_) hs hw;rw[h1];exact thn (hg pins s1 σ H1 x v _ I1 r1 q1) fun _ s2 q=>q
theorem aT {i:Nat}{x:Str}{e:Expr}{te:TE}{pos':Pos}(hN:X.N.Nodup)(hi:X.N[i]?=some x)(hx:Loc X.env.scope x)(he:PE X e te)(hs:swapsWith e (some (.Name x pos')) pos.line X.env=pure false:=by rfl)(hf:X.fn x=true\/X.env.scope.names.lookup x=some .local:=by first | exact .inl rfl | exact .inr rfl | assumption) :
  PS X (.Assign [.Name x pos'] e pos) (Fc te (lV i)):=by
 intro pins s σ H D I h;refine wpAny_Assign_Name (thn (he pins s σ H _ I h) fun v s1 ⟨y,H1,I1,r1,q1⟩=>?_) hs;exact iU I1 hN hi hx r1 (fun s2 I2=>⟨_,H1,I2,q1⟩) hf
def Ir (i j:Nat)(ta:TA):TS:=fun D σ H=>ta σ H fun vs H1=>∃v w,vs=[v,w]/\D.nx ((σ.set i (some v)).set j (some w)) H1
theorem zF {i j:Nat}{x y:Str}{a b:Expr}{ta:TA}{px py pt:Pos}{kt k2 pt2}(hc:X.calm=true)(hN:X.N.Nodup)(hi:X.N[i]?=some x)(hj:X.N[j]?=some y)(hij:i≠j)(hx:X.env.scope.names.lookup x=some .local)(hy:X.env.scope.names.lookup y=some .local)(ha:PA X [a,b] ta)(hw:swappedStores [.Tuple [.Name x px,.Name y py] kt pt] (.Tuple [a,b] k2 pt2) X.env=pure (some [x,y]))(hs:swapsWithSole [.Tuple [.Name x px,.Name y py] kt pt] (.Tuple [a,b] k2 pt2) pos.line X.env=pure false:=by rfl) :
  PS X (.Assign [.Tuple [.Name x px,.Name y py] kt pt] (.Tuple [a,b] k2 pt2) pos) (Ir i j ta):=by
 intro pins s σ H D I h;rw[exec_Assign_arm];refine wpAny_bind (wpAny_standAt ?_);rw[hs];refine wpAny_bind (wpAny_pure ?_);rw[if_neg (by decide)];refine wpAny_bind (Tuple_ (thn (ha _ pins s σ H _ I h) fun us s1 ⟨vs,H1,I1,r1,q1⟩=>?_));obtain⟨v,w,e1,q1⟩:=q1;subst e1;obtain⟨u1,u2,rfl,rv,rw'⟩:∃u1 u2,us=[u1,u2]/\bK v u1/\bK w u2:=by
  cases r1 with
  |cons p q=>
   cases q with
   |cons p' q'=>
    cases q'
    exact⟨_,_,rfl,p,p'⟩
 refine wpAny_newObj_type ?_ (by show 2<=sizeLine;decide);have I2:Inv X pins σ H1 { s1 with heap:=s1.heap.push { cls:=.type "tuple",data:=.seq [u1,u2].toArray } }:=I1.kept (t':=s1.toks) fun b o e=>Heap.get?_push_of_some _ e;rw[hw];refine wpAny_bind (wpAny_pure ?_);show wpAny (model X.prog X.w) X.A (do rule "assign.swapped-stores";let items <- unpackItems (.ref s1.heap.objs.size) 2 none;assignInOrder [fun v=>bindName X.env y v,fun v=>bindName X.env x v] items.reverse;pure Flow.next) _ _ _;refine wpAny_bind (wpAny_rule (wpAny_bind (unpackItems_tuple (items:=#[u1,u2]) (I.ok.hd hc) (IsTup.new s1.heap _) fun h' hx'=>?_)));have I3:=I2.kept (h':=h') (t':=s1.toks) fun b o e=>hx' b o (Nat.ne_of_lt (Heap.lt_size e)) e;show wpAny _ _ (assignInOrder [fun v=>bindName X.env y v,fun v=>bindName X.env x v] [u2,u1] >>= fun _=>pure Flow.next) _ _ _;refine wpAny_bind (assignInOrder_cons (wpAny_bindName (iU I3 hN hj (.inl hy) rw' (fun s2 I4=>?_) (.inr hy))));refine assignInOrder_cons (wpAny_bindName (iU I4 hN hi (.inl hx) rv (fun s3 I5=>assignInOrder_nil (wpAny_pure ?_)) (.inr hx)));rw[List.set_comm _ _ (Ne.symm hij)] at I5;exact⟨_,H1,I5,q1⟩
def xR (c:TT)(tb:TS):TS:=fun D σ H=>∃W:Nat->St->Hp->Prop,(∃m,W m σ H)/\∀m σ H,W m σ H->
 c σ H fun b H1=>if b=true then ∃N:St->Hp->Prop,(∀σ' H',N σ' H'->∃m',m' < m/\W m' σ' H')/\tb { D with nx:=N,ct:=N,bk:=D.nx } σ H1 else D.nx σ H1
theorem kZ {c:Expr}{body:List Stmt}{tc:TT}{tb:TS}(hp:PassesOwn (model X.prog X.w) X.A X.env X.xe)(hc:PT X c tc)(hb:PSs X body tb):PS X (.While c body [] pos) (xR tc tb):=by
 intro pins s σ H D I h;obtain⟨W,⟨m0,w0⟩,turn⟩:=h;refine wpAny_While (codeAny_whileLoop (fun n s'=>∃σ' H',Inv X pins σ' H' s'/\W n σ' H') ?_ m0 ⟨σ,H,I,w0⟩);rintro n s1 ⟨σ1,H1,I1,w1⟩;refine wpAny_passesOwn hp (thn (hc pins s1 σ1 H1 _ I1 (turn n σ1 H1 w1)) fun b s2 ⟨H2,I2,q2⟩=>?_)
 cases b with
 |true=>
  obtain⟨N,hN,q2⟩:=q2;rw[if_pos rfl];refine wpAny_passesOwn hp (thn (hb pins s2 σ1 H2 _ I2 q2) fun f s3 q3=>?_)
  cases f with
  |next=>
   obtain⟨σ3,H3,I3,n3⟩:=q3;obtain⟨m',hm,w3⟩:=hN σ3 H3 n3;exact⟨m',hm,σ3,H3,I3,w3⟩
  |cont=>
   obtain⟨σ3,H3,I3,n3⟩:=q3;obtain⟨m',hm,w3⟩:=hN σ3 H3 n3;exact⟨m',hm,σ3,H3,I3,w3⟩
  |brk=>exact q3
  |ret v=>exact q3
 |false=>
  rw[if_neg Bool.false_ne_true];exact wpAny_execs_nil ⟨σ1,H2,I2,q2⟩
end
structure It where
 go:Nat->Hp->Prop
 yld:Nat->Hp->V->Hp->Prop
 stop:Nat->Hp->Prop
def iD (X:Cx)(pins:List (Addr × Obj))(H:Hp)(b:Addr):Prop:=
 H b=none/\b≠X.env.locals/\b∉X.fs/\(b∈X.ex\/X.s₀.heap.objs.size<=b)/\(∀x c,X.env.cells.lookup x=some c->c≠b)/\∀p∈X.pn++pins,p.1≠b
theorem Inv.fpOk {X:Cx}{pins:List (Addr × Obj)}{σ:St}{H H':Hp}{s:Shared}{b:Addr}(I:Inv X pins σ H s)(hb:s.heap.objs.size<=b)(hn:H' b=none):iD X pins H' b:=by
 refine⟨hn,Nat.ne_of_gt (Nat.lt_of_lt_of_le I.lt hb),I.nofs hb,.inr (Nat.le_trans I.sz hb),fun x c e z=>?_,fun p hp z=>?_⟩
 ·obtain⟨v,q⟩:=I.cell x c e;exact absurd (Nat.lt_of_lt_of_le q.lt (by rw[z];exact hb)) (Nat.lt_irrefl _)
 ·exact absurd (Nat.lt_of_lt_of_le (Heap.lt_size (I.pin p hp).1) (by rw[z];exact hb)) (Nat.lt_irrefl _)
structure vH (P:Program) (w:World) (K:PySem.W.Frag) (tg:Expr) (J:It) (fp:List Addr) (it:Addr) (tn:Nat->Heap->Prop):Prop where
 mem:it∈fp
 obj:∀i h,tn i h->∀b∈fp,∃o,h.get? b=some o/\∀v,o.data≠.cell v
 keep:∀i h h',tn i h->(∀b∈fp,∀o,h.get? b=some o->h'.get? b=some o)->tn i h'
 item:∀(X:Cx),X.prog=P->X.w=w->X.K=K->X.calm=true->∀(i:Nat) (pins:List (Addr × Obj)) (s:Shared) (σ:St) (H:Hp) (E:Value->Shared->Prop),Inv X pins σ H s->(∀b∈fp,iD X pins H b)->tn i s.heap->J.go i H->
  wpAny (model P w) X.A (pyNext (.ref it)) (fun r s1=>∃u,r=some u/\
   wpAny (model P w) X.A (letOwnedTupleGo tg (.ref it) u) (fun _ s2=>∃x H',Inv X pins σ H' s2/\bK x u/\J.yld i H x H'/\tn (i+1) s2.heap/\∀b∈fp,H' b=none) E s1) E s
 done:∀(X:Cx),X.prog=P->X.w=w->X.K=K->X.calm=true->∀(i:Nat) (pins:List (Addr × Obj)) (s:Shared) (σ:St) (H:Hp) (E:Value->Shared->Prop),Inv X pins σ H s->(∀b∈fp,iD X pins H b)->tn i s.heap->J.stop i H->
  wpAny (model P w) X.A (pyNext (.ref it)) (fun r s1=>r=none/\Inv X pins σ H s1) E s
 self:∀(A:Around) (i:Nat) (s:Shared) (Q:Value->Shared->Prop) (E:Value->Shared->Prop),tn i s.heap->Q (.ref it) s->wpAny (model P w) A (pyIter (.ref it)) Q E s
abbrev TI:=St->Hp->(It->Hp->Prop)->Prop
def PIE (X:Cx)(pins:List (Addr × Obj))(σ:St)(tg:Expr)(R:It->Hp->Prop)(itv:Value)(s2:Shared):Prop:=
 ∃(it:Addr) (fp:List Addr) (tn:Nat->Heap->Prop) (J:It) (H':Hp),itv=.ref it/\Inv X pins σ H' s2/\vH X.prog X.w X.K tg J fp it tn/\tn 0 s2.heap/\(∀b∈fp,iD X pins H' b)/\R J H'
def PI (X:Cx)(tg iter:Expr)(wi:TI):Prop:=
 ∀(pins:List (Addr × Obj)) (s:Shared) (σ:St) (H:Hp) (R:It->Hp->Prop),Inv X pins σ H s->wi σ H R->
  wpAny (model X.prog X.w) X.A (eval iter X.env) (fun v s1=>wpAny (model X.prog X.w) X.A (pyIter v) (PIE X pins σ tg R) X.xe s1) X.xe s
theorem uZ {M : Model}{A : Around}{E : Value -> Shared -> Prop}{s : Shared}{tg : Expr}{it : Addr}{u : Value}{o : Obj}{n : String}{vs : Array Value}{Q : Unit -> Shared -> Prop}(ho : s.heap.get? it = some o)(hc : o.cls = .type n)(hd : o.data = .fields vs)(hn : ["enumerate", "zip", "dict_itemiterator", "dict_reverseitemiterator", "odict_iterator", "itertools.zip_longest", "itertools.pairwise"].contains n = false)(hQ : Q () s) : wpAny M A (letOwnedTupleGo tg (.ref it) u) Q E s := by
  unfold letOwnedTupleGo
  cases tg <;> first
    | exact wpAny_pure hQ
    | (cases u <;> first
        | exact wpAny_pure hQ
        | (refine wpAny_bind (wpAny_load ho ?_)
           rw [hc, hd];show wpAny M A (if (["enumerate", "zip", "dict_itemiterator", "dict_reverseitemiterator", "odict_iterator", "itertools.zip_longest", "itertools.pairwise"].contains n && vs[0]? == some (rawInt _)) = true then _ else _) Q E s;rw [if_neg (by intro h; rw [hn, Bool.false_and] at h; cases h)];exact wpAny_pure hQ))
def Itl (K:PySem.W.Frag)(a:Addr):It:=
 ⟨fun i H=>∃xs x,SqL K H a xs/\xs[i]?=some x,fun i H x H'=>H'=H/\∀xs,SqL K H a xs->xs[i]?=some x,fun i H=>∃xs,SqL K H a xs/\xs.length<=i⟩
def Itt (K:PySem.W.Frag)(a:Addr):It:=
 ⟨fun i H=>∃xs x,SqT K H a xs/\xs[i]?=some x,fun i H x H'=>H'=H/\∀xs,SqT K H a xs->xs[i]?=some x,fun i H=>∃xs,SqT K H a xs/\xs.length<=i⟩
def Itr (lo:Int)(n:Nat):It:=⟨fun i _=>i < n,fun i H x H'=>H'=H/\x=.int (lo+i),fun i _=>n<=i⟩
theorem vT {P:Program}{w:World}{K:PySem.W.Frag}{tg:Expr}(a it:Addr):vH P w K tg (Itl K a) [it] it (fun i h=>h.IsListIter it a i) where
 mem:=by simp
 obj:=fun i h st b hb=>by
  have e:b=it:=by simpa using hb
  subst e;obtain⟨o,e,c,d⟩:=st;exact⟨o,e,fun v z=>by rw[d] at z;cases z⟩
 keep:=fun i h h' st k=>st.at fun o e=>k it (by simp) o e
 item:=by
  intro X hP hw hK hc i pins s σ H E I hf st hg;subst hP hw hK;obtain⟨xs,x,hq,hx⟩:=hg;obtain⟨its,rv,p,hz⟩:=I.list hq;obtain⟨u,hu,ru⟩:=rv.get hx;obtain⟨f0,f1,f2,f3,f4,f5⟩:=hf it (by simp);refine wpAny_pyNext_list_item st p.isList (x:=u) (by simpa using hu) fun h' st' sb=>?_;have I1:Inv X pins σ H { s with heap:=h' }:=I.turned (t':=s.toks) (fun b o hb e=>(sb.2 b hb).trans e) f0 f1 f3 f4 f5;obtain⟨o,e,c,d⟩:=id st';exact⟨u,rfl,uZ (s:={ s with heap:=h' }) e c d (by decide) ⟨x,H,I1,ru,⟨rfl,fun ys hy=>by rw[I.list_inj hy hq];exact hx⟩,st',fun b hb=>(hf b hb).1⟩⟩
 done:=by
  intro X hP hw hK hc i pins s σ H E I hf st hg;subst hP hw hK;obtain⟨xs,hq,hx⟩:=hg;obtain⟨its,rv,p,hz⟩:=I.list hq;obtain⟨f0,f1,f2,f3,f4,f5⟩:=hf it (by simp);have hl:=rv.length;exact wpAny_pyNext_list_end (I.ok.hd hc) st p.isList (by simp;omega) fun h' eb=>⟨rfl,I.turned (t':=s.toks) (fun b o hb e=>eb b o hb e) f0 f1 f3 f4 f5⟩
 self:=fun _ _ _ _ _ st h=>wpAny_pyIter_listiter st h
theorem tF {P:Program}{w:World}{K:PySem.W.Frag}{tg:Expr}(a it:Addr):vH P w K tg (Itt K a) [it] it (fun i h=>h.IsTupleIter it a i) where
 mem:=by simp
 obj:=fun i h st b hb=>by
  have e:b=it:=by simpa using hb
  subst e;obtain⟨o,e,c,d⟩:=st;exact⟨o,e,fun v z=>by rw[d] at z;cases z⟩
 keep:=fun i h h' st k=>st.at fun o e=>k it (by simp) o e
 item:=by
  intro X hP hw hK hc i pins s σ H E I hf st hg;subst hP hw hK;obtain⟨xs,x,hq,hx⟩:=hg;obtain⟨its,rv,p,hz⟩:=I.tuple hq;obtain⟨u,hu,ru⟩:=rv.get hx;obtain⟨f0,f1,f2,f3,f4,f5⟩:=hf it (by simp);refine wpAny_pyNext_tuple_item st (show s.heap.IsTuple a its.toArray from p) (x:=u) (by simpa using hu) fun h' st' sb=>?_;have I1:Inv X pins σ H { s with heap:=h' }:=I.turned (t':=s.toks) (fun b o hb e=>(sb.2 b hb).trans e) f0 f1 f3 f4 f5;obtain⟨o,e,c,d⟩:=id st';exact⟨u,rfl,uZ (s:={ s with heap:=h' }) e c d (by decide) ⟨x,H,I1,ru,⟨rfl,fun ys hy=>by rw[I.tuple_inj hy hq];exact hx⟩,st',fun b hb=>(hf b hb).1⟩⟩
 done:=by
  intro X hP hw hK hc i pins s σ H E I hf st hg;subst hP hw hK;obtain⟨xs,hq,hx⟩:=hg;obtain⟨its,rv,p,hz⟩:=I.tuple hq;obtain⟨f0,f1,f2,f3,f4,f5⟩:=hf it (by simp);have hl:=rv.length;exact wpAny_pyNext_tuple_end (I.ok.hd hc) st (show s.heap.IsTuple a its.toArray from p) (by simp;omega) fun h' eb=>⟨rfl,I.turned (t':=s.toks) (fun b o hb e=>eb b o hb e) f0 f1 f3 f4 f5⟩
 self:=fun _ _ _ _ _ st h=>wpAny_pyIter_tupleiter st h
theorem tG {P:Program}{w:World}{K:PySem.W.Frag}{tg:Expr}(it:Addr)(lo:Int)(n:Nat):vH P w K tg (Itr lo n) [it] it (fun i h=>IsRangeIter h it (lo+(i:Nat)*1) ((n:Int) - (i:Nat)) 1) where
 mem:=by simp
 obj:=fun i h st b hb=>by
  have e:b=it:=by simpa using hb
  subst e;exact⟨_,st,fun v z=>by
   have z':Data.fields _=Data.cell v:=z
   cases z'⟩
 keep:=fun i h h' st k=>k it (by simp) _ st
 item:=by
  intro X hP hw hK hc i pins s σ H E I hf st hg;subst hP hw hK;obtain⟨f0,f1,f2,f3,f4,f5⟩:=hf it (by simp);have W:=Walks.range (prog:=X.prog) (w:=X.w) (I.ok.hd hc) it lo 1 n;refine W.item i s _ _ hg st fun v h' tk hv st' kk=>?_;obtain⟨t,rfl⟩:=hv;have I1:Inv X pins σ H { s with heap:=h',toks:=tk }:=I.turned (fun b o hb e=>kk b o (by simpa using hb) e) f0 f1 f3 f4 f5;refine⟨_,rfl,uZ (s:={ s with heap:=h',toks:=tk }) (n:="range_iterator") st' rfl rfl (by decide) ⟨.int (lo+i),H,I1,⟨t,?_⟩,⟨rfl,rfl⟩,st',fun b hb=>(hf b hb).1⟩⟩;rw[Int.mul_one]
 done:=by
  intro X hP hw hK hc i pins s σ H E I hf st hg;subst hP hw hK;obtain⟨f0,f1,f2,f3,f4,f5⟩:=hf it (by simp);exact wpAny_pyNext_range_end (I.ok.hd hc) st (by have:n<=i:=hg;omega) fun h' eb=>⟨rfl,I.turned (t':=s.toks) (fun b o hb e=>eb b o hb e) f0 f1 f3 f4 f5⟩
 self:=fun _ _ _ _ _ st h=>wpAny_pyIter_rangeiter st h
section
variable {X:Cx} {tg:Expr}
def Gp (K:PySem.W.Frag)(tl:TE):TI:=fun σ H R=>tl σ H fun x H1=>∃a,x=.ref a/\(∃xs,SqL K H1 a xs)/\R (Itl K a) H1
def Ix (K:PySem.W.Frag)(tl:TE):TI:=fun σ H R=>tl σ H fun x H1=>∃a,x=.ref a/\(∃xs,SqT K H1 a xs)/\R (Itt K a) H1
theorem cY {l:Expr}{tl:TE}(hl:PE X l tl):PI X tg l (Gp X.K tl):=by
 intro pins s σ H R I h;refine thn (hl pins s σ H _ I h) fun v s1 ⟨x,H1,I1,r1,q1⟩=>?_;obtain⟨a,e,⟨xs,hq⟩,q⟩:=q1;subst e
 cases r1
 obtain⟨its,rv,p,hz⟩:=I1.list hq;refine wpAny_pyIter_list p.isList ?_;refine⟨s1.heap.objs.size,[s1.heap.objs.size],_,_,H1,rfl,I1.kept (t':=s1.toks) fun b o e=>Heap.get?_push_of_some _ e,vT a _,⟨_,Heap.get?_push_size _ rfl,rfl,rfl⟩,fun b hb=>?_,q⟩;have e:b=s1.heap.objs.size:=by simpa using hb
 subst e;exact I1.fpOk (Nat.le_refl _) (I1.hok.fresh (Nat.le_refl _))
theorem yI {l:Expr}{tl:TE}(hl:PE X l tl):PI X tg l (Ix X.K tl):=by
 intro pins s σ H R I h;refine thn (hl pins s σ H _ I h) fun v s1 ⟨x,H1,I1,r1,q1⟩=>?_;obtain⟨a,e,⟨xs,hq⟩,q⟩:=q1;subst e
 cases r1
 obtain⟨its,rv,p,hz⟩:=I1.tuple hq;refine wpAny_pyIter_tuple (show s1.heap.IsTuple a its.toArray from p) ?_;refine⟨s1.heap.objs.size,[s1.heap.objs.size],_,_,H1,rfl,I1.kept (t':=s1.toks) fun b o e=>Heap.get?_push_of_some _ e,tF a _,⟨_,Heap.get?_push_size _ rfl,rfl,rfl⟩,fun b hb=>?_,q⟩;have e:b=s1.heap.objs.size:=by simpa using hb
 subst e;exact I1.fpOk (Nat.le_refl _) (I1.hok.fresh (Nat.le_refl _))
theorem yZ {pins:List (Addr × Obj)}{σ:St}{H:Hp}{s:Shared}{R:It->Hp->Prop}{E:Value->Shared->Prop}{lo hi:Int}{t u v:Tok}{tk:Nat}(I:Inv X pins σ H s)(h1:-(2 ^ 62)<=lo)(h2:lo < 2 ^ 62)(h3:-(2 ^ 62)<=hi)(h4:hi < 2 ^ 62)(q:R (Itr lo (hi - lo).toNat) H):wpAny (model X.prog X.w) X.A (pyIter (.ref s.heap.objs.size)) (PIE X pins σ tg R) E { s with heap:=s.heap.push { cls:=.type "range",data:=.fields #[.int lo t,.int hi u,.int 1 v] },toks:=tk }:=by
 refine wpAny_pyIter_range (IsRange.new ..) (small_one h1 h2 h3 h4) ?_;have I1:Inv X pins σ H { s with heap:=s.heap.push { cls:=.type "range",data:=.fields #[.int lo t,.int hi u,.int 1 v] },toks:=tk }:=I.kept fun b o e=>Heap.get?_push_of_some _ e;refine⟨(s.heap.push { cls:=.type "range",data:=.fields #[.int lo t,.int hi u,.int 1 v] }).objs.size,[(s.heap.push { cls:=.type "range",data:=.fields #[.int lo t,.int hi u,.int 1 v] }).objs.size],_,_,H,rfl,
  I1.kept (t':=tk) fun b o e=>Heap.get?_push_of_some _ e,tG _ lo (hi - lo).toNat,?_,fun b hb=>?_,q⟩
 ·have e1:lo+((0:Nat):Int)*1=lo:=by simp
  have e2:(((hi - lo).toNat:Nat):Int) - ((0:Nat):Int)=Builtin.Range.rangeSize lo hi 1:=by rw[rangeSize_one];split<;>omega
  show IsRangeIter _ _ (lo+((0:Nat):Int)*1) ((((hi - lo).toNat:Nat):Int) - ((0:Nat):Int)) 1;rw[e1,e2];exact Heap.get?_push_size _ rfl
 ·have e:b=(s.heap.push { cls:=.type "range",data:=.fields #[.int lo t,.int hi u,.int 1 v] }).objs.size:=by simpa using hb
  subst e;exact I1.fpOk (Nat.le_refl _) (I1.hok.fresh (Nat.le_refl _))
def Fn (ta:TA):TI:=fun σ H R=>ta σ H fun vs H1=>∃j:Int,vs=[.int j]/\-(2 ^ 62)<=j/\j < 2 ^ 62/\R (Itr 0 j.toNat) H1
theorem eM {a:Expr}{ta:TA}{p pos:Pos}(hg:Gl X "range")(hm:X.mg "range"=none)(ha:PA X [a] ta)(hs:starEach [a] X.env=[(false,eval a X.env)]:=by rfl):PI X tg (.Call (.Name "range" p) [a] [] pos) (Fn ta):=by
 intro pins s σ H R I h;refine Call_ (jW I hg hm boot_range (PyProof.Rows.callWith_type1 (thn (ha pos pins s σ H _ I h) fun us s1 ⟨vs,H1,I1,r1,q1⟩=>?_) hs rfl));obtain⟨j,e,q1,q2,q⟩:=q1;subst e
 cases r1 with
 |cons r rr=>
  cases rr
  obtain⟨t,rfl⟩:=r;exact call_range_1 (yZ I1 (by omega) (by omega) q1 q2 (by simpa using q))
def Ic (wi:TI)(g:TG)(tb:TS):TS:=fun D σ H=>wi σ H fun J H1=>∃W:Nat->Nat->St->Hp->Prop,(∃m,W 0 m σ H1)/\∀i m σ H,W i m σ H->
 (J.stop i H/\D.nx σ H)\/(J.go i H/\∃N:St->Hp->Prop,(∀σ' H',N σ' H'->∃m',m' < m/\W (i+1) m' σ' H')/\∀x H',J.yld i H x H'->g x σ H' fun σ2 H2=>tb { D with nx:=N,ct:=N,bk:=D.nx } σ2 H2)
def mO (fp:List Addr)(h:Heap):List (Addr × Obj):=fp.filterMap fun b=>(h.get? b).map fun o=>(b,o)
theorem fI {fp:List Addr}{h:Heap}{b:Addr}{o:Obj}(hb:b∈fp)(e:h.get? b=some o):(b,o)∈mO fp h:=List.mem_filterMap.mpr ⟨b,hb,by rw[e];rfl⟩
theorem wN {fp:List Addr}{h:Heap}{p:Addr × Obj}(hp:p∈mO fp h):p.1∈fp/\h.get? p.1=some p.2:=by
 obtain⟨b,hb,e⟩:=List.mem_filterMap.mp hp
 cases q:h.get? b with
 |none=>rw[q] at e;cases e
 |some o=>
  rw[q] at e;have e':(b,o)=p:=Option.some.inj e;subst e';exact⟨hb,q⟩
theorem Inv.pinned {pins:List (Addr × Obj)}{σ:St}{H:Hp}{s:Shared}{fp:List Addr}(I:Inv X pins σ H s)(hf:∀b∈fp,iD X pins H b)(ho:∀b∈fp,∃o,s.heap.get? b=some o/\∀v,o.data≠.cell v):Inv X (pins++mO fp s.heap) σ H s:=
 I.pins_of fun p hp=>(List.mem_append.mp hp).elim (fun z=>I.pin p (List.mem_append_right _ z)) fun z=>by
  obtain⟨hb,e⟩:=wN z;obtain⟨f0,f1,f2,_⟩:=hf p.1 hb;obtain⟨o,e',d⟩:=ho p.1 hb;rw[e] at e';cases e';exact⟨e,f0,f1,f2,d⟩
theorem Inv.unpinned {pins pl:List (Addr × Obj)}{σ:St}{H:Hp}{s:Shared}(I:Inv X (pins++pl) σ H s):Inv X pins σ H s:=I.pins_of fun p hp=>I.pin p (List.mem_append_right _ (List.mem_append_left _ hp))
theorem dA {iter:Expr}{body:List Stmt}{wi:TI}{g:TG}{tb:TS}{pos:Pos}(hp:PassesOwn (model X.prog X.w) X.A X.env X.xe)(hc:X.calm=true)(hi:PI X tg iter wi)(hg:PG X tg g)(hb:PSs X body tb)(hs:∀x,foldedSetIterable iter X.env x=pure x:=by intro _;rfl):PS X (.For tg iter body [] pos) (Ic wi g tb):=by
 intro pins s σ H D I h;refine wpAny_For (thn (hi pins s σ H _ I h) fun v s1 h1=>thn h1 fun itv s2 h2=>?_) hs;obtain⟨it,fp,tn,J,H2,e,I2,T,st2,f2,W,⟨m0,w0⟩,turn⟩:=h2;subst e;have stat:∀{H':Hp},(∀b∈fp,H' b=none)->∀b∈fp,iD X pins H' b:=fun hn b hb=>⟨hn b hb,(f2 b hb).2⟩
 refine codeAny_forLoop_any (fun n s'=>∃i σ' H',Inv X pins σ' H' s'/\tn i s'.heap/\(∀b∈fp,H' b=none)/\W i n σ' H') ?_ m0 ⟨0,σ,H2,I2,st2,fun b hb=>(f2 b hb).1,w0⟩;rintro n s3 ⟨i,σ3,H3,I3,st3,fr3,w3⟩;rcases turn i n σ3 H3 w3 with ⟨stop,qn⟩ | ⟨go,N,hN,step⟩
 ·refine wpAny_passesOwn hp (thn (T.done X rfl rfl rfl hc i pins s3 σ3 H3 X.xe I3 (stat fr3) st3 stop) fun r s4 ⟨hr,I4⟩=>?_);subst hr;exact wpAny_execs_nil ⟨σ3,H3,I4,qn⟩
 ·refine wpAny_passesOwn hp (thn (T.item X rfl rfl rfl hc i pins s3 σ3 H3 X.xe I3 (stat fr3) st3 go) fun r s4 ⟨u,hr,h4⟩=>?_);subst hr;refine wpAny_passesOwn hp (thn h4 fun _ s5 ⟨x,H5,I5,r5,y5,st5,fr5⟩=>?_);have I5':=I5.pinned (stat fr5) (T.obj _ _ st5);refine wpAny_passesOwn hp (thn (hg _ s5 σ3 H5 x u _ I5' r5 (step x H5 y5)) fun _ s6 ⟨σ6,H6,I6,q6⟩=>?_);refine wpAny_passesOwn hp (thn (hb _ s6 σ6 H6 _ I6 q6) fun f s7 q7=>?_);have again:∀{σ7:St} {H7:Hp},Inv X (pins++mO fp s5.heap) σ7 H7 s7->N σ7 H7->∃m,m < n/\∃i σ' H',Inv X pins σ' H' s7/\tn i s7.heap/\(∀b∈fp,H' b=none)/\W i m σ' H':=fun {σ7 H7} I7 n7=>by
   obtain⟨m',hm,w7⟩:=hN σ7 H7 n7;refine⟨m',hm,i+1,σ7,H7,I7.unpinned,T.keep _ _ _ st5 fun b hb o e=>(I7.pin (b,o) (List.mem_append_right _ (List.mem_append_right _ (fI hb e)))).1,fun b hb=>?_,w7⟩;obtain⟨o,e,d⟩:=T.obj _ _ st5 b hb;exact(I7.pin (b,o) (List.mem_append_right _ (List.mem_append_right _ (fI hb e)))).2.1
  cases f with
  |next=>obtain⟨σ7,H7,I7,n7⟩:=q7;exact again I7 n7
  |cont=>obtain⟨σ7,H7,I7,n7⟩:=q7;exact again I7 n7
  |brk=>obtain⟨σ7,H7,I7,q7⟩:=q7;exact⟨σ7,H7,I7.unpinned,q7⟩
  |ret v=>obtain⟨x7,σ7,H7,I7,r7,q7⟩:=q7;exact⟨x7,σ7,H7,I7.unpinned,r7,q7⟩
end
theorem dI {K:PySem.W.Frag}{a:Addr}{xs:List V}{g:TG}{tb:TS}{D:fF}{σ:St}{H:Hp}(Pv:Nat->St->Hp->Prop)(h0:Pv 0 σ H)(hl:∀i σ H,i<=xs.length->Pv i σ H->SqL K H a xs)(hs:∀i x σ H,xs[i]?=some x->Pv i σ H->g x σ H fun σ2 H2=>tb { D with nx:=Pv (i+1),ct:=Pv (i+1),bk:=D.nx } σ2 H2)(hd:∀σ H,Pv xs.length σ H->D.nx σ H) :
  ∃W:Nat->Nat->St->Hp->Prop,(∃m,W 0 m σ H)/\∀i m σ H,W i m σ H->
   ((Itl K a).stop i H/\D.nx σ H)\/((Itl K a).go i H/\∃N:St->Hp->Prop,(∀σ' H',N σ' H'->∃m',m' < m/\W (i+1) m' σ' H')/\∀x H',(Itl K a).yld i H x H'->g x σ H' fun σ2 H2=>tb { D with nx:=N,ct:=N,bk:=D.nx } σ2 H2):=by
 refine⟨fun i m σ H=>m=xs.length - i/\i<=xs.length/\Pv i σ H,⟨xs.length,by simp,Nat.zero_le _,h0⟩,?_⟩;rintro i m σ H ⟨rfl,hi,p⟩;have q:=hl i σ H hi p
 by_cases hlt:i < xs.length
 ·refine .inr ⟨⟨xs,xs[i],q,by simp[hlt]⟩,Pv (i+1),fun σ' H' p'=>⟨xs.length - (i+1),by omega,rfl,hlt,p'⟩,fun x H' y=>?_⟩;obtain⟨e,y⟩:=y;subst e;exact hs i x σ _ (y xs q) p
 ·have e:i=xs.length:=by omega
  subst e;exact .inl ⟨⟨xs,q,Nat.le_refl _⟩,hd σ H p⟩
theorem uQ {K:PySem.W.Frag}{a:Addr}{xs:List V}{g:TG}{tb:TS}{D:fF}{σ:St}{H:Hp}(Pv:Nat->St->Hp->Prop)(h0:Pv 0 σ H)(hl:∀i σ H,i<=xs.length->Pv i σ H->SqT K H a xs)(hs:∀i x σ H,xs[i]?=some x->Pv i σ H->g x σ H fun σ2 H2=>tb { D with nx:=Pv (i+1),ct:=Pv (i+1),bk:=D.nx } σ2 H2)(hd:∀σ H,Pv xs.length σ H->D.nx σ H) :
  ∃W:Nat->Nat->St->Hp->Prop,(∃m,W 0 m σ H)/\∀i m σ H,W i m σ H->
   ((Itt K a).stop i H/\D.nx σ H)\/((Itt K a).go i H/\∃N:St->Hp->Prop,(∀σ' H',N σ' H'->∃m',m' < m/\W (i+1) m' σ' H')/\∀x H',(Itt K a).yld i H x H'->g x σ H' fun σ2 H2=>tb { D with nx:=N,ct:=N,bk:=D.nx } σ2 H2):=by
 refine⟨fun i m σ H=>m=xs.length - i/\i<=xs.length/\Pv i σ H,⟨xs.length,by simp,Nat.zero_le _,h0⟩,?_⟩;rintro i m σ H ⟨rfl,hi,p⟩;have q:=hl i σ H hi p
 by_cases hlt:i < xs.length
 ·refine .inr ⟨⟨xs,xs[i],q,by simp[hlt]⟩,Pv (i+1),fun σ' H' p'=>⟨xs.length - (i+1),by omega,rfl,hlt,p'⟩,fun x H' y=>?_⟩;obtain⟨e,y⟩:=y;subst e;exact hs i x σ _ (y xs q) p
 ·have e:i=xs.length:=by omega
  subst e;exact .inl ⟨⟨xs,q,Nat.le_refl _⟩,hd σ H p⟩
theorem gS {lo:Int}{n:Nat}{g:TG}{tb:TS}{D:fF}{σ:St}{H:Hp}(Pv:Nat->St->Hp->Prop)(h0:Pv 0 σ H)(hs:∀i σ H,i < n->Pv i σ H->g (.int (lo+i)) σ H fun σ2 H2=>tb { D with nx:=Pv (i+1),ct:=Pv (i+1),bk:=D.nx } σ2 H2)(hd:∀σ H,Pv n σ H->D.nx σ H) :
  ∃W:Nat->Nat->St->Hp->Prop,(∃m,W 0 m σ H)/\∀i m σ H,W i m σ H->
   ((Itr lo n).stop i H/\D.nx σ H)\/((Itr lo n).go i H/\∃N:St->Hp->Prop,(∀σ' H',N σ' H'->∃m',m' < m/\W (i+1) m' σ' H')/\∀x H',(Itr lo n).yld i H x H'->g x σ H' fun σ2 H2=>tb { D with nx:=N,ct:=N,bk:=D.nx } σ2 H2):=by
 refine⟨fun i m σ H=>m=n - i/\i<=n/\Pv i σ H,⟨n,by simp,Nat.zero_le _,h0⟩,?_⟩;rintro i m σ H ⟨rfl,hi,p⟩
 by_cases hlt:i < n
 ·refine .inr ⟨hlt,Pv (i+1),fun σ' H' p'=>⟨n - (i+1),by omega,rfl,hlt,p'⟩,fun x H' y=>?_⟩;obtain⟨e,y⟩:=y;subst e y;exact hs i σ _ hlt p
 ·have e:i=n:=by omega
  subst e;exact .inl ⟨Nat.le_refl _,hd σ H p⟩
theorem qT {c:TT}{tb:TS}{D:fF}{σ:St}{H:Hp}(Pv:St->Hp->Prop)(μ:St->Hp->Nat)(h0:Pv σ H)(hs:∀σ H,Pv σ H->c σ H fun b H1=>if b=true then tb { D with nx:=fun σ' H'=>Pv σ' H'/\μ σ' H' < μ σ H,ct:=fun σ' H'=>Pv σ' H'/\μ σ' H' < μ σ H,bk:=D.nx } σ H1 else D.nx σ H1)(mono:∀σ H Q Q',(∀b H1,Q b H1->Q' b H1)->c σ H Q->c σ H Q'):xR c tb D σ H:=by
 refine⟨fun m σ H=>m=μ σ H/\Pv σ H,⟨_,rfl,h0⟩,?_⟩;rintro m σ H ⟨rfl,p⟩;refine mono σ H _ _ (fun b H1 q=>?_) (hs σ H p)
 cases b with
 |true=>exact⟨_,fun σ' H' ⟨p',l⟩=>⟨_,l,rfl,p'⟩,q⟩
 |false=>exact q
abbrev R2:=V->V->Hp->VK->Prop
def OpR (X:Cx)(f:Value->Value->Sem Value)(r:R2):Prop:=
 ∀(pins:List (Addr × Obj)) (s:Shared) (σ:St) (H:Hp) (x y:V) (v u:Value) (Q:VK),Inv X pins σ H s->bK x v->bK y u->r x y H Q->
  wpAny (model X.prog X.w) X.A (f v u) (EP X pins σ Q) X.xe s
def UnR (X:Cx)(f:Value->Sem Value)(r:V->Hp->VK->Prop):Prop:=
 ∀(pins:List (Addr × Obj)) (s:Shared) (σ:St) (H:Hp) (x:V) (v:Value) (Q:VK),Inv X pins σ H s->bK x v->r x H Q->
  wpAny (model X.prog X.w) X.A (f v) (EP X pins σ Q) X.xe s
def iT (X:Cx)(f:Value)(r:List V->Hp->VK->Prop):Prop:=
 ∀(pins:List (Addr × Obj)) (s:Shared) (σ:St) (H:Hp) (xs:List V) (us:List Value) (Q:VK),Inv X pins σ H s->bL xs us->r xs H Q->
  wpAny (model X.prog X.w) X.A (call f us) (EP X pins σ Q) X.xe s
def tOp (r:R2)(ta tb:TE):TE:=fun σ H Q=>ta σ H fun x H1=>tb σ H1 fun y H2=>r x y H2 Q
def tUn (r:V->Hp->VK->Prop)(ta:TE):TE:=fun σ H Q=>ta σ H fun x H1=>r x H1 Q
def rI (C:Int->Int->Prop)(g:Int->Int->V):R2:=fun x y H Q=>∃i j,x=.int i/\y=.int j/\C i j/\Q (g i j) H
def rI0 (g:Int->Int->V):R2:=fun x y H Q=>∃i j,x=.int i/\y=.int j/\Q (g i j) H
def rU (g:Int->V):V->Hp->VK->Prop:=fun x H Q=>∃i,x=.int i/\Q (g i) H
section
variable {X:Cx} {a b c:Expr} {ta tb tc:TE} {pos:Pos}
theorem Ey (ha:PE X a ta)(hb:PE X b tb){pins:List (Addr × Obj)}{s:Shared}{σ:St}{H:Hp}{R:V->V->Hp->Prop}(I:Inv X pins σ H s)(h:ta σ H fun x H1=>tb σ H1 fun y H2=>R x y H2){Q:Value->Shared->Prop}{f:Value->Value->Sem Value}(hf:∀v u s2 x y H2,Inv X pins σ H2 s2->bK x v->bK y u->R x y H2->wpAny (model X.prog X.w) X.A (f v u) Q X.xe s2) :
  wpAny (model X.prog X.w) X.A (eval a X.env) (fun v s₁=>wpAny (model X.prog X.w) X.A (eval b X.env) (fun u s₂=>wpAny (model X.prog X.w) X.A (f v u) Q X.xe s₂) X.xe s₁) X.xe s:=by
 refine thn (ha pins s σ H _ I h) fun v s1 ⟨x,H1,I1,r1,q1⟩=>?_;refine thn (hb pins s1 σ H1 _ I1 q1) fun u s2 ⟨y,H2,I2,r2,q2⟩=>?_;exact hf v u s2 x y H2 I2 r1 r2 q2
theorem aY {op:Operator}{r:R2}(ho:OpR X (binaryOp op) r)(ha:PE X a ta)(hb:PE X b tb):PE X (.BinOp a op b pos) (tOp r ta tb):=by
 intro pins s σ H Q I h;exact wpAny_BinOp (Ey ha hb I h fun v u s2 x y H2 I2 rx ry q=>ho pins s2 σ H2 x y v u Q I2 rx ry q)
theorem oH {op:UnaryOp}{r:V->Hp->VK->Prop}(ho:UnR X (unaryOp op) r)(ha:PE X a ta):PE X (.UnaryOp op a pos) (tUn r ta):=by
 intro pins s σ H Q I h;exact UnaryOp_ (thn (ha pins s σ H _ I h) fun v s1 ⟨x,H1,I1,r1,q1⟩=>ho pins s1 σ H1 x v Q I1 r1 q1)
theorem opI {f:Value->Value->Sem Value}{C:Int->Int->Prop}{g:Int->Int->Int}(rule:∀(i j:Int) (t u:Tok) (s:Shared) (Q:Value->Shared->Prop) (E:Value->Shared->Prop),C i j->Q (.int (g i j) s.toks) { s with toks:=s.toks+1 }->wpAny (model X.prog X.w) X.A (f (.int i t) (.int j u)) Q E s) :
  OpR X f (rI C fun i j=>.int (g i j)):=by
 intro pins s σ H x y v u Q I rx ry h;obtain⟨i,j,rfl,rfl,hc,q⟩:=h;obtain⟨t,rfl⟩:=rx;obtain⟨t',rfl⟩:=ry;exact rule i j t t' s _ _ hc ⟨.int (g i j),H,I.tok _,⟨_,rfl⟩,q⟩
theorem Hc {f:Value->Value->Sem Value}{g:Int->Int->Int}(rule:∀(i j:Int) (t u:Tok) (s:Shared) (Q:Value->Shared->Prop) (E:Value->Shared->Prop),Q (.int (g i j) s.toks) { s with toks:=s.toks+1 }->wpAny (model X.prog X.w) X.A (f (.int i t) (.int j u)) Q E s) :
  OpR X f (rI0 fun i j=>.int (g i j)):=by
 intro pins s σ H x y v u Q I rx ry h;obtain⟨i,j,rfl,rfl,q⟩:=h;obtain⟨t,rfl⟩:=rx;obtain⟨t',rfl⟩:=ry;exact rule i j t t' s _ _ ⟨.int (g i j),H,I.tok _,⟨_,rfl⟩,q⟩
theorem Da {f:Value->Value->Sem Value}{g:Int->Int->Bool}(rule:∀(i j:Int) (t u:Tok) (s:Shared) (Q:Value->Shared->Prop) (E:Value->Shared->Prop),Q (.bool (g i j)) s->wpAny (model X.prog X.w) X.A (f (.int i t) (.int j u)) Q E s) :
  OpR X f (rI0 fun i j=>.bl (g i j)):=by
 intro pins s σ H x y v u Q I rx ry h;obtain⟨i,j,rfl,rfl,q⟩:=h;obtain⟨t,rfl⟩:=rx;obtain⟨t',rfl⟩:=ry;exact rule i j t t' s _ _ ⟨.bl (g i j),H,I,rfl,q⟩
def Hw (i j:Int):Prop:=0 < j/\j < 1073741824
def Iy (i j:Int):Prop:=0<=j/\j<=1000000/\i.natAbs < 2 ^ 64
def Fd (i j:Int):Prop:=(-(2 ^ 64) < i/\i < 2 ^ 64)\/(-(2 ^ 64) < j/\j < 2 ^ 64)
theorem Fd.ok {i j:Int}(h:Fd i j):IntMulOk i j:=by
 rcases h with ⟨h1,h2⟩ | ⟨h1,h2⟩
 ·exact .of_left (intBits_le_64 h1 h2)
 ·exact .of_right (intBits_le_64 h1 h2)
theorem cX:OpR X (binaryOp .Add) (rI0 fun i j=>.int (i+j)):=Hc fun _ _ _ _ _ _ _ q=>add_int q
theorem lR:OpR X (binaryOp .Sub) (rI0 fun i j=>.int (i - j)):=Hc fun _ _ _ _ _ _ _ q=>sub_int q
theorem lJ:OpR X (binaryOp .Mult) (rI Fd fun i j=>.int (i*j)):=opI fun _ _ _ _ _ _ _ hc q=>mul_int q hc.ok
theorem gN:OpR X (binaryOp .FloorDiv) (rI Hw fun i j=>.int (i / j)):=opI fun i j _ _ _ _ _ hc q=>by
 have h1:(0:Int) < j:=hc.1;have h2:j < 1073741824:=hc.2;exact floordiv_int (by omega) (by rw[Int.fdiv_eq_ediv_of_nonneg i (by omega)];exact q) (.inl (PyProof.noPylong_small (by omega)))
theorem eV:OpR X (binaryOp .Mod) (rI (fun _ j=>0 < j) fun i j=>.int (i % j)):=opI fun i j _ _ _ _ _ hc q=>by
 have h1:(0:Int) < j:=hc;exact mod_int' (by omega) (by rw[Int.fmod_eq_emod_of_nonneg i (by omega)];exact q)
theorem iS:OpR X (binaryOp .Mod) (rI (fun _ j=>j≠0) fun i j=>.int (i.fmod j)):=opI fun _ _ _ _ _ _ _ hc q=>mod_int' hc q
theorem gL:OpR X (binaryOp .Pow) (rI Iy fun i j=>.int (i ^ j.toNat)):=opI fun _ _ _ _ _ _ _ hc q=>pow_int_small hc.1 hc.2.1 hc.2.2 q
theorem unI {f:Value->Sem Value}{g:Int->Int}(rule:∀(i:Int) (t:Tok) (s:Shared) (Q:Value->Shared->Prop) (E:Value->Shared->Prop),Q (.int (g i) s.toks) { s with toks:=s.toks+1 }->wpAny (model X.prog X.w) X.A (f (.int i t)) Q E s) :
  UnR X f (rU fun i=>.int (g i)):=by
 intro pins s σ H x v Q I rx h;obtain⟨i,rfl,q⟩:=h;obtain⟨t,rfl⟩:=rx;exact rule i t s _ _ ⟨.int (g i),H,I.tok _,⟨_,rfl⟩,q⟩
theorem kM:UnR X (unaryOp .USub) (rU fun i=>.int (-i)):=unI fun _ _ _ _ _ q=>neg_int q
end
def Fx:V->V->Bool
 | .non,.non=>true | .non,.int _=>true | .int _,.non=>true | .non,.bl _=>true | .bl _,.non=>true | .non,.str _=>true | .str _,.non=>true
 | .int _,.int _=>true | .bl _,.bl _=>true | .str _,.str _=>true | .byt _,.byt _=>true
 | .int _,.str _=>true | .str _,.int _=>true | .bl _,.str _=>true | .str _,.bl _=>true
 |_,_=>false
def rEq:R2:=fun x y H Q=>Fx x y=true/\Q (.bl (decide (x=y))) H
def rNe:R2:=fun x y H Q=>Fx x y=true/\Q (.bl (!decide (x=y))) H
theorem tS {i j:Int}:decide (V.int i=V.int j)=(i == j):=by
 rw[Bool.eq_iff_iff];simp
theorem xB {i j:Bool}:decide (V.bl i=V.bl j)=(i == j):=by
 rw[Bool.eq_iff_iff];simp
theorem uG {i j:Str}:decide (V.str i=V.str j)=(i == j):=by
 rw[Bool.eq_iff_iff];simp
theorem tN {i j:Array UInt8}:decide (V.byt i=V.byt j)=(i.toList == j.toList):=by
 rw[Bool.eq_iff_iff]
 cases i
 cases j
 simp
section
variable {X:Cx} {a b c:Expr} {ta tb tc:TE} {pos:Pos}
theorem bR {pins:List (Addr × Obj)}{σ:St}{H:Hp}{s:Shared}{Q:VK}{k k':Bool}(I:Inv X pins σ H s)(q:Q (.bl k) H)(e:k=k'):EP X pins σ Q (.bool k') s:=by
 subst e;exact⟨.bl k,H,I,rfl,q⟩
theorem dE:OpR X (compareOp .Eq) rEq:=by
 intro pins s σ H x y v u Q I rx ry h;obtain⟨hs,q⟩:=h
 cases x with
 |non=>
  cases rx
  cases y with
  |non=>cases ry;exact PySem.EqNone.eq_none_none (bR I q (by simp))
  |bl j=>cases ry;exact PySem.EqNone.eq_none_bool (bR I q (by simp))
  |int j=>obtain⟨t',rfl⟩:=ry;exact PySem.EqNone.eq_none_int (bR I q (by simp))
  |str j=>obtain⟨t',rfl⟩:=ry;exact PySem.EqNone.eq_none_str (bR I q (by simp))
  |_=>exact absurd (show false=true from hs) Bool.false_ne_true
 |bl i=>
  cases rx
  cases y with
  |non=>cases ry;exact PySem.EqNone.eq_bool_none (bR I q (by simp))
  |bl j=>cases ry;exact eq_bool (bR I q xB)
  |str j=>obtain⟨t',rfl⟩:=ry;exact PySem.EqMixed.eq_bool_str (bR I q (by simp))
  |_=>exact absurd (show false=true from hs) Bool.false_ne_true
 |int i=>
  obtain⟨t,rfl⟩:=rx
  cases y with
  |non=>cases ry;exact PySem.EqNone.eq_int_none (bR I q (by simp))
  |int j=>obtain⟨t',rfl⟩:=ry;exact eq_int (bR I q tS)
  |str j=>obtain⟨t',rfl⟩:=ry;exact PySem.EqMixed.eq_int_str (bR I q (by simp))
  |_=>exact absurd (show false=true from hs) Bool.false_ne_true
 |str i=>
  obtain⟨t,rfl⟩:=rx
  cases y with
  |non=>cases ry;exact PySem.EqNone.eq_str_none (bR I q (by simp))
  |bl j=>cases ry;exact PySem.EqMixed.eq_str_bool (bR I q (by simp))
  |int j=>obtain⟨t',rfl⟩:=ry;exact PySem.EqMixed.eq_str_int (bR I q (by simp))
  |str j=>obtain⟨t',rfl⟩:=ry;exact eq_str (bR I q uG)
  |_=>exact absurd (show false=true from hs) Bool.false_ne_true
 |byt i=>
  obtain⟨t,rfl⟩:=rx
  cases y with
  |byt j=>obtain⟨t',rfl⟩:=ry;exact PySem.W.eq_bytes (bR I q tN)
  |_=>exact absurd (show false=true from hs) Bool.false_ne_true
 |_=>cases y<;>exact absurd (show false=true from hs) Bool.false_ne_true
theorem kN:OpR X (compareOp .NotEq) rNe:=by
 intro pins s σ H x y v u Q I rx ry h;obtain⟨hs,q⟩:=h
 cases x with
 |non=>
  cases rx
  cases y with
  |non=>cases ry;exact PySem.EqNone.ne_none_none (bR I q (by simp))
  |bl j=>cases ry;exact PySem.EqNone.ne_none_bool (bR I q (by simp))
  |int j=>obtain⟨t',rfl⟩:=ry;exact PySem.EqNone.ne_none_int (bR I q (by simp))
  |str j=>obtain⟨t',rfl⟩:=ry;exact PySem.EqNone.ne_none_str (bR I q (by simp))
  |_=>exact absurd (show false=true from hs) Bool.false_ne_true
 |bl i=>
  cases rx
  cases y with
  |non=>cases ry;exact PySem.EqNone.ne_bool_none (bR I q (by simp))
  |bl j=>cases ry;exact ne_bool (bR I q (congrArg not xB))
  |str j=>obtain⟨t',rfl⟩:=ry;exact PySem.EqMixed.ne_bool_str (bR I q (by simp))
  |_=>exact absurd (show false=true from hs) Bool.false_ne_true
 |int i=>
  obtain⟨t,rfl⟩:=rx
  cases y with
  |non=>cases ry;exact PySem.EqNone.ne_int_none (bR I q (by simp))
  |int j=>obtain⟨t',rfl⟩:=ry;exact ne_int (bR I q (congrArg not tS))
  |str j=>obtain⟨t',rfl⟩:=ry;exact PySem.EqMixed.ne_int_str (bR I q (by simp))
  |_=>exact absurd (show false=true from hs) Bool.false_ne_true
 |str i=>
  obtain⟨t,rfl⟩:=rx
  cases y with
  |non=>cases ry;exact PySem.EqNone.ne_str_none (bR I q (by simp))
  |bl j=>cases ry;exact PySem.EqMixed.ne_str_bool (bR I q (by simp))
  |int j=>obtain⟨t',rfl⟩:=ry;exact PySem.EqMixed.ne_str_int (bR I q (by simp))
  |str j=>obtain⟨t',rfl⟩:=ry;exact ne_str (bR I q (congrArg not uG))
  |_=>exact absurd (show false=true from hs) Bool.false_ne_true
 |byt i=>
  obtain⟨t,rfl⟩:=rx
  cases y with
  |byt j=>obtain⟨t',rfl⟩:=ry;exact PySem.W.ne_bytes (bR I q (congrArg not tN))
  |_=>exact absurd (show false=true from hs) Bool.false_ne_true
 |_=>cases y<;>exact absurd (show false=true from hs) Bool.false_ne_true
theorem oG:OpR X (compareOp .Lt) (rI0 fun i j=>.bl (decide (i < j))):=Da fun _ _ _ _ _ _ _ q=>lt_int q
theorem zO:OpR X (compareOp .Gt) (rI0 fun i j=>.bl (decide (j < i))):=Da fun _ _ _ _ _ _ _ q=>gt_int q
theorem vC:OpR X (compareOp .GtE) (rI0 fun i j=>.bl (decide (j<=i))):=Da fun _ _ _ _ _ _ _ q=>ge_int q
theorem bC (b:Expr){op:CmpOp}(h:op≠.In:=by decide)(h2:op≠.NotIn:=by decide):behindInMarks op b=false:=by
 have e1:(op == CmpOp.In)=false:=by cases op<;>first | rfl | exact absurd rfl h
 have e2:(op == CmpOp.NotIn)=false:=by cases op<;>first | rfl | exact absurd rfl h2
 cases b<;>simp[behindInMarks,e1,e2]
theorem dM {op:CmpOp}{r:R2}(ho:OpR X (compareOp op) r)(ha:PE X a ta)(hb:PE X b tb)(hm:behindInMarks op b=false):PE X (.Compare a [op] [b] pos) (tOp r ta tb):=by
 intro pins s σ H Q I h;exact wpAny_Compare1 (Ey ha hb I h fun v u s2 x y H2 I2 rx ry q=>ho pins s2 σ H2 x y v u Q I2 rx ry q) hm
def Gb (t:TE):TT:=fun σ H Q=>t σ H fun x H'=>∃k,x=.bl k/\Q k H'
theorem aZ {op:CmpOp}{r:R2}(ho:OpR X (compareOp op) r)(ha:PE X a ta)(hb:PE X b tb)(hm:behindInMarks op b=false):PT X (.Compare a [op] [b] pos) (Gb (tOp r ta tb)):=by
 intro pins s σ H Q I h;refine wpAny_isTrue_Compare1 (thn (ha pins s σ H _ I h) fun v s1 ⟨x,H1,I1,r1,q1⟩=>thn (hb pins s1 σ H1 _ I1 q1) fun u s2 ⟨y,H2,I2,r2,q2⟩=>
  thn (ho pins s2 σ H2 x y v u _ I2 r1 r2 q2) fun c s3 ⟨z,H3,I3,r3,k,e,q3⟩=>?_) hm
 subst e
 cases r3
 exact wpAny_truthy_bool ⟨H3,I3,q3⟩
theorem oW:(sizeLine:Nat) < 2 ^ 63:=by rw[sizeLine_eq];decide
theorem oQ {x:V}{us:List Value}(r:bL [x] us):∃u,us=[u]/\bK x u:=by
 cases r with
 |cons r1 r2=>cases r2;exact⟨_,rfl,r1⟩
theorem Cn {x y:V}{us:List Value}(r:bL [x,y] us):∃u w',us=[u,w']/\bK x u/\bK y w':=by
 cases r with
 |cons r1 r2=>
  cases r2 with
  |cons r3 r4=>cases r4;exact⟨_,_,rfl,r1,r3⟩
theorem lG:iT X (.builtin "abs") (fun xs H Q=>∃i,xs=[.int i]/\Q (.int (if i < 0 then -i else i)) H):=by
 intro pins s σ H xs us Q I r h;obtain⟨i,rfl,q⟩:=h;obtain⟨u,rfl,t,rfl⟩:=oQ r;exact call_abs_int fun u tk=>⟨.int (if i < 0 then -i else i),H,I.tok _,⟨_,rfl⟩,q⟩
theorem wS (hc:X.calm=true):iT X (.builtin "min") (fun xs H Q=>∃i j,xs=[.int i,.int j]/\Q (.int (if j < i then j else i)) H):=by
 intro pins s σ H xs us Q I r h;obtain⟨i,j,rfl,q⟩:=h;obtain⟨u,w',rfl,⟨t,rfl⟩,⟨t',rfl⟩⟩:=Cn r;refine min_two_ints (I.ok.hd hc) fun h' tk k=>⟨_,H,I.kept k,?_,q⟩
 by_cases hj:j < i
 ·rw[if_pos hj,if_pos hj];exact⟨_,rfl⟩
 ·rw[if_neg hj,if_neg hj];exact⟨_,rfl⟩
end
structure rO (h:Heap) (x dx C:Addr) (mA:Str->Option Value):Prop where
 obj:h.get? x=some (PySem.W.instObj C dx)
 ns:h.Ns1 dx mA
 ne:dx≠x
theorem vG {h:Heap}{dx:Addr}{mA:Str->Option Value}(n:h.Ns1 dx mA):∃od,h.get? dx=some od/\∀name,PySem.W.lookIn name od=some (mA name):=by
 obtain⟨o,es,ep,ho,hd,hk,_,hm⟩:=n;refine⟨o,ho,fun name=>?_⟩;have e:=hm name;unfold nsFind findBy at e;rw[<- Array.find?_toList] at e;unfold PySem.W.lookIn;rw[hd];dsimp only;split
 ·rename_i y q
  rw[q] at e;exact congrArg some e
 ·rename_i q
  rw[q] at e;have a:es.toList.any (·.refKey)=false:=by
   rw[List.any_eq_false];intro y hy;obtain⟨z,t,hkey⟩:=hk y (Array.mem_toList_iff.mp hy);simp[DictEntry.refKey,hkey]
  have a':¬es.toList.any (·.refKey)=true:=by rw[a];exact Bool.false_ne_true
  rw[if_neg a'];exact congrArg some e
theorem rO.look {h:Heap}{x dx C:Addr}{mA:Str->Option Value}(I:rO h x dx C mA):∃od,PySem.W.InstAt h x (PySem.W.instObj C dx) C (some od)/\∀name,PySem.W.lookIn name od=some (mA name):=
 let ⟨od,ho,hl⟩:=vG I.ns
 ⟨od,⟨I.obj,rfl,rfl,ho⟩,hl⟩
section
variable {prog:Program} {w:World} {A:Around} {E:Value->Shared->Prop} {s:Shared} {K:PySem.W.Frag} {x dx C f:Addr} {mA:Str->Option Value} {name:Str} {v:Value}
theorem Ba {expr:Bool}{Q:Value->Shared->Prop}(X:K.In s.heap)(I:rO s.heap x dx C mA)(hg:PySem.W.plainGet K C name=true)(hh:PySem.W.hasDictIn K C=true)(ha:PySem.W.findIn K (.ref C) name=some none)(hv:mA name=some v)(hv':PySem.W.handedIn v=true)(h:Q v { s with toks:=s.toks+1 }) :
  wpAny (model prog w) A (getAttr (.ref x) name expr) Q E s:=by
 obtain⟨od,J,hl⟩:=I.look;exact PySem.W.get_value X J (PySem.W.plainGet_of hg).1 (PySem.W.findObj_own hh ha rfl (by rw[hl,hv])) hv' h
theorem wX {pl:Sem Bool}{Q:Value × List Value->Shared->Prop}(X:K.In s.heap)(I:rO s.heap x dx C mA)(hg:PySem.W.plainGet K C name=true)(hf:PySem.W.findIn K (.ref C) name=some (some (.ref f)))(ht:PySem.W.isFn K (.ref f)=true)(hv:mA name=none)(h:Q (.ref f,[.ref x]) s) :
  wpAny (model prog w) A (getMethod (.ref x) name pl) Q E s:=by
 obtain⟨od,J,hl⟩:=I.look;exact PySem.W.method_fn X J (PySem.W.plainGet_of hg).1 (PySem.W.plainGet_of hg).2 hf (beq_iff_eq.mp ht) (by show (PySem.W.lookIn name od).map (·.isSome)=some false;rw[hl,hv];rfl) h
theorem Bx {ns:List Str}{Q:Unit->Shared->Prop}(X:K.In s.heap)(I:rO s.heap x dx C mA)(hs:PySem.W.findIn K (.ref C) "__setattr__"=some (some (.builtin "object.__setattr__")))(hp:PySem.W.plainOver K C=true)(ht:PySem.W.takerIn K C name=some none)(hh:PySem.W.hasDictIn K C=true)(hw:PySem.Within mA ns)(hsz:ns.length<=sizeLine)(h:∀h',rO h' x dx C (fun y=>if y=name then some v else mA y)->Heap.SameBut dx s.heap h'->Q () { s with heap:=h',toks:=s.toks+2 }) :
  wpAny (model prog w) A (setAttr (.ref x) name v) Q E s:=by
 obtain⟨od,J,hl⟩:=I.look;refine PySem.W.set_plain X J hs (PySem.W.osa_open (s:={ s with toks:=s.toks+1 }) (r:=none) X J hp ht fun b=>?_);obtain⟨cd,hc,hd'⟩:=PySem.W.any_some hh;have hx:s.heap.get? x=some ⟨.ref C,some dx,.plain,#[]⟩:=I.obj;refine wpAny_bind (wpAny_pure (wpAny_bind (wpAny_bind (wpAny_loadPart hx (wpAny_bind (PySem.W.Looks.here (s:={ s with toks:=s.toks+1 }) (PySem.W.looks_clsIn X hc) ?_))))));rw[hd'];refine wpAny_pure (a:=some dx) (wpAny_bind (wpAny_pure (wpAny_bind ?_)));refine wpAny_nsSet1 (s:={ s with toks:=s.toks+1 }) I.ns fun h' hn2 hs2=>?_;obtain⟨oD,esD,epD,hoD,hdD,hcD⟩:=hn2.count (PySem.Within.cons name v hw);refine wpAny_bind (wpAny_lookBehind hoD (by rw[hdD];exact pastItsLine_dict (Nat.le_trans hcD (by rw[List.length_cons];omega))) ?_);exact wpAny_pure (h _ ⟨(hs2.2 _ (Ne.symm I.ne)).trans I.obj,hn2,I.ne⟩ hs2)
theorem yK {R:Result->Shared->Prop}{vs:List Value}{kw:List (Str × Value)}(X:K.In s.heap)(hm:PySem.W.makesIn K C=true)(hi:PySem.W.findIn K (.ref C) "__init__"=some (some (.ref f)))(hf:PySem.W.typeIn K (.ref f)=some (.type "function"))(h:codeAny (model prog w) (A.under (.builtin "type.__call__" ⟨.ref C :: vs,kw⟩)) (.call (.ref f) ⟨.ref (s.heap.objs.size+1) :: vs,kw⟩) (PySem.W.InitBack (s.heap.objs.size+1) R)
   { s with heap:=(s.heap.push PySem.W.emptyDict).push (PySem.W.instObj C s.heap.objs.size) }) :
  codeAny (model prog w) A (.call (.ref C) ⟨vs,kw⟩) R s:=by
 obtain⟨hh,g,d,t,os⟩:=s;exact PySem.W.make_core (PySem.W.makes_of X hm) (PySem.W.looks_findIn X hi) (fun self=>PySem.W.bind_fn X self hf) (.inl rfl) h
end
def eS (f:Str)(v:V):List (Str × V)->List (Str × V)
 | []=>[(f,v)]
 | (g,x) :: r=>if g=f then (g,v) :: r else (g,x) :: eS f v r
theorem bG (f g:Str)(v:V):∀fs:List (Str × V),(eS f v fs).lookup g=if g=f then some v else fs.lookup g
 | []=>by
  show List.lookup g [(f,v)]=_
  by_cases h:g=f
  ·have hb:(g == f)=true:=beq_iff_eq.mpr h;simp only[List.lookup,hb,if_pos h]
  ·have hb:(g == f)=false:=beq_eq_false_iff_ne.mpr h;simp only[List.lookup,hb,if_neg h]
 | (k,x) :: r=>by
  have ih:=bG f g v r;rw[show eS f v ((k,x) :: r)=(if k=f then (k,v) :: r else (k,x) :: eS f v r) from rfl]
  by_cases hk:k=f
  ·rw[if_pos hk]
   by_cases h:g=k
   ·have hb:(g == k)=true:=beq_iff_eq.mpr h;simp only[List.lookup,hb,if_pos (h.trans hk)]
   ·have hb:(g == k)=false:=beq_eq_false_iff_ne.mpr h;simp only[List.lookup,hb,if_neg (fun e:g=f=>h (e.trans hk.symm))]
  ·rw[if_neg hk]
   by_cases h:g=k
   ·have hb:(g == k)=true:=beq_iff_eq.mpr h;simp only[List.lookup,hb,if_neg (fun e:g=f=>hk (h.symm.trans e))]
   ·have hb:(g == k)=false:=beq_eq_false_iff_ne.mpr h;simp only[List.lookup,hb];exact ih
theorem kG (f:Str)(v:V):∀fs:List (Str × V),f∈(eS f v fs).map (·.1)/\∀g,g∈fs.map (·.1)->g∈(eS f v fs).map (·.1)
 | []=>⟨by simp[eS],fun g h=>by simp at h⟩
 | (k,x) :: r=>by
  obtain⟨i1,i2⟩:=kG f v r;rw[show eS f v ((k,x) :: r)=(if k=f then (k,v) :: r else (k,x) :: eS f v r) from rfl]
  by_cases hk:k=f
  ·rw[if_pos hk];subst hk;exact⟨by simp,fun g h=>by simpa using h⟩
  ·rw[if_neg hk];refine⟨?_,fun g h=>?_⟩
   ·rw[List.map_cons];exact List.mem_cons_of_mem _ i1
   ·rw[List.map_cons] at h ⊢;rcases List.mem_cons.mp h with e | e
    ·exact List.mem_cons.mpr (.inl e)
    ·exact List.mem_cons_of_mem _ (i2 g e)
theorem dU (f:Str)(v:V):∀fs:List (Str × V),(eS f v fs).length<=fs.length+1
 | []=>by simp[eS]
 | (k,x) :: r=>by
  have ih:=dU f v r;rw[show eS f v ((k,x) :: r)=(if k=f then (k,v) :: r else (k,x) :: eS f v r) from rfl]
  by_cases hk:k=f
  ·rw[if_pos hk,List.length_cons,List.length_cons];omega
  ·rw[if_neg hk,List.length_cons,List.length_cons];omega
theorem gC.some_of {v:V}{o:Option Value}(r:gC (some v) o):∃u,o=some u/\bK v u:=by
 cases o with
 |none=>exact(show False from r).elim
 |some u=>exact⟨u,rfl,r⟩
theorem gC.none_of {o:Option Value}(r:gC none o):o=none:=by
 cases o with
 |none=>rfl
 |some u=>exact(show False from r).elim
theorem vO {v:V}{u:Value}(r:bK v u):PySem.W.handedIn u=true:=by
 cases v with
 |non=>cases (show u=Value.none from r);rfl
 |bl b=>cases (show u=Value.bool b from r);rfl
 |int i=>obtain⟨t,e⟩:=(show ∃t,u=Value.int i t from r);cases e;rfl
 |str x=>obtain⟨t,e⟩:=(show ∃t,u=Value.str x t from r);cases e;rfl
 |byt b=>obtain⟨t,e⟩:=(show ∃t,u=Value.bytes b t from r);cases e;rfl
 |flt b=>obtain⟨t,e⟩:=(show ∃t,u=Value.float b t from r);cases e;rfl
 |ref a=>cases (show u=Value.ref a from r);rfl
 |ty n=>cases (show u=Value.type n from r);rfl
section
variable {P:Program} {w:World} {H H':Hp} {h h':Heap} {a C dx:Addr} {fs fs':List (Str × V)}
theorem kX (hok:HOk P w H h)(e:H a=some (.ins C dx fs)):∃mA,rO h a dx C mA/\(∀f,gC (fs.lookup f) (mA f))/\PySem.Within mA (fs.map (·.1))/\fs.length<=1000/\H dx=some (.own a):=by
 obtain⟨d,z,ne,ob,mA,n,r,q⟩:=(show cB P w H h a (.ins C dx fs) from hok a _ e)
 exact⟨mA,⟨ob,n,ne⟩,r,q,z,d⟩
end
structure Cls (K:PySem.W.Frag) (C:Addr):Prop where
 pg:PySem.W.plainGet K C Str.empty=true
 hd:PySem.W.hasDictIn K C=true
 po:PySem.W.plainOver K C=true
 sa:PySem.W.findIn K (.ref C) "__setattr__"=some (some (.builtin "object.__setattr__"))
theorem Cls.get {K:PySem.W.Frag}{C:Addr}(c:Cls K C)(f:Str):PySem.W.plainGet K C f=true:=c.pg
def eQ (K:PySem.W.Frag)(C:Addr)(f:Str):Prop:=PySem.W.findIn K (.ref C) f=some none
theorem eQ.taker {K:PySem.W.Frag}{C:Addr}{f:Str}(n:eQ K C f):PySem.W.takerIn K C f=some none:=by
 unfold PySem.W.takerIn;rw[show PySem.W.findIn K (.ref C) f=some none from n];rfl
structure gE (K:PySem.W.Frag) (C:Addr) (m:Str) (f:Addr):Prop where
 at_:PySem.W.findIn K (.ref C) m=some (some (.ref f))
 fn:PySem.W.isFn K (.ref f)=true
 kp:PySem.W.keepIn K (.ref f)=true
section
variable {X:Cx} {pins:List (Addr × Obj)} {σ:St} {H:Hp} {s:Shared} {a C dx:Addr} {fs:List (Str × V)} {f:Str} {v:V} {A:Around} {E:Value->Shared->Prop}
theorem tH {b:Bool}{Q:Value->Shared->Prop}(I:Inv X pins σ H s)(e:H a=some (.ins C dx fs))(c:Cls X.K C)(n:eQ X.K C f)(l:fs.lookup f=some v)(h:∀u s',Inv X pins σ H s'->bK v u->Q u s'):wpAny (model X.prog X.w) A (getAttr (.ref a) f b) Q E s:=by
 obtain⟨mA,O,r,_,_,_⟩:=kX I.hok e;obtain⟨u,hu,ru⟩:=gC.some_of (v:=v) (o:=mA f) (by rw[<- l];exact r f);exact Ba I.kIn O (c.get f) c.hd n hu (vO ru) (h u _ (I.tok _) ru)
theorem iK {m:Str}{g:Addr}{pl:Sem Bool}{Q:Value × List Value->Shared->Prop}(I:Inv X pins σ H s)(e:H a=some (.ins C dx fs))(c:Cls X.K C)(k:gE X.K C m g)(l:fs.lookup m=none)(h:Q (.ref g,[.ref a]) s):wpAny (model X.prog X.w) A (getMethod (.ref a) m pl) Q E s:=by
 obtain⟨mA,O,r,_,_,_⟩:=kX I.hok e;have hn:mA m=none:=gC.none_of (by rw[<- l];exact r m);exact wX I.kIn O (c.get m) k.at_ k.fn hn h
theorem rY {y:V}{u:Value}{Q:Unit->Shared->Prop}(I:Inv X pins σ H s)(e:H a=some (.ins C dx fs))(c:Cls X.K C)(n:eQ X.K C f)(hl:fs.length < 1000)(ry:bK y u)(h:∀s',Inv X pins σ (upd H a (.ins C dx (eS f y fs))) s'->Q () s'):wpAny (model X.prog X.w) A (setAttr (.ref a) f u) Q E s:=by
 obtain⟨mA,O,r,wi,_,ho⟩:=kX I.hok e;have hz:(fs.map (·.1)).length<=sizeLine:=by rw[List.length_map,sizeLine_eq];omega
 refine Bx I.kIn O c.sa c.po n.taker c.hd wi hz fun h' O' sb=>h _ ?_;have hd:∃o,h'.get? dx=some o:=let ⟨o,_,_,e',_⟩:=O'.ns;⟨o,e'⟩
 refine I.write (x:=a) (e:=dx) (by rw[e];exact True.intro) (.inr ho) (fun b q hb z=>(sb.2 b hb).trans z) hd ?_;refine⟨by rw[aU O.ne];exact ho,?_,O.ne,O'.obj,_,O'.ns,fun g=>?_,fun g hg=>?_⟩
 ·have:=dU f y fs;omega
 ·show gC ((eS f y fs).lookup g) (if g=f then some u else mA g);rw[bG]
  by_cases q:g=f
  ·rw[if_pos q,if_pos q];exact ry
  ·rw[if_neg q,if_neg q];exact r g
 ·by_cases q:g=f
  ·rw[q];exact(kG f y fs).1
  ·refine(kG f y fs).2 g (wi g fun z=>hg ?_);show (if g=f then some u else mA g)=none;rw[if_neg q];exact z
theorem Inv.made (I:Inv X pins σ H s):Inv X pins σ (upd (upd H s.heap.objs.size (.own (s.heap.objs.size+1))) (s.heap.objs.size+1) (.ins C s.heap.objs.size []))
  { s with heap:=(s.heap.push PySem.W.emptyDict).push (PySem.W.instObj C s.heap.objs.size) }:=by
 have e1:(s.heap.push PySem.W.emptyDict).get? s.heap.objs.size=some PySem.W.emptyDict:=Heap.get?_push_size s.heap rfl;have e2:((s.heap.push PySem.W.emptyDict).push (PySem.W.instObj C s.heap.objs.size)).get? (s.heap.objs.size+1)=some (PySem.W.instObj C s.heap.objs.size):=by
  have:=Heap.get?_push_size (s.heap.push PySem.W.emptyDict) (o:=PySem.W.instObj C s.heap.objs.size) rfl
  rwa [Heap.size_push] at this
 have e3:(s.heap.push PySem.W.emptyDict).Ns s.heap.objs.size (fun _=>none):=⟨PySem.W.emptyDict,#[],_,e1,rfl,(fun e he=>absurd he (by simp)),fun _=>rfl⟩
 have I1:=I.laid (a:=s.heap.objs.size) (o:=.own (s.heap.objs.size+1)) (h':=s.heap.push PySem.W.emptyDict) (t':=s.toks) (fun b u q=>Heap.get?_push_of_some _ q) (Nat.le_refl _) ⟨_,e1⟩;refine I1.laid (a:=s.heap.objs.size+1) (o:=.ins C s.heap.objs.size []) (t':=s.toks) (fun b u q=>Heap.get?_push_of_some _ q) (Nat.le_of_eq (Heap.size_push _ _)) ?_;have ne:s.heap.objs.size≠s.heap.objs.size+1:=Nat.ne_of_lt (Nat.lt_succ_self _);refine⟨by rw[aU ne,aF],Nat.zero_le _,ne,e2,fun _=>none,(Heap.Ns1.of_empty e3).at fun o q=>Heap.get?_push_of_some _ q,fun _=>True.intro,fun y hy=>absurd rfl hy⟩
theorem Bb {prog:Program}{w:World}{env:Env}{e:Expr}{f:Str}{pos:Pos}{s:Shared}{Q:Value->Shared->Prop}(hb:attributeBase e f env (eval e env)=eval e env)(h:wpAny (model prog w) A (eval e env) (fun o s₁=>wpAny (model prog w) A (getAttr o f true) Q E s₁) E s):wpAny (model prog w) A (eval (.Attribute e f pos) env) Q E s:=
 Attribute_any_ h (by rw[arm_eval_Attribute,hb])
end
def Jj (K:PySem.W.Frag)(ta:TE)(f:Str):TE:=fun σ H Q=>ta σ H fun x H1=>∃a C dx fs v,x=.ref a/\H1 a=some (.ins C dx fs)/\Cls K C/\eQ K C f/\fs.lookup f=some v/\Q v H1
def Jg (K:PySem.W.Frag)(ta tv:TE)(f:Str):TS:=fun D σ H=>tv σ H fun y H1=>ta σ H1 fun x H2=>∃a C dx fs,x=.ref a/\H2 a=some (.ins C dx fs)/\Cls K C/\eQ K C f/\fs.length < 1000/\
 D.nx σ (upd H2 a (.ins C dx (eS f y fs)))
section
variable {X:Cx} {o e value:Expr} {f:Str} {pos pos' tpos:Pos} {ta tv:TE}
theorem cU (he:PE X e ta)(hb:attributeBase e f X.env (eval e X.env)=eval e X.env):PE X (.Attribute e f pos) (Jj X.K ta f):=by
 intro pins s σ H Q I h;refine Bb hb (thn (he pins s σ H _ I h) fun u s1 ⟨x,H1,I1,rx,a,C,dx,fs,v,ex,ea,c,n,l,q⟩=>?_);subst ex;obtain rfl:u=Value.ref a:=rx;exact tH I1 ea c n l fun u' s2 I2 ru=>⟨v,H1,I2,ru,q⟩
theorem lC (ha:PE X o ta)(hv:PE X value tv)(hs:swapsWith value (some (.Attribute o f pos')) pos.line X.env=pure false):PS X (.Assign [.Attribute o f pos'] value pos) (Jg X.K ta tv f):=by
 intro pins s σ H D I h;refine plainObj_wpAny_Assign_Attribute (thn (hv pins s σ H _ I h) fun u s1 ⟨y,H1,I1,ry,q⟩=>thn (ha pins s1 σ H1 _ I1 q) fun ov s2 ⟨x,H2,I2,rx,a,C,dx,fs,ex,ea,c,n,l,q2⟩=>?_) hs;subst ex;obtain rfl:ov=Value.ref a:=rx;exact rY I2 ea c n l ry fun s3 I3=>⟨σ,_,I3,q2⟩
end
section
variable {X:Cx} {pins:List (Addr × Obj)} {σ:St} {H:Hp} {s:Shared} {A:Around} {E:Value->Shared->Prop} {Q:Value->Shared->Prop} {c:Value} {b:Bool}
inductive hJ (K:PySem.W.Frag) (H:Hp):V->Value->Prop where
 |non:hJ K H .non (.type "NoneType")
 |bl (x:Bool):hJ K H (.bl x) (.type "bool")
 |int (i:Int):hJ K H (.int i) (.type "int")
 |str (x:Str):hJ K H (.str x) (.type "str")
 |flt (x:UInt64):hJ K H (.flt x) (.type "float")
 |lst {a:Addr} {xs:List V} (e:H a=some (.lst xs)):hJ K H (.ref a) (.type "list")
 |frz {a:Addr} {o:Obj} {xs:List V} (e:H a=some (.frz o (.lst xs))):hJ K H (.ref a) (.type "list")
 |tup {a:Addr} {xs:List V} (e:H a=some (.tup xs)):hJ K H (.ref a) (.type "tuple")
 |dK {a:Addr} {kvs:List (Key × V)} (e:H a=some (.dK kvs)):hJ K H (.ref a) (.type "dict")
 |dT {a:Addr} {kvs:List (List Key × V)} (e:H a=some (.dT kvs)):hJ K H (.ref a) (.type "dict")
 |ins {a C dx:Addr} {fs:List (Str × V)} (e:H a=some (.ins C dx fs)) (cl:Cls K C) (ha:PySem.W.findIn K (.ref C) "__class__"=some (some (.builtin "object.__class__")))
   (hn:PySem.W.specialIn K (.builtin "object.__class__") "__get__"=some (some (.builtin "getset_descriptor.__get__"))) (htk:PySem.W.takesIn K (.builtin "object.__class__")=some true)
   (hm:PySem.W.mroIn K C (.type "object")=some true):hJ K H (.ref a) (.ref C)
theorem vJ {x:V}{u t:Value}(I:Inv X pins σ H s)(rx:bK x u)(ty:hJ X.K H x t)(e:PySem.W.kitOne X.K t c=some b)(h:∀tk,Q (.bool b) { s with toks:=tk }) :
  wpAny (model X.prog X.w) A (call (.builtin "isinstance") [u,c]) Q E s:=by
 cases ty with
 |non=>cases (show u=Value.none from rx);exact PySem.W.kia_one PySem.W.kitx_none I.kIn True.intro e (fun z=>nomatch z) h
 |bl y=>cases (show u=Value.bool y from rx);exact PySem.W.kia_one PySem.W.kitx_bool I.kIn True.intro e (fun z=>nomatch z) h
 |int i=>obtain⟨t,q⟩:=(show ∃t,u=Value.int i t from rx);cases q;exact PySem.W.kia_one PySem.W.kitx_int I.kIn True.intro e (fun z=>nomatch z) h
 |str y=>obtain⟨t,q⟩:=(show ∃t,u=Value.str y t from rx);cases q;exact PySem.W.kia_one PySem.W.kitx_str I.kIn True.intro e (fun z=>nomatch z) h
 |flt y=>obtain⟨t,q⟩:=(show ∃t,u=Value.float y t from rx);cases q;exact PySem.W.kia_one PySem.W.kitx_float I.kIn True.intro e (fun z=>nomatch z) h
 | @lst a xs ea=>
  cases (show u=Value.ref a from rx)
  obtain⟨_,_,n,_,h1⟩:=(show cB X.prog X.w H s.heap a (.lst xs) from I.hok a _ ea)
  exact PySem.W.kia_one PySem.W.kitx_list I.kIn ⟨_,h1,rfl⟩ e (fun z=>nomatch z) h
 | @frz a ob xs ea=>
  cases (show u=Value.ref a from rx)
  obtain⟨_,_,_,n,_,h1⟩:=(show cB X.prog X.w H s.heap a (.frz ob (.lst xs)) from I.hok a _ ea)
  exact PySem.W.kia_one PySem.W.kitx_list I.kIn ⟨_,h1,rfl⟩ e (fun z=>nomatch z) h
 | @tup a xs ea=>
  cases (show u=Value.ref a from rx)
  obtain⟨_,_,_,p⟩:=(show cB X.prog X.w H s.heap a (.tup xs) from I.hok a _ ea)
  obtain⟨o,h1,h2,_⟩:=p;exact PySem.W.kia_one PySem.W.kitx_tuple I.kIn ⟨o,h1,h2⟩ e (fun z=>nomatch z) h
 | @dK a kvs ea=>
  cases (show u=Value.ref a from rx)
  obtain⟨_,_,vs,_,p⟩:=(show cB X.prog X.w H s.heap a (.dK kvs) from I.hok a _ ea)
  obtain⟨o,es,ep,h1,h2,_⟩:=p;exact PySem.W.kia_one PySem.W.kitx_dict I.kIn ⟨o,h1,h2.1⟩ e (fun z=>nomatch z) h
 | @dT a kvs ea=>
  cases (show u=Value.ref a from rx)
  obtain⟨_,_,xs,_,o,es,ep,h1,h2,_⟩:=(show cB X.prog X.w H s.heap a (.dT kvs) from I.hok a _ ea)
  exact PySem.W.kia_one PySem.W.kitx_dict I.kIn ⟨o,h1,h2.1⟩ e (fun z=>nomatch z) h
 | @ins a C dx fs ea cl ha hn htk hm=>
  cases (show u=Value.ref a from rx)
  obtain⟨mA,O,_⟩:=kX I.hok ea;obtain⟨od,J,_⟩:=O.look;exact PySem.W.kia_one (PySem.W.kitx_own (cl.get _) cl.hd ha hn htk hm) I.kIn J e (fun z=>nomatch z) h
end
structure dH (k:Nat) (A:Around):Prop where
 hd:A.handled=none
 dp:A.depth+3*k+5 < recursionLimit
 un:A.units+16*k+200 < cLine
theorem dH.mono {j k:Nat}{A:Around}(r:dH k A)(h:j<=k):dH j A:=⟨r.hd,by have:=r.dp;omega,by have:=r.un;omega⟩
theorem dH.deeper {k:Nat}{A:Around}(r:dH (k+1) A)(env:Env):dH k (A.deeper env):=
 ⟨r.hd,by have:=r.dp;show A.depth+1+3*k+5 < _;omega,by have:=r.un;show A.units+3+16*k+200 < _;omega⟩
theorem sV {A:Around}{C:Addr}{us:List Value}{kw:List (Str × Value)}:(A.under (.builtin "type.__call__" ⟨.ref C :: us,kw⟩)).depth=A.depth+1:=by
 first | rfl | simp[Around.under,Code.weight,Code.isCreation,Code.isGuard,Code.isCaller,Code.frames,Code.isFrame,guardIds]
theorem rW {A:Around}{C:Addr}{us:List Value}{kw:List (Str × Value)}:(A.under (.builtin "type.__call__" ⟨.ref C :: us,kw⟩)).units=A.units+1:=by
 first | rfl | simp[Around.under,Code.cUnits,Code.frames,Code.isFrame]
theorem dH.make {k:Nat}{A:Around}(r:dH (k+1) A)(C:Addr)(us:List Value)(kw:List (Str × Value)):dH k (A.under (.builtin "type.__call__" ⟨.ref C :: us,kw⟩)):=
 ⟨r.hd,by have:=r.dp;rw[sV];omega,by have:=r.un;rw[rW];omega⟩
theorem dH.depth {k:Nat}{A:Around}(r:dH k A):A.depth < recursionLimit:=by have:=r.dp;omega
theorem dH.units {k:Nat}{A:Around}(r:dH k A):A.units+64 < cLine:=by have:=r.un;omega
def Dh:TA:=fun _ H Q=>Q [] H
def Hg (ta:TE)(tr:TA):TA:=fun σ H Q=>ta σ H fun x H1=>tr σ H1 fun xs H2=>Q (x :: xs) H2
section
variable {X:Cx} {e:Expr} {es:List Expr} {te:TE} {t:TA} {pos:Pos}
theorem aD:PA X [] Dh:=fun _ _ _ _ H Q I h=>Calls.spliced_nil ⟨[],H,I,.nil,h⟩
theorem aA (ha:PE X e te)(hr:PA X es t)(hs:starEach (e :: es) X.env=(false,eval e X.env) :: starEach es X.env:=by rfl):PA X (e :: es) (Hg te t):=by
 intro pos pins s σ H Q I h;rw[hs];show wpAny _ _ (spliced ((false,eval e X.env) :: backTo pos (starEach es X.env))) _ _ s;refine Calls.spliced_cons (thn (ha pins s σ H _ I h) fun u s1 ⟨x,H1,I1,r1,q1⟩=>?_);exact thn (hr pos pins s1 σ H1 _ I1 q1) fun us s2 ⟨xs,H2,I2,r2,q2⟩=>⟨x :: xs,H2,I2,.cons r1 r2,q2⟩
def Ft (t:TA):TE:=fun σ H Q=>t σ H fun xs H1=>xs.length<=sizeLine/\∀p,H1 p=none->Q (.ref p) (upd H1 p (.tup xs))
def Iz (t:TA):TE:=fun σ H Q=>t σ H fun xs H1=>xs.length<=sizeLine/\∀p,H1 p=none->Q (.ref p) (upd H1 p (.lst xs))
theorem bV {x1}(h:PA X es t):PE X (.Tuple es x1 pos) (Ft t):=by
 intro pins s σ H Q I hq;refine wpAny_Tuple_spliced (thn (h pos pins s σ H _ I hq) fun us s1 ⟨xs,H1,I1,r,z,q⟩=>⟨by rw[<- r.length];exact z,?_⟩);have hf:H1 s1.heap.objs.size=none:=I1.hok.fresh (Nat.le_refl _);refine⟨.ref s1.heap.objs.size,upd H1 s1.heap.objs.size (.tup xs),I1.laid (t':=s1.toks) (fun b u e=>Heap.get?_push_of_some _ e) (Nat.le_refl _) ?_,rfl,q _ hf⟩;exact⟨z,us,r,⟨_,Heap.get?_push_size _ rfl,rfl,_,rfl⟩⟩
theorem cL (h:PA X es t):PE X (.List es pos) (Iz t):=by
 intro pins s σ H Q I hq;refine wpAny_List_spliced (thn (h pos pins s σ H _ I hq) fun us s1 ⟨xs,H1,I1,r,z,q⟩=>⟨by rw[<- r.length];exact z,?_⟩);have hf:H1 s1.heap.objs.size=none:=I1.hok.fresh (Nat.le_refl _);refine⟨.ref s1.heap.objs.size,upd H1 s1.heap.objs.size (.lst xs),I1.laid (t':=s1.toks) (fun b u e=>Heap.get?_push_of_some _ e) (Nat.le_refl _) ?_,rfl,q _ hf⟩;exact⟨z,us,0,r,Heap.get?_push_size _ rfl⟩
end
abbrev Sp:=List V->Hp->VK->XK->Prop
abbrev CXT:=List Env->Hp->Shared->XK->Value->Shared->Prop
structure rZ (P:Program) (w:World) (K:PySem.W.Frag) (mg:Str->Option Value) (base:Heap) (A:Around) (outer:List Env) (s:Shared) (H:Hp):Prop where
 frames:A.frames=some outer
 mod:Mod K mg base
 bs:∀b o,base.get? b=some o->s.heap.get? b=some o/\H b=none
 bsz:base.objs.size<=s.heap.objs.size
 funs:s.heap.FunFrames base outer
 frf:∀b∈frs outer,H b=none
 hok:HOk P w H s.heap
 bare:AllBare s.gens
def CE (outer:List Env)(P:Program)(w:World)(H:Hp)(s:Shared)(Q:VK)(u:Value)(s':Shared):Prop:=
 ∃v H',s'.os=s.os/\AllBare s'.gens/\Un (frs outer) [] H H' s.heap s'.heap/\HOk P w H' s'.heap/\bK v u/\Q v H'
def CR (CX:CXT)(outer:List Env)(P:Program)(w:World)(H:Hp)(s:Shared)(Q:VK)(E:XK)(r:Result)(s':Shared):Prop:=
 match r with
 | .ok (.ret u)=>CE outer P w H s Q u s'
 | .ok _=>False
 | .error e=>CX outer H s E e s'
structure aK (P:Program) (w:World) (K:PySem.W.Frag) (mg:Str->Option Value) (base:Heap) (CX:CXT) (k:Nat) (f:Addr) (fd:FuncData) (ps:List Str) (sp:Sp):Prop where
 len:∀vs H Q E,sp vs H Q E->vs.length=ps.length
 run:∀(A:Around) (outer:List Env) (s:Shared) (H:Hp) (args:Args) (us:List Value) (vs:List V) (Q:VK) (E:XK),dH k A->rZ P w K mg base A outer s H->BindsTo s fd args (ps.zip us)->bL vs us->sp vs H Q E->
  codeAny (model P w) A (.call (.ref f) args) (CR CX outer P w H s Q E) s
theorem aK.imp {P:Program}{w:World}{K:PySem.W.Frag}{mg:Str->Option Value}{base:Heap}{CX:CXT}{k:Nat}{f:Addr}{fd:FuncData}{ps:List Str}{sp sp':Sp}(F:aK P w K mg base CX k f fd ps sp)(h:∀vs H Q E,sp' vs H Q E->sp vs H Q E):aK P w K mg base CX k f fd ps sp':=
 ⟨fun vs H Q E q=>F.len vs H Q E (h _ _ _ _ q),fun A outer s H args us vs Q E hr he hb hv hs=>F.run A outer s H args us vs Q E hr he hb hv (h _ _ _ _ hs)⟩
theorem rZ.make {P:Program}{w:World}{K:PySem.W.Frag}{mg:Str->Option Value}{base:Heap}{A:Around}{outer:List Env}{s:Shared}{H:Hp}(e:rZ P w K mg base A outer s H)(C:Addr)(us:List Value)(kw:List (Str × Value)) :
  rZ P w K mg base (A.under (.builtin "type.__call__" ⟨.ref C :: us,kw⟩)) outer s H:=⟨by first | exact e.frames | (simpa[Around.under,Code.envs,Code.isFrame,pushEnvs] using e.frames),e.mod,e.bs,e.bsz,e.funs,e.frf,e.hok,e.bare⟩
section
variable {X:Cx} {pins:List (Addr × Obj)} {σ:St} {H:Hp} {s s':Shared}
theorem Inv.env0 (I:Inv X pins σ H s):rZ X.prog X.w X.K X.mg X.base X.A X.stack s H:=
 ⟨I.ok.frames,I.ok.mod,I.bs,Nat.le_trans I.ok.bsz I.sz,I.stack,I.stkFree,I.hok,I.bare⟩
theorem Inv.after {Q:VK}{u:Value}(I:Inv X pins σ H s)(h:CE X.stack X.prog X.w H s Q u s'):EP X pins σ Q u s':=by
 obtain⟨v,H',os,bare,un,hok,r,q⟩:=h;obtain⟨hh,g,d,t,os'⟩:=s';obtain rfl:os'=s.os:=os;exact⟨v,H',I.call (h':=hh) (g':=g) (d':=d) (t':=t) (ch:=[]) un hok bare (fun b z=>absurd z (by simp)),r,q⟩
end
def Hj (sp:Sp)(dvs:List V)(E:XK)(t:TA):TE:=fun σ H Q=>t σ H fun vs H1=>sp (vs++dvs) H1 Q E
def Ck (C:Addr)(m:Str)(sp:Sp)(dvs:List V)(E:XK)(ta:TE)(t:TA):TE:=fun σ H Q=>ta σ H fun x H1=>∃a dx fs,x=.ref a/\H1 a=some (.ins C dx fs)/\fs.lookup m=none/\
 t σ H1 fun vs H2=>sp (x :: (vs++dvs)) H2 Q E
def Fp (C:Addr)(sp:Sp)(dvs:List V)(E:XK)(t:TA):TE:=fun σ H Q=>t σ H fun vs H1=>∀x dx,H1 x=none->H1 dx=none->dx≠x->
 sp (.ref x :: (vs++dvs)) (upd (upd H1 dx (.own x)) x (.ins C dx [])) (fun v H2=>v=.non/\Q (.ref x) H2) E
def aR (K:PySem.W.Frag)(fd:FuncData)(ps:List Str)(ds:List Value):Prop:=
 ∀(s:Shared) (us:List Value),K.In s.heap->(us++ds).length=ps.length->BindsTo s fd ⟨us,[]⟩ (ps.zip (us++ds))
theorem aR.all {K:PySem.W.Frag}{fd:FuncData}{ps:List Str}(h:∀us:List Value,us.length=ps.length->bindArgs fd ⟨us,[]⟩=pure (ps.zip us)):aR K fd ps []:=fun s us _ hl=>by
 rw[List.append_nil] at hl ⊢;exact .of_eq (h us hl)
def gM (CX:CXT)(X:Cx)(E:XK):Prop:=∀(pins:List (Addr × Obj)) (σ:St) (H:Hp) (s:Shared) (e:Value) (s':Shared),Inv X pins σ H s->CX X.stack H s E e s'->X.xe e s'
section
variable {X:Cx} {CX:CXT} {k:Nat} {f C:Addr} {fd:FuncData} {ps:List Str} {sp:Sp} {dvs:List V} {ds:List Value} {E:XK} {x m:Str} {p pos apos:Pos} {e o:Expr} {es:List Expr} {ta:TE} {t:TA}
theorem oX {pins:List (Addr × Obj)}{σ:St}{H:Hp}{s:Shared}{Q:VK}{us:List Value}{vs:List V}(F:aK X.prog X.w X.K X.mg X.base CX k f fd ps sp)(hr:dH k X.A)(hb:aR X.K fd ps ds)(hd:bL dvs ds)(hx:gM CX X E)(I:Inv X pins σ H s)(r:bL vs us)(h:sp (vs++dvs) H Q E):wpAny (model X.prog X.w) X.A (call (.ref f) us) (EP X pins σ Q) X.xe s:=by
 have r2:bL (vs++dvs) (us++ds):=r.append hd;have hl:(us++ds).length=ps.length:=by rw[<- r2.length];exact F.len _ _ _ _ h
 refine wpAny_call (codeAny_mono (F.run X.A X.stack s H ⟨us,[]⟩ (us++ds) (vs++dvs) Q E hr I.env0 (hb s us I.kIn hl) r2 h) fun r s' hq=>?_)
 cases r with
 |error e=>exact hx pins σ H s e s' I hq
 |ok fl=>
  cases fl with
  |ret u=>exact I.after hq
  |next=>exact False.elim hq
  |brk=>exact False.elim hq
  |cont=>exact False.elim hq
theorem aI (F:aK X.prog X.w X.K X.mg X.base CX k f fd ps sp)(hr:dH k X.A)(hg:Gl X x)(hm:X.mg x=some (.ref f))(hk:PySem.W.keepIn X.K (.ref f)=true)(hb:aR X.K fd ps ds)(hd:bL dvs ds)(hx:gM CX X E)(ha:PA X (e :: es) t)(hdb:(x == ("__debug__":Str))=false:=by decide)(he:starEach (e :: es) X.env=(false,eval e X.env) :: starEach es X.env:=by rfl)(hpl:(backTo pos (starEach es X.env)).any (·.1)=false:=by rfl) :
  PE X (.Call (.Name x p) (e :: es) [] pos) (Hj sp dvs E t):=by
 intro pins s σ H Q I h;refine wpAny_Call_Name_kw (gP I hg hm ?_ hdb);refine PySem.W.callWith_K (h₀:=X.base) I.ok.mod.kin hk (thn (ha pos pins s σ H _ I h) fun us s1 ⟨vs,H1,I1,r,q⟩=>⟨I1.kIn,?_⟩) he hpl;exact oX F hr hb hd hx I1 r q
theorem tZ {pl:Sem Bool}(he:PE X o ta)(c:Cls X.K C)(hm:gE X.K C m f)(F:aK X.prog X.w X.K X.mg X.base CX k f fd ps sp)(hr:dH k X.A)(hb:aR X.K fd ps ds)(hd:bL dvs ds)(hx:gM CX X E)(ha:PA X (e :: es) t)(hst:starEach (e :: es) X.env=(false,eval e X.env) :: starEach es X.env:=by rfl)(hpl:(backTo pos (starEach es X.env)).any (·.1)=false:=by rfl)(ht:eval (.Call (.Attribute o m apos) (e :: es) [] pos) X.env=(do
   let ov <- eval o X.env
   standAt apos.atName
   let (f,first) <- holding [ov] (getMethod ov m pl)
   callWith pos f first (backTo pos (starEach (e :: es) X.env)) (backToKw pos (keywordEach [] X.env))):=by rfl) :
  PE X (.Call (.Attribute o m apos) (e :: es) [] pos) (Ck C m sp dvs E ta t):=by
 intro pins s σ H Q I h;refine PySem.W.methodCall_KW (pl:=pl) (thn (he pins s σ H _ I h) fun u s1 ⟨x,H1,I1,rx,a,dx,fs,ex,ea,l,q⟩=>?_) ht;subst ex;obtain rfl:u=Value.ref a:=rx;refine iK I1 ea c hm l ?_;refine PySem.W.callWith_K (first:=[.ref a]) (h₀:=X.base) I.ok.mod.kin hm.kp (thn (ha pos pins s1 σ H1 _ I1 q) fun us s2 ⟨vs,H2,I2,r,q2⟩=>⟨I2.kIn,?_⟩) hst hpl;exact oX (us:=.ref a :: us) (vs:=.ref a :: vs) F hr hb hd hx I2 (.cons rfl r) q2
theorem gH {pl:Sem Bool}(he:PE X o ta)(c:Cls X.K C)(hm:gE X.K C m f)(F:aK X.prog X.w X.K X.mg X.base CX k f fd ps sp)(hr:dH k X.A)(hb:aR X.K fd ps ds)(hd:bL dvs ds)(hx:gM CX X E)(ht:eval (.Call (.Attribute o m apos) [] [] pos) X.env=(do
   let ov <- eval o X.env
   standAt apos.atName
   let (f,first) <- holding [ov] (getMethod ov m pl)
   callWith pos f first (backTo pos (starEach [] X.env)) (backToKw pos (keywordEach [] X.env))):=by rfl) :
  PE X (.Call (.Attribute o m apos) [] [] pos) (Ck C m sp dvs E ta Dh):=by
 intro pins s σ H Q I h;refine PySem.W.methodCall_KW (pl:=pl) (thn (he pins s σ H _ I h) fun u s1 ⟨x,H1,I1,rx,a,dx,fs,ex,ea,l,q⟩=>?_) ht;subst ex;obtain rfl:u=Value.ref a:=rx;refine iK I1 ea c hm l ?_;exact PySem.W.callWith_K0 (first:=[.ref a]) I1.kIn hm.kp (oX (us:=[.ref a]) (vs:=[.ref a]) F hr hb hd hx I1 (.cons rfl .nil) q)
structure Mk (K:PySem.W.Frag) (C f:Addr):Prop where
 makes:PySem.W.makesIn K C=true
 init:PySem.W.findIn K (.ref C) "__init__"=some (some (.ref f))
 fn:PySem.W.isFn K (.ref f)=true
 kp:PySem.W.keepIn K (.ref C)=true
theorem zM {pins:List (Addr × Obj)}{σ:St}{H:Hp}{s:Shared}{Q:VK}{us:List Value}{vs:List V}(M:Mk X.K C f)(F:aK X.prog X.w X.K X.mg X.base CX k f fd ps sp)(hr:dH (k+1) X.A)(hb:aR X.K fd ps ds)(hd:bL dvs ds)(hx:gM CX X E)(I:Inv X pins σ H s)(r:bL vs us)(h:∀x dx,H x=none->H dx=none->dx≠x->sp (.ref x :: (vs++dvs)) (upd (upd H dx (.own x)) x (.ins C dx [])) (fun v H2=>v=.non/\Q (.ref x) H2) E) :
  wpAny (model X.prog X.w) X.A (call (.ref C) us) (EP X pins σ Q) X.xe s:=by
 have hq:=h (s.heap.objs.size+1) s.heap.objs.size (I.hok.fresh (Nat.le_succ _)) (I.hok.fresh (Nat.le_refl _)) (Nat.ne_of_lt (Nat.lt_succ_self _));have I2:=Inv.made (C:=C) I;have r2:bL (V.ref (s.heap.objs.size+1) :: (vs++dvs)) (Value.ref (s.heap.objs.size+1) :: (us++ds)):=.cons rfl (r.append hd);have hl:(Value.ref (s.heap.objs.size+1) :: us++ds).length=ps.length:=by
  have e:=r2.length;rw[F.len _ _ _ _ hq] at e;exact e.symm
 refine wpAny_call (yK (f:=f) I.kIn M.makes M.init (beq_iff_eq.mp M.fn) (codeAny_mono (F.run _ X.stack _ _ ⟨Value.ref (s.heap.objs.size+1) :: us,[]⟩ (Value.ref (s.heap.objs.size+1) :: (us++ds)) _ _ E (hr.make C us [])
  (I2.env0.make C us []) (hb _ (Value.ref (s.heap.objs.size+1) :: us) I2.kIn hl) r2 hq) fun r s' hq'=>?_))
 cases r with
 |error e=>exact hx pins σ _ _ e s' I2 hq'
 |ok fl=>
  cases fl with
  |ret u=>
   obtain⟨v,H',I3,rv,ev,q3⟩:=I2.after hq';subst ev;exact⟨rv,⟨V.ref (s.heap.objs.size+1),H',I3,rfl,q3⟩⟩
  |next=>exact False.elim hq'
  |brk=>exact False.elim hq'
  |cont=>exact False.elim hq'
theorem kT (M:Mk X.K C f)(F:aK X.prog X.w X.K X.mg X.base CX k f fd ps sp)(hr:dH (k+1) X.A)(hg:Gl X x)(hm:X.mg x=some (.ref C))(hb:aR X.K fd ps ds)(hd:bL dvs ds)(hx:gM CX X E)(ha:PA X (e :: es) t)(hdb:(x == ("__debug__":Str))=false:=by decide)(he:starEach (e :: es) X.env=(false,eval e X.env) :: starEach es X.env:=by rfl)(hpl:(backTo pos (starEach es X.env)).any (·.1)=false:=by rfl) :
  PE X (.Call (.Name x p) (e :: es) [] pos) (Fp C sp dvs E t):=by
 intro pins s σ H Q I h;refine wpAny_Call_Name_kw (gP I hg hm ?_ hdb);refine PySem.W.callWith_K (h₀:=X.base) I.ok.mod.kin M.kp (thn (ha pos pins s σ H _ I h) fun us s1 ⟨vs,H1,I1,r,q⟩=>⟨I1.kIn,?_⟩) he hpl;exact zM M F hr hb hd hx I1 r q
end
structure aS (N P:List Str) (sc:Scope):Prop where
 kind:sc.kind=.function
 co:sc.isCoroutine=false
 gen:sc.isGenerator=false
 nd:N.Nodup
 pre:N.take P.length=P
 par:∀x∈P,sc.names.lookup x=some .local\/sc.names.lookup x=some .cell
 nofree:∀y∈sc.names,y.2≠.free
theorem nE {kindOf:Str->Option NameKind}{x:Str}:∀{binds:List (Str × Value)} {m:Str->Option Value},(∀v,(x,v)∉binds)->bindL kindOf binds m x=m x
 | [],_,_=>rfl
 | (n,v) :: r,m,h=>by
  unfold bindL;rw[nE fun w hw=>h w (List.mem_cons_of_mem _ hw)];split
  ·have:x≠n:=by rintro rfl;exact h v List.mem_cons_self
   simp[this]
  ·rfl
theorem nA {kindOf:Str->Option NameKind}{x:Str}:∀{binds:List (Str × Value)} {m:Str->Option Value},(∀v,(x,v)∉binds)->bindC kindOf binds m x=m x
 | [],_,_=>rfl
 | (n,v) :: r,m,h=>by
  unfold bindC;rw[nA fun w hw=>h w (List.mem_cons_of_mem _ hw)];split
  ·rfl
  ·have:x≠n:=by rintro rfl;exact h v List.mem_cons_self
   simp[this]
theorem oA {kindOf:Str->Option NameKind}{x:Str}{v:Value}:∀{P:List Str} {vs:List Value} {i:Nat} {m:Str->Option Value},P.Nodup->P[i]?=some x->vs[i]?=some v->kindOf x=some .local->
  bindL kindOf (P.zip vs) m x=some v
 | [],_,_,_,_,h,_,_=>by simp at h
 |_ :: _,[],_,_,_,_,h,_=>by simp at h
 |p :: P,w :: vs,0,m,nd,h1,h2,hk=>by
  simp at h1 h2;subst h1;subst h2;show bindL kindOf ((p,w) :: P.zip vs) m p=_;unfold bindL;rw[nE fun v hv=>(List.nodup_cons.mp nd).1 (List.of_mem_zip hv).1,if_pos hk];simp
 |p :: P,w :: vs,i+1,m,nd,h1,h2,hk=>by
  show bindL kindOf ((p,w) :: P.zip vs) m x=_;unfold bindL;exact oA (i:=i) (List.nodup_cons.mp nd).2 (by simpa using h1) (by simpa using h2) hk
theorem nJ {kindOf:Str->Option NameKind}{x:Str}{v:Value}:∀{P:List Str} {vs:List Value} {i:Nat} {m:Str->Option Value},P.Nodup->P[i]?=some x->vs[i]?=some v->kindOf x≠some .local->
  bindC kindOf (P.zip vs) m x=some v
 | [],_,_,_,_,h,_,_=>by simp at h
 |_ :: _,[],_,_,_,_,h,_=>by simp at h
 |p :: P,w :: vs,0,m,nd,h1,h2,hk=>by
  simp at h1 h2;subst h1;subst h2;show bindC kindOf ((p,w) :: P.zip vs) m p=_;unfold bindC;rw[nA fun v hv=>(List.nodup_cons.mp nd).1 (List.of_mem_zip hv).1,if_neg hk];simp
 |p :: P,w :: vs,i+1,m,nd,h1,h2,hk=>by
  show bindC kindOf ((p,w) :: P.zip vs) m x=_;unfold bindC;exact nJ (i:=i) (List.nodup_cons.mp nd).2 (by simpa using h1) (by simpa using h2) hk
def start (N:List Str)(vs:List V):St:=vs.map some++List.replicate (N.length - vs.length) none
def mX (CX:CXT)(P:Program)(w:World)(K:PySem.W.Frag)(mg:Str->Option Value)(base:Heap)(N:List Str)(qual:Str)(scope:Scope)(f:Addr)(cd:Value)(A:Around)(outer:List Env)(s:Shared)(H:Hp)(E:XK):Cx where
 prog:=P
 w:=w
 K:=K
 mg:=mg
 base:=base
 A:=A.deeper (envOfC qual scope s.heap.objs.size f cd)
 N:=N
 s₀:=s
 H₀:=H
 env:=envOfC qual scope s.heap.objs.size f cd
 outer:=outer
 stack:=envOfC qual scope s.heap.objs.size f cd :: outer
 ex:=[]
 calm:=true
 fn:=fun _=>true
 pn:=[]
 xe:=fun e s'=>wpAny (model P w) (A.deeper (envOfC qual scope s.heap.objs.size f cd)) (leaving (envOfC qual scope s.heap.objs.size f cd) e) (fun _ s''=>CX outer H s E e s'') (fun e' s''=>CX outer H s E e' s'') s'
theorem qJ {sc:Scope}{n:Nat}{x:Str}(h:sc.names.lookup x=some .cell):∃c,(cellsFrom n sc.names []).lookup x=some c:=by
 have q:=PySem.W.cellsFrom_some sc.names n [] (.inl h);exact Option.isSome_iff_exists.mp q
theorem vN {CX:CXT}{P:Program}{w:World}{K:PySem.W.Frag}{mg:Str->Option Value}{base:Heap}{N ps:List Str}{qual:Str}{scope:Scope}{f:Addr}{cd:Value}{A:Around}{outer:List Env}{s s1:Shared}{H:Hp}{E:XK}{us:List Value}{vs:List V}(S:aS N ps scope)(hd:A.handled=none)(e0:rZ P w K mg base A outer s H)(hl:vs.length=ps.length)(r:bL vs us)(x:InCallC s s.heap.objs.size (bindL (envOfC qual scope s.heap.objs.size f cd).kindOf (ps.zip us) fun _=>none) (cellsFrom (s.heap.objs.size+1) scope.names []) (bindC (envOfC qual scope s.heap.objs.size f cd).kindOf (ps.zip us) fun _=>none) s1) :
  Inv (mX CX P w K mg base N qual scope f cd A outer s H E) [] (start N vs) H s1:=by
 have hpl:ps.length<=N.length:=by have:=congrArg List.length S.pre;rw[List.length_take] at this;omega
 obtain⟨h1,tk,rfl,hk⟩:=x.done;have noA:∀b:Addr,b∉(mX CX P w K mg base N qual scope f cd A outer s H E).ex:=fun b z=>absurd (show b∈([]:List Addr) from z) (by simp);refine⟨⟨e0.mod,S.kind,rfl,rfl,Nat.le_refl _,fun y z c h1 h2=>?_,fun y hy=>?_,fun y c _ h=>?_,fun _=>hd,Around.frames_deeper e0.frames,.inr ⟨rfl,rfl⟩,fun b z=>absurd z (noA b),e0.bs,e0.bsz,fun b _ _=>noA b,fun b z=>absurd z (noA b),e0.funs,e0.frf⟩,
  rfl,e0.bare,Un.kept hk,⟨_,x.toInCall.ns,fun i y v h1 h2 h3=>?_⟩,fun y c h=>⟨_,x.cell y c h⟩,e0.hok.fresh (Nat.le_refl _),fun y c h=>?_,fun p hp=>absurd (show p∈([]:List (Addr × Obj)) from hp) (by simp),e0.hok.kept hk,?_⟩
 ·exact name_of_addr x.apart (PySem.mem_of_lookup h1) (PySem.mem_of_lookup h2)
 ·have hy:scope.names.lookup y=some .cell\/scope.names.lookup y=some .free:=hy;rcases hy with hy | hy
  ·exact qJ hy
  ·exact absurd rfl (S.nofree _ (PySem.mem_of_lookup hy))
 ·exact Nat.le_of_lt (x.above y c (PySem.mem_of_lookup h))
 ·have hi:i < vs.length:=by
   unfold start at h2
   by_cases hi:i < vs.length
   ·exact hi
   ·rw[List.getElem?_append_right (by simpa using hi)] at h2;rw[List.getElem?_replicate] at h2;split at h2<;>cases h2
  have ha:vs[i]?=some v:=by
   unfold start at h2;rw[List.getElem?_append_left (by simpa using hi),List.getElem?_map] at h2
   cases e:vs[i]? with
   |none=>rw[e] at h2;cases h2
   |some a=>rw[e] at h2;cases h2;rfl
  obtain⟨u,hu,rv⟩:=r.get ha;have hp:ps[i]?=some y:=by
   rw[<- S.pre,List.getElem?_take_of_lt (by omega)];exact h1
  have ndP:ps.Nodup:=by rw[<- S.pre];exact S.nd.sublist (List.take_sublist _ _)
  refine⟨u,rv,?_⟩;rcases S.par y (List.mem_of_getElem? hp) with k | k
  ·exact .inl ⟨k,oA ndP hp hu k⟩
  ·obtain⟨c,e⟩:=qJ (n:=s.heap.objs.size+1) k;refine .inr ⟨.inl k,c,e,?_⟩;have q:=x.cell y c e;rw[nJ ndP hp hu (by show scope.names.lookup y≠_;rw[k];decide)] at q;exact q
 ·exact e0.hok.fresh (Nat.le_of_lt (x.above y c (PySem.mem_of_lookup h)))
 ·unfold start;show _=N.length;rw[List.length_append,List.length_map,List.length_replicate];omega
theorem Gk {CX:CXT}{P:Program}{w:World}{K:PySem.W.Frag}{mg:Str->Option Value}{base:Heap}{k:Nat}{f:Addr}{name qual:Str}{params:Arguments}{body:List Stmt}{scope:Scope}{dV kV doc pm cdv ct oc:Value}{an od:Option Addr}{osl:Array (Option Value)}{N ps:List Str}{sp:Sp}(lk:K.lookup f=some ⟨oc,od,.func (PySem.W.fnOf name qual params body scope dV kV doc pm an cdv ct),osl⟩)(hcd:PySem.W.codeIn K cdv qual=true)(S:aS N ps scope)(len:∀vs H Q E,sp vs H Q E->vs.length=ps.length)(hbody:∀(A:Around) (outer:List Env) (s:Shared) (H:Hp) (vs:List V) (Q:VK) (E:XK),dH k (A.deeper (envOfC qual scope s.heap.objs.size f cdv))->sp vs H Q E->
   ∃t,PSs (mX CX P w K mg base N qual scope f cdv A outer s H E) body t/\t { nx:=fun _ H'=>Q .non H',rt:=Q } (start N vs) H) :
  aK P w K mg base CX (k+1) f (PySem.W.fnOf name qual params body scope dV kV doc pm an cdv ct) ps sp:=by
 refine⟨len,fun A outer s H args us vs Q E hr e0 hb r hsp=>?_⟩;have hl:=len _ _ _ _ hsp;have KX:K.In s.heap:=e0.mod.kin.keeps fun b o e=>(e0.bs b o e).1;have lim:s.heap.NoLimit:=e0.mod.nolimit.keeps fun b o e=>(e0.bs b o e).1;have hkind:∀y∈ps.zip us,scope.names.lookup y.1=some .local\/(scope.names.lookup y.1=some .cell/\((cellsFrom (s.heap.objs.size+1) scope.names []).lookup y.1).isSome=true):=fun ⟨n,v⟩ hy=>by
  rcases S.par n (List.of_mem_zip hy).1 with q | q
  ·exact .inl q
  ·exact .inr ⟨q,PySem.W.cellsFrom_some _ _ _ (.inl q)⟩
 refine codeAny_call_function hr.depth (KX _ _ lk) rfl S.co S.gen rfl (PySem.W.codeRec_of KX hcd) (hb _ _ _ _ ?_);refine wpAny_newFunctionEnv_cells S.kind hkind fun env he s1 x=>?_;subst he;refine⟨lim.keeps x.toInCall.keep,codeAny_func ?_⟩;obtain⟨t,ht,hq⟩:=hbody A outer s H vs Q E (hr.deeper _) hsp;have I:Inv (mX CX P w K mg base N qual scope f cdv A outer s H E) [] (start N vs) H s1:=vN S hr.hd e0 hl r x;refine wpAny_mono (ht [] s1 (start N vs) H _ I hq) (fun fl s' hs=>?_) fun e s' hs=>hs;have fin:∀{σ':St} {H':Hp} {v:V} {u:Value},Inv (mX CX P w K mg base N qual scope f cdv A outer s H E) [] σ' H' s'->bK v u->Q v H'->CE outer P w H s Q u s':=
  fun {σ' H' v u} J rv q=>⟨v,H',J.os,J.bare,J.base,J.hok,rv,q⟩
 cases fl with
 |ret u=>
  obtain⟨v,σ',H',J,rv,q⟩:=hs;exact fin J rv q
 |next=>
  obtain⟨σ',H',J,q⟩:=hs;exact fin (v:=V.non) (u:=Value.none) J rfl q
 |brk=>
  obtain⟨_,_,_,q⟩:=hs;exact False.elim q
 |cont=>
  obtain⟨_,_,_,q⟩:=hs;exact False.elim q
section
variable {X:Cx} {x:Str} {p pos:Pos} {e:Expr} {es:List Expr} {t:TA} {id T:String} {r:List V->Hp->VK->Prop}
def tCB (r:List V->Hp->VK->Prop)(t:TA):TE:=fun σ H Q=>t σ H fun vs H1=>r vs H1 Q
theorem bQ (hc:iT X (.builtin id) r)(hg:Gl X x)(hm:X.mg x=none)(hv:bootBuiltins x=some (.builtin id))(ha:PA X (e :: es) t)(hn:x≠"__name__":=by decide)(hdb:(x == ("__debug__":Str))=false:=by decide)(he:starEach (e :: es) X.env=(false,eval e X.env) :: starEach es X.env:=by rfl)(hpl:(backTo pos (starEach es X.env)).any (·.1)=false:=by rfl):PE X (.Call (.Name x p) (e :: es) [] pos) (tCB r t):=by
 intro pins s σ H Q I h;refine wpAny_Call_Name_kw (jW I hg hm hv ?_ hn hdb);exact PyProof.Rows.callWith_builtin1 (thn (ha pos pins s σ H _ I h) fun us s1 ⟨vs,H1,I1,r1,q1⟩=>hc pins s1 σ H1 vs us Q I1 r1 q1) he hpl
theorem oC (hc:iT X (.type T) r)(hg:Gl X x)(hm:X.mg x=none)(hv:bootBuiltins x=some (.type T))(ha:PA X (e :: es) t)(hn:x≠"__name__":=by decide)(hdb:(x == ("__debug__":Str))=false:=by decide)(he:starEach (e :: es) X.env=(false,eval e X.env) :: starEach es X.env:=by rfl)(hpl:(backTo pos (starEach es X.env)).any (·.1)=false:=by rfl):PE X (.Call (.Name x p) (e :: es) [] pos) (tCB r t):=by
 intro pins s σ H Q I h;refine wpAny_Call_Name_kw (jW I hg hm hv ?_ hn hdb);exact PyProof.Rows.callWith_type1 (thn (ha pos pins s σ H _ I h) fun us s1 ⟨vs,H1,I1,r1,q1⟩=>hc pins s1 σ H1 vs us Q I1 r1 q1) he hpl
end
end L2
namespace HT
open PySem PyProof.Rows
section
variable {prog:Program} {w:World} {A:Around} {E:Value->Shared->Prop} {s:Shared}
theorem cat_tup {t b:Addr}{vs ws:List Value}{Q:Value->Shared->Prop}(ht:IsTup s.heap t vs.toArray)(hb:IsTup s.heap b ws.toArray)(hv:vs≠[])(h1:ws=[]->Q (.ref t) s)(h2:ws≠[]->Q (.ref s.heap.objs.size) { s with heap:=s.heap.push { cls:=.type "tuple",data:=.seq (vs++ws).toArray } })(hsz:vs.length+ws.length<=sizeLine):wpAny (model prog w) A (binaryOp .Add (.ref t) (.ref b)) Q E s:=by
 obtain⟨⟨cls,dd,data,sl⟩,ho,hc,n,hd⟩:=id ht;obtain⟨⟨cls2,dd2,data2,sl2⟩,ho2,hc2,n2,hd2⟩:=id hb;simp only at hc hd hc2 hd2;subst hc hd hc2 hd2;have e:vs.toArray++ws.toArray=(vs++ws).toArray:=by simp
 by_cases hw:ws=[]
 ·exact concat_meets ⟨_,ho,rfl⟩ ⟨_,ho2,rfl⟩ noFill_tuple_add seq_tuple_add PySem.F.slot_tuple_add PySem.F.entry_tuple_add (PySem.F.args_tuple_add_2 _ _)
   (tuple_addW1 t b vs.toArray ws.toArray n n2 dd dd2 sl sl2 (by simpa using hv) (by simp[hw])) ⟨ho,ho2,h1 hw⟩
 ·refine concat_meets ⟨_,ho,rfl⟩ ⟨_,ho2,rfl⟩ noFill_tuple_add seq_tuple_add PySem.F.slot_tuple_add PySem.F.entry_tuple_add (PySem.F.args_tuple_add_2 _ _)
   (tuple_addW2 t b vs.toArray ws.toArray n n2 dd dd2 sl sl2 (by simpa using hv) (by simpa using hw) (by rw[List.size_toArray,List.size_toArray];exact hsz)) ⟨ho,ho2,?_⟩
  rw[e];exact h2 hw
def sIx (n d:Nat):Option Int->Nat
 |none=>d
 |some v=>if v < 0 then (v+(n:Int)).toNat else min v.toNat n
theorem Eb (n d:Nat)(hd:d<=n)(o:Option Int):sIx n d o<=n:=by
 cases o with
 |none=>exact hd
 |some v=>
  show (if v < 0 then (v+(n:Int)).toNat else min v.toNat n)<=n
  by_cases hv:v < 0
  ·rw[if_pos hv];omega
  ·rw[if_neg hv];exact Nat.min_le_right _ _
theorem tQ (v:Int)(n d:Nat):(if v < 0 then max (v+(n:Int)) 0 else min v (n:Int))=((sIx n d (some v):Nat):Int):=by
 show (if v < 0 then max (v+(n:Int)) 0 else min v (n:Int))=(((if v < 0 then (v+(n:Int)).toNat else min v.toNat n):Nat):Int)
 by_cases hv:v < 0
 ·simp only[if_pos hv];omega
 ·simp only[if_neg hv];omega
theorem tI (lo hi:Option Int)(n:Nat):Builtin.Slice.sliceAdjust lo hi 1 (n:Int)=(((sIx n 0 lo:Nat):Int),((sIx n n hi:Nat):Int)):=by
 have h1:¬((1:Int) < 0):=by omega
 unfold Builtin.Slice.sliceAdjust;simp only[h1,if_false];refine Prod.ext ?_ ?_
 ·cases lo with
  |none=>rfl
  |some v=>exact tQ v n 0
 ·cases hi with
  |none=>rfl
  |some v=>exact tQ v n n
theorem sM (i j:Nat):Builtin.Slice.slicePlaces (i:Int) (j:Int) 1=j - i:=by
 unfold Builtin.Slice.slicePlaces;have h1:(1:Int) > 0:=by omega
 simp only[h1,if_true,Int.ediv_one];split<;>omega
theorem mM {v:Value}{o:Option Int}{Q:Option Int->Shared->Prop}(p:IsPart v o)(h:Q o s):wpAny (model prog w) A (Builtin.Slice.slicePartIndex v) Q E s:=by
 cases p with
 |none=>exact slicePart_none h
 |int i t=>exact slicePart_int h
theorem jO {sl:Addr}{vl vu:Value}{lo hi:Option Int}{n:Nat}{Q:Int × Int × Nat->Shared->Prop}(hs:s.heap.IsSliceOf sl vl vu .none)(pl:IsPart vl lo)(pu:IsPart vu hi)(h:Q (((sIx n 0 lo:Nat):Int),1,sIx n n hi - sIx n 0 lo) s):wpAny (model prog w) A (Builtin.Slice.sliceApplied (.ref sl) (pure (n:Int))) Q E s:=by
 obtain⟨os,hos,hcs,hds⟩:=id hs;unfold Builtin.Slice.sliceApplied Builtin.Slice.sliceFields;refine wpAny_bind (wpAny_bind (wpAny_field hos hds (x:=vl) rfl (wpAny_bind (wpAny_field hos hds (x:=vu) rfl (wpAny_bind (wpAny_field hos hds (x:=.none) rfl (wpAny_pure ?_)))))));refine wpAny_bind (slicePart_none ?_);show wpAny _ _ (if ((1:Int) == 0)=true then _ else _) _ _ s;rw[if_neg (by decide)];refine wpAny_bind (mM pl (wpAny_bind (mM pu (wpAny_bind (wpAny_pure ?_)))));show wpAny _ _ (match Builtin.Slice.sliceAdjust lo hi 1 (n:Int) with | (lo,hi)=>pure (lo,(1:Int),Builtin.Slice.slicePlaces lo hi 1)) _ _ s;rw[tI lo hi n];show wpAny _ _ (pure (((sIx n 0 lo:Nat):Int),(1:Int),Builtin.Slice.slicePlaces ((sIx n 0 lo:Nat):Int) ((sIx n n hi:Nat):Int) 1)) _ _ s;rw[sM];exact wpAny_pure h
theorem xY (xs:Array Value)(i k:Nat):((List.range k).filterMap fun (m:Nat)=>xs[((i:Int)+(m:Int)*1).toNat]?).toArray=((xs.toList.drop i).take k).toArray:=by
 have e:(fun (m:Nat)=>xs[((i:Int)+(m:Int)*1).toNat]?)=fun m=>xs[i+m]?:=by
  funext m
  have:((i:Int)+(m:Int)*1).toNat=i+m:=by omega
  rw[this]
 rw[e];have:=pick_run xs i k;rw[List.filterMap_map] at this;have e2:((fun x=>xs[x]?) ∘ fun x=>i+x)=fun m=>xs[i+m]?:=rfl;rw[e2] at this;rw[this]
theorem getItem_tuple_cut {t sl:Addr}{items:Array Value}{vl vu:Value}{lo hi:Option Int}{Q:Value->Shared->Prop}(ht:IsTup s.heap t items)(hs:s.heap.IsSliceOf sl vl vu .none)(pl:IsPart vl lo)(pu:IsPart vu hi)(hw:¬(sIx items.size 0 lo=0/\sIx items.size items.size hi=items.size))(h:Q (.ref s.heap.objs.size) { s with heap:=s.heap.push { cls:=.type "tuple",data:=.seq ((items.toList.drop (sIx items.size 0 lo)).take (sIx items.size items.size hi - sIx items.size 0 lo)).toArray } })(hsz:items.size<=sizeLine):wpAny (model prog w) A (getItem (.ref t) (.ref sl)) Q E s:=by
 have htake:sizeOk (.seq ((items.toList.drop (sIx items.size 0 lo)).take (sIx items.size items.size hi - sIx items.size 0 lo)).toArray):=by
  show ((items.toList.drop (sIx items.size 0 lo)).take (sIx items.size items.size hi - sIx items.size 0 lo)).toArray.size<=sizeLine;rw[List.size_toArray,List.length_take,List.length_drop,Array.length_toList];omega
 have hj:sIx items.size items.size hi<=items.size:=Eb _ _ (Nat.le_refl _) hi;obtain⟨os,hos,hcs,hds⟩:=id hs;have hTs:s.TypeIs (.ref sl) "slice":=⟨os,hos,hcs⟩
 unfold getItem
 try with_reducible refine wpAny_holding ?_
 first | refine wpAny_bind (wpAny_pure ?_) | skip
 refine wpAny_bind (wpAny_sequenceKey ht.typeIs (by decide) ?_);refine wpAny_bind (wpAny_callSpecial?_slot (name:=Str.ofString "__getitem__") ht.typeIs PyProof.Rows.slot_tuple_getitem
  (wpAny_call_entry PyProof.Rows.slot_tuple_getitem ht.typeIs entry_tuple_getitem ?_ (args_tuple_getitem _ _)))
 show wpAny _ _ (Builtin.Tuple.tupleItemsOf (.ref t) >>= _) _ _ s;refine wpAny_bind (tupleItemsOf_ ht ?_);refine wpAny_bind (wpAny_typeOf hTs ?_);rw[if_pos (by decide)];refine wpAny_bind (jO hs pl pu ?_);have hno:¬((((sIx items.size 0 lo:Nat):Int) == 0 && (1:Int) == 1 && (sIx items.size items.size hi - sIx items.size 0 lo) == items.size)=true):=by
  intro q;rw[Bool.and_eq_true,Bool.and_eq_true] at q;have q1:((sIx items.size 0 lo:Nat):Int)=0:=eq_of_beq q.1.1;have q2:sIx items.size items.size hi - sIx items.size 0 lo=items.size:=eq_of_beq q.2;exact hw ⟨by omega,by omega⟩
 show wpAny _ _ (if (((sIx items.size 0 lo:Nat):Int) == 0 && (1:Int) == 1 && (sIx items.size items.size hi - sIx items.size 0 lo) == items.size)=true then _ else _) _ _ s;rw[if_neg hno,xY]
 first
  |exact wpAny_bind (m:=Builtin.Tuple.tupleExact _) (wpAny_newObj_type (wpAny_pure ⟨_,rfl,wpAny_pure h⟩) htake)
  |exact wpAny_bind (m:=Builtin.Tuple.tupleExact _) (wpAny_newObj_type (wpAny_bind (wpAny_pure (wpAny_pure ⟨_,rfl,wpAny_pure h⟩))) htake)
  |exact wpAny_bind (wpAny_bind (m:=Builtin.Tuple.tupleExact _) (wpAny_newObj_type (wpAny_pure (wpAny_pure ⟨_,rfl,wpAny_pure h⟩)) htake))
  |exact wpAny_bind (wpAny_bind (m:=Builtin.Tuple.tupleExact _) (wpAny_newObj_type (wpAny_pure ⟨_,rfl,wpAny_pure h⟩) htake))
end
end HT
namespace L2
open PySem PySem.Spec PyProof.Rows
abbrev TO:=St->Hp->(Option Int->Hp->Prop)->Prop
def PO (X:Cx)(e:Option Expr)(t:TO):Prop:=
 ∀(pins:List (Addr × Obj)) (s:Shared) (σ:St) (H:Hp) (Q:Option Int->Hp->Prop),Inv X pins σ H s->t σ H Q->
  wpAny (model X.prog X.w) X.A (evalPart e X.env) (fun u s'=>∃o H',Inv X pins σ H' s'/\IsPart u o/\Q o H') X.xe s
def Bw:TO:=fun _ H Q=>Q none H
def Gz (t:TE):TO:=fun σ H Q=>t σ H fun x H1=>∃i,x=.int i/\Q (some i) H1
section
variable {X:Cx} {e:Expr} {te:TE} {lo hi:Option Expr} {tl th:TO} {pos p2:Pos}
theorem As:PO X none Bw:=by
 intro pins s σ H Q I h;rw[evalPart_none];exact wpAny_pure ⟨none,H,I,.none,h⟩
theorem fO (h:PE X e te):PO X (some e) (Gz te):=by
 intro pins s σ H Q I hw;rw[evalPart_some];refine thn (h pins s σ H _ I hw) fun u s1 ⟨x,H1,I1,r1,q1⟩=>?_;obtain⟨i,rfl,q⟩:=q1;obtain⟨t,rfl⟩:=r1;exact⟨some i,H1,I1,.int i t,q⟩
def SlR (X:Cx)(r:V->Option Int->Option Int->Hp->VK->Prop):Prop:=
 ∀(pins:List (Addr × Obj)) (s:Shared) (σ:St) (H:Hp) (x:V) (v vl vu:Value) (lo hi:Option Int) (sl:Addr) (Q:VK),Inv X pins σ H s->bK x v->s.heap.IsSliceOf sl vl vu .none->IsPart vl lo->IsPart vu hi->r x lo hi H Q->
  ∃T id,typeLookup (.type T) "__getitem__"=pure (some (.builtin id))/\s.TypeIs v T/\wpAny (model X.prog X.w) X.A (getItem v (.ref sl)) (EP X pins σ Q) X.xe s
def tSl (r:V->Option Int->Option Int->Hp->VK->Prop)(te:TE)(tl th:TO):TE:=fun σ H Q=>te σ H fun x H1=>tl σ H1 fun l H2=>th σ H2 fun u H3=>r x l u H3 Q
theorem jF {r:V->Option Int->Option Int->Hp->VK->Prop}(hr:SlR X r)(he:PE X e te)(hl:PO X lo tl)(hu:PO X hi th):PE X (.Subscript e (.Slice lo hi none p2) pos) (tSl r te tl th):=by
 intro pins s σ H Q I h;refine Subscript_ (thn (he pins s σ H _ I h) fun v s1 ⟨x,H1,I1,r1,q1⟩=>?_);refine wpAny_Slice (thn (hl pins s1 σ H1 _ I1 q1) fun vl s2 ⟨l,H2,I2,pl,q2⟩=>thn (hu pins s2 σ H2 _ I2 q2) fun vu s3 ⟨u,H3,I3,pu,q3⟩=>?_);rw[evalPart_none];refine wpAny_pure ?_;have I4:Inv X pins σ H3 { s3 with heap:=s3.heap.push { cls:=.type "slice",data:=.fields #[vl,vu,.none] } }:=I3.kept (t':=s3.toks) fun b ob q=>Heap.get?_push_of_some _ q;obtain⟨T,id,hT,ht,hg⟩:=hr pins { s3 with heap:=s3.heap.push { cls:=.type "slice",data:=.fields #[vl,vu,.none] } } σ H3 x v vl vu l u s3.heap.objs.size Q I4 r1 (Heap.IsSliceOf.new ..) pl pu q3;show wpAny (model X.prog X.w) X.A (subscriptTail e (.Slice lo hi none p2) v (.ref s3.heap.objs.size)) (EP X pins σ Q) X.xe { s3 with heap:=s3.heap.push { cls:=.type "slice",data:=.fields #[vl,vu,.none] } };exact tail_any (ops:=[.ref s3.heap.objs.size,v]) ht hT hg (by with_unfolding_all rfl)
def iF (xs:List V)(lo hi:Option Int):List V:=(xs.drop (HT.sIx xs.length 0 lo)).take (HT.sIx xs.length xs.length hi - HT.sIx xs.length 0 lo)
theorem kO (xs:List V)(lo hi:Option Int):(iF xs lo hi).length<=xs.length:=by
 unfold iF;exact Nat.le_trans (List.length_take_le' _ _) (by rw[List.length_drop];exact Nat.sub_le _ _)
def Im (K:PySem.W.Frag):V->Option Int->Option Int->Hp->VK->Prop:=fun x lo hi H Q=>∃a xs,x=.ref a/\SqT K H a xs/\
 ¬(HT.sIx xs.length 0 lo=0/\HT.sIx xs.length xs.length hi=xs.length)/\∀p,H p=none->Q (.ref p) (upd H p (.tup (iF xs lo hi)))
theorem Eu:SlR X (Im X.K):=by
 intro pins s σ H x v vl vu lo hi sl Q I rx hs pl pu h;obtain⟨a,xs,rfl,hx,hw,q⟩:=h
 cases rx
 obtain⟨its,r,ht,hz⟩:=I.tuple hx;have hlen:its.toArray.size=xs.length:=by rw[List.size_toArray];exact r.length.symm
 refine⟨"tuple",_,PyProof.Rows.slot_tuple_getitem.lookup,ht.typeIs,?_⟩;refine HT.getItem_tuple_cut ht hs pl pu (by rw[hlen];exact hw) ?_ (by rw[hlen];exact hz);rw[hlen];refine⟨.ref s.heap.objs.size,_,I.laid (t':=s.toks) (o:=.tup (iF xs lo hi)) (fun b ob q=>Heap.get?_push_of_some _ q) (Nat.le_refl _) ?_,rfl,q _ (I.hok.fresh (Nat.le_refl _))⟩;exact⟨Nat.le_trans (kO xs lo hi) hz,_,(r.drop (HT.sIx xs.length 0 lo)).take (HT.sIx xs.length xs.length hi - HT.sIx xs.length 0 lo),IsTup.new _ _⟩
def Fm (K:PySem.W.Frag):R2:=fun x y H Q=>∃a b xs ys,x=.ref a/\y=.ref b/\SqT K H a xs/\SqT K H b ys/\xs≠[]/\xs.length+ys.length<=sizeLine/\
 (ys=[]->Q (.ref a) H)/\(ys≠[]->∀p,H p=none->Q (.ref p) (upd H p (.tup (xs++ys))))
theorem bL.nil_iff {xs:List V}{us:List Value}(r:bL xs us):us=[]↔xs=[]:=by
 cases r with
 |nil=>simp
 |cons _ _=>simp
theorem Ap:OpR X (binaryOp .Add) (Fm X.K):=by
 intro pins s σ H x y v u Q I rx ry h;obtain⟨a,b,xs,ys,rfl,rfl,ha,hb,hx,hz,q1,q2⟩:=h
 cases rx
 cases ry
 obtain⟨its,r1,p1,_⟩:=I.tuple ha;obtain⟨its2,r2,p2,_⟩:=I.tuple hb;refine HT.cat_tup p1 p2 (fun z=>hx (r1.nil_iff.mp z)) (fun z=>⟨.ref a,H,I,rfl,q1 (r2.nil_iff.mp z)⟩) (fun z=>?_) (by rw[<- r1.length,<- r2.length];exact hz);refine⟨.ref s.heap.objs.size,_,I.laid (t':=s.toks) (o:=.tup (xs++ys)) (fun b ob q=>Heap.get?_push_of_some _ q) (Nat.le_refl _) ?_,rfl,q2 (fun w=>z (r2.nil_iff.mpr w)) _ (I.hok.fresh (Nat.le_refl _))⟩;exact⟨by rw[List.length_append];exact hz,_,r1.append r2,IsTup.new _ _⟩
end
def ixN (n:Nat)(i:Int):Option Nat:=if 0<=i then (if i < n then some i.toNat else none) else if -(n:Int)<=i then some (i+n).toNat else none
def atI {α:Type}(xs:List α)(i:Int):Option α:=(ixN xs.length i).bind fun j=>xs[j]?
theorem uR {n:Nat}{i:Int}{j:Nat}(h:ixN n i=some j):seqIndex? i n=some j/\j < n/\-(n:Int)<=i/\i < n:=by
 unfold ixN at h
 by_cases h0:0<=i
 ·rw[if_pos h0] at h
  by_cases h1:i < n
  ·rw[if_pos h1] at h;have e:i.toNat=j:=Option.some.inj h;exact⟨by rw[seqIndex_of h0 h1,e],by omega,by omega,h1⟩
  ·rw[if_neg h1] at h;cases h
 ·rw[if_neg h0] at h
  by_cases h1:-(n:Int)<=i
  ·rw[if_pos h1] at h;have e:(i+n).toNat=j:=Option.some.inj h;exact⟨by rw[seqIndex_neg (by omega) h1,e],by omega,h1,by omega⟩
  ·rw[if_neg h1] at h;cases h
theorem tP {α:Type}{xs:List α}{i:Int}{v:α}(h:atI xs i=some v):∃j,seqIndex? i xs.length=some j/\xs[j]?=some v/\j < xs.length/\-(xs.length:Int)<=i/\i < xs.length:=by
 unfold atI at h
 cases e:ixN xs.length i with
 |none=>rw[e] at h;cases h
 |some j=>
  rw[e] at h;obtain⟨h1,h2,h3,h4⟩:=uR e;exact⟨j,h1,h,h2,h3,h4⟩
theorem bO {α:Type}{xs:List α}{j:Nat}{v:α}(h:xs[j]?=some v):atI xs (j:Int)=some v:=by
 have hj:j < xs.length:=(List.getElem?_eq_some_iff.mp h).1;have e:ixN xs.length (j:Int)=some j:=by
  unfold ixN;rw[if_pos (by omega),if_pos (by omega)];simp
 unfold atI;rw[e];exact h
theorem qY {α:Type}(xs:List α)(v:α):atI (xs++[v]) (-1)=some v:=by
 have hl:(xs++[v]).length=xs.length+1:=by simp
 have e:ixN (xs++[v]).length (-1)=some xs.length:=by
  unfold ixN;rw[hl,if_neg (by decide),if_pos (by omega)];congr 1;omega
 unfold atI;rw[e];show (xs++[v])[xs.length]?=some v;simp
def zW (b:Expr):Prop:=∀o i,subscripted b false o i=operate [o,i] (getItem o i)
def IxR (X:Cx)(r:R2):Prop:=
 ∀(value slice:Expr) (pins:List (Addr × Obj)) (s:Shared) (σ:St) (H:Hp) (x y:V) (v u:Value) (Q:VK),Inv X pins σ H s->bK x v->bK y u->r x y H Q->
  subscripted slice false v u=operate [v,u] (getItem v u)->wpAny (model X.prog X.w) X.A (subscriptTail value slice v u) (EP X pins σ Q) X.xe s
def MtR (X:Cx)(id:String)(r:V->List V->Hp->VK->Prop):Prop:=
 ∀(pins:List (Addr × Obj)) (s:Shared) (σ:St) (H:Hp) (x:V) (xs:List V) (v:Value) (us:List Value) (Q:VK),Inv X pins σ H s->bK x v->bL xs us->r x xs H Q->
  wpAny (model X.prog X.w) X.A (call (.builtin id) (v :: us)) (EP X pins σ Q) X.xe s
section
variable {X:Cx} {a b:Expr} {ta tb:TE} {pos:Pos}
theorem aL {r:R2}(hr:IxR X r)(ha:PE X a ta)(hb:PE X b tb)(hs:zW b):PE X (.Subscript a b pos) (tOp r ta tb):=by
 intro pins s σ H Q I h;exact Subscript_ (Ey ha hb I h fun v u s2 x y H2 I2 rx ry q=>hr a b pins s2 σ H2 x y v u Q I2 rx ry q (hs _ _))
def Hh (K:PySem.W.Frag):R2:=fun x y H Q=>∃p xs i v,x=.ref p/\y=.int i/\SqL K H p xs/\atI xs i=some v/\Q v H
def Ax (K:PySem.W.Frag):R2:=fun x y H Q=>∃p xs i v,x=.ref p/\y=.int i/\SqT K H p xs/\atI xs i=some v/\Q v H
theorem bM:IxR X (Hh X.K):=by
 intro value slice pins s σ H x y v u Q I rx ry h hs;obtain⟨p,xs,i,z,rfl,rfl,hq,he,q⟩:=h
 cases rx
 obtain⟨t,rfl⟩:=ry;obtain⟨its,r,pl,hz⟩:=I.list hq;obtain⟨j,h1,h2,h3,h4,h5⟩:=tP he;obtain⟨w,ew,rw'⟩:=r.get h2;have hl:=r.length;have hn:=oW;have fin:EP X pins σ Q w s:=⟨z,H,I,rw',q⟩
 by_cases h0:0<=i
 ·have hj:i.toNat=j:=by
   rw[seqIndex_of h0 h5] at h1;exact Option.some.inj h1
  exact item_listR pl.isList h0 (by omega) (by rw[hj];simpa using ew) fin hs
 ·have hj:(i+(its.toArray.size:Int)).toNat=j:=by
   rw[seqIndex_neg (by omega) h4] at h1;rw[List.size_toArray,<- hl];exact Option.some.inj h1
  exact subscriptTail_builtinR (x:=w) pl.isList.typeIs slot_list_getitem.lookup
   (wpAny_getItem_list_neg (Q:=fun r s'=>r=w/\EP X pins σ Q r s') pl.isList (by omega) (by rw[List.size_toArray]<;>omega) (by omega) (by rw[hj];simpa using ew) ⟨rfl,fin⟩) hs
theorem aM:IxR X (Ax X.K):=by
 intro value slice pins s σ H x y v u Q I rx ry h hs;obtain⟨p,xs,i,z,rfl,rfl,hq,he,q⟩:=h
 cases rx
 obtain⟨t,rfl⟩:=ry;obtain⟨its,r,pl,hz⟩:=I.tuple hq;obtain⟨j,h1,h2,h3,h4,h5⟩:=tP he;obtain⟨w,ew,rw'⟩:=r.get h2;have hl:=r.length;have hn:=oW;have fin:EP X pins σ Q w s:=⟨z,H,I,rw',q⟩
 exact subscriptTail_builtinR (x:=w) pl.typeIs slot_tuple_getitem.lookup
  (getItem_tuple (j:=j) (Q:=fun r s'=>r=w/\EP X pins σ Q r s') pl (by omega) (by omega) (by rw[List.size_toArray,<- hl];exact h1) (by simpa using ew) ⟨rfl,fin⟩) hs
theorem rP (its:List Value)(n j:Nat)(u:Value):Obj.mapSeq (·.setIfInBounds j u) { cls:=.type "list",data:=.seq its.toArray n }={ cls:=.type "list",data:=.seq (its.set j u).toArray n }:=by
 simp[Obj.mapSeq]
theorem Inv.lst {pins:List (Addr × Obj)}{σ:St}{H:Hp}{s:Shared}{p:Addr}{xs:List V}(I:Inv X pins σ H s)(h:H p=some (.lst xs)) :
  ∃(its:List Value) (n:Nat),bL xs its/\s.heap.get? p=some { cls:=.type "list",data:=.seq its.toArray n }/\xs.length<=sizeLine:=by
 obtain⟨z,its,n,r,e⟩:=I.hok p _ h;exact⟨its,n,r,e,z⟩
theorem Inv.lstUpd {pins:List (Addr × Obj)}{σ:St}{H:Hp}{s:Shared}{p:Addr}{xs ys:List V}{its its':List Value}{n n':Nat}{f:Obj->Obj}(I:Inv X pins σ H s)(h:H p=some (.lst xs))(ho:s.heap.get? p=some { cls:=.type "list",data:=.seq its.toArray n })(hf:f { cls:=.type "list",data:=.seq its.toArray n }={ cls:=.type "list",data:=.seq its'.toArray n' })(r:bL ys its')(hz:ys.length<=sizeLine)(t:Nat) :
  Inv X pins σ (upd H p (.lst ys)) { s with heap:=s.heap.update p f,toks:=t }:=by
 have e:(s.heap.update p f).get? p=some { cls:=.type "list",data:=.seq its'.toArray n' }:=by
  rw[Heap.get?_update_self f ho (by rw[hf]<;>rfl),hf]
 refine I.write (x:=p) (e:=p) (by rw[h];trivial) (.inl rfl) (fun b u hb q=>(Heap.get?_update_other _ _ (Ne.symm hb)).trans q) ⟨_,e⟩ ?_;exact⟨hz,its',n',r,e⟩
def Gy:V->V->V->Hp->(Hp->Prop)->Prop:=fun o i v H Q=>∃p xs k j,o=.ref p/\i=.int k/\H p=some (.lst xs)/\ixN xs.length k=some j/\Q (upd H p (.lst (xs.set j v)))
theorem rA:Gv X Gy:=by
 intro pins s σ H o i v ov iv u Q I ro ri rv h;obtain⟨p,xs,k,j,rfl,rfl,hp,hj,q⟩:=h
 cases ro
 obtain⟨t,rfl⟩:=ri;obtain⟨its,n,r,ho,hz⟩:=I.lst hp;obtain⟨h1,h2,h3,h4⟩:=uR hj;have hl:=r.length;have hn:=oW;have I':Inv X pins σ (upd H p (.lst (xs.set j v))) { s with heap:=s.heap.update p (Obj.mapSeq (·.setIfInBounds j u)) }:=
  I.lstUpd hp ho (rP its n j u) (r.set rv j) (by rw[List.length_set];exact hz) s.toks
 by_cases h0:0<=k
 ·have hk:k.toNat=j:=by
   rw[seqIndex_of h0 h4] at h1;exact Option.some.inj h1
  exact PySem.W.ki_setAt ho h0 (by omega) (by rw[List.size_toArray,<- hl];exact h4) (by rw[hk];exact⟨_,I',q⟩)
 ·have hk:(k+(its.toArray.size:Int)).toNat=j:=by
   rw[seqIndex_neg (by omega) h3] at h1;rw[List.size_toArray,<- hl];exact Option.some.inj h1
  exact PySem.W.ki_setBack ho (by omega) (by rw[List.size_toArray,<- hl];exact h3) (by omega) (by rw[hk];exact⟨_,I',q⟩)
theorem sbA (lo hi:Option Int)(n:Nat):(sliceBounds lo hi none n).1=((HT.sIx n 0 lo:Nat):Int):=by
 cases lo with
 |none=>simp[sliceBounds,HT.sIx]
 |some i=>
  simp only[sliceBounds,HT.sIx,Option.getD_none,show (1:Int) > 0 by decide,if_true]
  by_cases h:i < 0
  ·simp only[h,if_true]<;>omega
  ·simp only[h,if_false]<;>omega
theorem pW (lo hi:Option Int)(n:Nat):(sliceBounds lo hi none n).1=((HT.sIx n 0 lo:Nat):Int)/\(sliceBounds lo hi none n).2.1=((HT.sIx n n hi:Nat):Int)/\(sliceBounds lo hi none n).2.2=1:=by
 refine⟨sbA lo hi n,?_,rfl⟩
 cases hi with
 |none=>simp[sliceBounds,HT.sIx]
 |some i=>exact sbA (some i) lo n
theorem mV (its:List Value)(lo hi:Option Int):slicePick its.toArray lo hi none=((its.drop (HT.sIx its.length 0 lo)).take (HT.sIx its.length its.length hi - HT.sIx its.length 0 lo)).toArray:=by
 obtain⟨h1,h2,h3⟩:=pW lo hi its.toArray.size;unfold slicePick;rw[h1,h2,h3];simp only[sliceRange_one,pick_run,List.size_toArray]<;>rfl
def Id (K:PySem.W.Frag):V->Option Int->Option Int->Hp->VK->Prop:=fun x lo hi H Q=>∃a xs,x=.ref a/\SqL K H a xs/\∀p,H p=none->Q (.ref p) (upd H p (.lst (iF xs lo hi)))
theorem pD:SlR X (Id X.K):=by
 intro pins s σ H x v vl vu lo hi sl Q I rx hs pl pu h;obtain⟨a,xs,rfl,hx,q⟩:=h
 cases rx
 obtain⟨its,r,ht,hz⟩:=I.list hx;have hlen:=r.length;refine⟨"list",_,slot_list_getitem.lookup,ht.isList.typeIs,?_⟩;refine wpAny_getItem_list_slice ht.isList hs pl pu .none (by simp) ?_ (by rw[List.size_toArray]<;>omega);rw[mV,<- hlen];refine⟨.ref s.heap.objs.size,_,I.laid (t':=s.toks) (o:=.lst (iF xs lo hi)) (fun b ob q=>Heap.get?_push_of_some _ q) (Nat.le_refl _) ?_,rfl,q _ (I.hok.fresh (Nat.le_refl _))⟩;exact⟨Nat.le_trans (kO xs lo hi) hz,_,0,(r.drop (HT.sIx xs.length 0 lo)).take (HT.sIx xs.length xs.length hi - HT.sIx xs.length 0 lo),Heap.get?_push_size _ rfl⟩
def iM:V->Bool
 | .non=>true
 | .bl _=>true
 | .int _=>true
 | .str _=>true
 |_=>false
def eqV:V->V->Bool
 | .non,.non=>true
 | .bl a,.bl b=>a == b
 | .bl a,.int b=>(if a then 1 else 0) == b
 | .int a,.bl b=>a == (if b then 1 else 0)
 | .int a,.int b=>a == b
 | .str a,.str b=>a == b
 |_,_=>false
theorem Eh {A:Around}{s:Shared}{y x:V}{u v:Value}(ry:bK y u)(rx:bK x v)(fy:iM y=true)(fx:iM x=true):SeqAt.EqAt A s u v (eqV y x):=by
 cases y with
 |non=>
  cases ry
  cases x with
  |non=>cases rx;exact SeqAt.EqAt.same _
  |bl b=>cases rx;exact SeqAt.EqAt.none_bool b
  |int b=>obtain⟨t,rfl⟩:=rx;exact SeqAt.EqAt.none_int b t
  |str b=>obtain⟨t,rfl⟩:=rx;exact SeqAt.EqAt.none_str b t
  |_=>exact absurd (show false=true from fx) Bool.false_ne_true
 |bl a=>
  cases ry
  cases x with
  |non=>cases rx;exact SeqAt.EqAt.bool_none a
  |bl b=>cases rx;exact SeqAt.EqAt.bool_bool a b
  |int b=>obtain⟨t,rfl⟩:=rx;exact SeqAt.EqAt.bool_int a b t
  |str b=>obtain⟨t,rfl⟩:=rx;exact SeqAt.EqAt.bool_str a b t
  |_=>exact absurd (show false=true from fx) Bool.false_ne_true
 |int a=>
  obtain⟨t',rfl⟩:=ry
  cases x with
  |non=>cases rx;exact SeqAt.EqAt.int_none a t'
  |bl b=>cases rx;exact SeqAt.EqAt.int_bool a t' b
  |int b=>obtain⟨t,rfl⟩:=rx;exact SeqAt.EqAt.int_int a t' b t
  |str b=>obtain⟨t,rfl⟩:=rx;exact SeqAt.EqAt.int_str a t' b t
  |_=>exact absurd (show false=true from fx) Bool.false_ne_true
 |str a=>
  obtain⟨t',rfl⟩:=ry
  cases x with
  |non=>cases rx;exact SeqAt.EqAt.str_none a t'
  |bl b=>cases rx;exact SeqAt.EqAt.str_bool a t' b
  |int b=>obtain⟨t,rfl⟩:=rx;exact SeqAt.EqAt.str_int a t' b t
  |str b=>obtain⟨t,rfl⟩:=rx;exact SeqAt.EqAt.str_str a t' b t
  |_=>exact absurd (show false=true from fx) Bool.false_ne_true
 |_=>exact absurd (show false=true from fy) Bool.false_ne_true
def eqU (x:V)(u:Value):Bool:=match u with
 | .none=>eqV .non x
 | .bool b=>eqV (.bl b) x
 | .int i _=>eqV (.int i) x
 | .str z _=>eqV (.str z) x
 |_=>false
theorem yF {x y:V}{u:Value}(r:bK y u)(f:iM y=true):eqU x u=eqV y x:=by
 cases y with
 |non=>cases r;rfl
 |bl b=>cases r;rfl
 |int i=>obtain⟨t,rfl⟩:=r;rfl
 |str z=>obtain⟨t,rfl⟩:=r;rfl
 |_=>exact absurd (show false=true from f) Bool.false_ne_true
theorem iW {x:V}:∀{xs:List V} {us:List Value},bL xs us->xs.all iM=true->us.any (eqU x)=xs.any fun y=>eqV y x
 |_,_,.nil,_=>rfl
 |y :: xs,u :: us,.cons r t,f=>by
  rw[List.all_cons,Bool.and_eq_true] at f;rw[List.any_cons,List.any_cons,yF r f.1,iW t f.2]
theorem gD {A:Around}{s:Shared}{x:V}{v:Value}(rx:bK x v)(fx:iM x=true):∀{xs:List V} {us:List Value},bL xs us->xs.all iM=true->∀u∈us,SeqAt.EqAt A s u v (eqU x u)
 |_,_,.nil,_=>fun u hu=>by cases hu
 |y :: xs,u :: us,.cons r t,f=>fun u' hu=>by
  rw[List.all_cons,Bool.and_eq_true] at f;rcases List.mem_cons.mp hu with rfl | hu
  ·rw[yF r f.1];exact Eh r rx f.1 fx
  ·exact gD rx fx t f.2 u' hu
def inV (x:V)(xs:List V):Bool:=xs.any fun y=>eqV y x
def rIn (K:PySem.W.Frag)(neg:Bool):R2:=fun x y H Q=>∃p xs,y=.ref p/\(SqL K H p xs\/SqT K H p xs)/\iM x=true/\xs.all iM=true/\Q (.bl (if neg then !inV x xs else inV x xs)) H
theorem vI:OpR X (compareOp .In) (rIn X.K false):=by
 intro pins s σ H x y v u Q I rx ry h;obtain⟨p,xs,rfl,hq,fx,fs,q⟩:=h
 cases ry
 rcases hq with hq | hq
 ·obtain⟨its,r,pl,hz⟩:=I.list hq;refine SeqAt.in_listAt (eqU x) pl.isList (fun w hw=>gD rx fx r fs w (by simpa using hw)) ⟨.bl _,H,I,rfl,?_⟩;rw[show its.toArray.any (eqU x)=its.any (eqU x) by simp,iW r fs];exact q
 ·obtain⟨its,r,pl,hz⟩:=I.tuple hq;refine SeqAt.in_tupleAt (eqU x) pl (fun w hw=>gD rx fx r fs w (by simpa using hw)) ⟨.bl _,H,I,rfl,?_⟩;rw[show its.toArray.any (eqU x)=its.any (eqU x) by simp,iW r fs];exact q
theorem pH:OpR X (compareOp .NotIn) (rIn X.K true):=by
 intro pins s σ H x y v u Q I rx ry h;obtain⟨p,xs,rfl,hq,fx,fs,q⟩:=h
 cases ry
 rcases hq with hq | hq
 ·obtain⟨its,r,pl,hz⟩:=I.list hq;refine SeqAt.notIn_listAt (eqU x) pl.isList (fun w hw=>gD rx fx r fs w (by simpa using hw)) ⟨.bl _,H,I,rfl,?_⟩;rw[show its.toArray.any (eqU x)=its.any (eqU x) by simp,iW r fs];exact q
 ·obtain⟨its,r,pl,hz⟩:=I.tuple hq;refine SeqAt.notIn_tupleAt (eqU x) pl (fun w hw=>gD rx fx r fs w (by simpa using hw)) ⟨.bl _,H,I,rfl,?_⟩;rw[show its.toArray.any (eqU x)=its.any (eqU x) by simp,iW r fs];exact q
theorem bP:iT X (.builtin "len") (fun xs H Q=>∃p ys,xs=[.ref p]/\(SqL X.K H p ys\/SqT X.K H p ys)/\Q (.int ys.length) H):=by
 intro pins s σ H xs us Q I r h;obtain⟨p,ys,rfl,hq,q⟩:=h;obtain⟨u,rfl,rx⟩:=oQ r
 cases rx
 have hn:=oW;rcases hq with hq | hq
 ·obtain⟨its,r',pl,hz⟩:=I.list hq;have hlen:=r'.length;exact Calls.call_len_list pl.isList (by simp only[List.size_toArray]<;>omega) ⟨.int ys.length,H,I.tok _,⟨s.toks+1,by rw[List.size_toArray,hlen]⟩,q⟩
 ·obtain⟨its,r',pl,hz⟩:=I.tuple hq;have hlen:=r'.length;exact len_tuple pl (by simp only[List.size_toArray]<;>omega) ⟨.int ys.length,H,I.tok _,⟨s.toks+1,by rw[List.size_toArray,hlen]⟩,q⟩
theorem iO:iT X (.type "list") (fun xs H Q=>∃p ys,xs=[.ref p]/\(SqL X.K H p ys\/SqT X.K H p ys)/\∀l,H l=none->Q (.ref l) (upd H l (.lst ys))):=by
 intro pins s σ H xs us Q I r h;obtain⟨p,ys,rfl,hq,q⟩:=h;obtain⟨u,rfl,rx⟩:=oQ r
 cases rx
 have fin:∀(its:List Value),bL ys its->ys.length<=sizeLine->∀(h':Heap) (c':Nat),(∀b o',s.heap.get? b=some o'->h'.get? b=some o')->
   h'.get? s.heap.objs.size=some { cls:=.type "list",dict:=none,data:=.seq its.toArray c',slots:=#[] }->EP X pins σ Q (.ref s.heap.objs.size) { s with heap:=h' }:=fun its r' hz h' c' kp e=>
  ⟨.ref s.heap.objs.size,_,I.laid (t':=s.toks) kp (Nat.le_refl _) (show cB X.prog X.w _ h' _ (.lst ys) from ⟨hz,its,c',r',e⟩),rfl,q _ (I.hok.fresh (Nat.le_refl _))⟩
 rcases hq with hq | hq
 ·obtain⟨its,r',pl,hz⟩:=I.list hq;have hlen:=r'.length;obtain⟨o,ho,hc,n,hd⟩:=pl.isList;exact call_list_seq p (.inl rfl) ho hc hd (fun h' c' kp e=>fin its r' hz h' c' kp e) (by simp only[List.size_toArray]<;>omega)
 ·obtain⟨its,r',pl,hz⟩:=I.tuple hq;have hlen:=r'.length;obtain⟨o,ho,hc,n,hd⟩:=pl;exact call_list_seq p (.inr rfl) ho hc hd (fun h' c' kp e=>fin its r' hz h' c' kp e) (by simp only[List.size_toArray]<;>omega)
def tyV (K:PySem.W.Frag)(T:String)(x:V)(H:Hp):Prop:=match x with
 | .str _=>T = "str"
 | .int _=>T = "int"
 | .ref p=>(T = "list"/\∃xs,SqL K H p xs)\/(T = "tuple"/\∃o,K.lookup p=some o/\o.cls=.type "tuple"/\o.dict=none)\/
   (T = "dict"/\((∃kvs,H p=some (.dK kvs))\/∃kvs,H p=some (.dT kvs)))\/(T = "set"/\∃S n,H p=some (.set S n))
 |_=>False
theorem Fi {pins:List (Addr × Obj)}{σ:St}{H:Hp}{s:Shared}{T:String}{x:V}{v:Value}(I:Inv X pins σ H s)(r:bK x v)(ty:tyV X.K T x H) :
  s.TypeIs v T/\∀a,v=.ref a->∃ob,s.heap.get? a=some ob/\ob.dict=none:=by
 cases x with
 |str z=>
  obtain⟨t,rfl⟩:=r
  cases (show T = "str" from ty)
  exact⟨typeIs_str s z t,fun _ e=>nomatch e⟩
 |int i=>
  obtain⟨t,rfl⟩:=r
  cases (show T = "int" from ty)
  exact⟨typeIs_int s i t,fun _ e=>nomatch e⟩
 |ref p=>
  cases r
  rcases ty with ⟨rfl,xs,hq⟩ | ⟨rfl,o,hk,hc,hd⟩ | ⟨rfl,hk⟩ | ⟨rfl,S,n,hk⟩
  ·obtain⟨its,_,pl,_⟩:=I.list hq;refine⟨pl.isList.typeIs,fun a e=>?_⟩
   cases e
   obtain⟨o,n,e,c,hd,_⟩:=pl;exact⟨o,e,hd⟩
  ·refine⟨⟨o,I.kIn p o hk,hc⟩,fun a e=>?_⟩
   cases e
   exact⟨o,I.kIn _ o hk,hd⟩
  ·have z:∃o,s.heap.get? p=some o/\o.ExactDict:=by
    rcases hk with ⟨kvs,hk⟩ | ⟨kvs,hk⟩
    ·obtain⟨_,_,_,_,o,_,_,e,ex,_⟩:=I.hok p _ hk;exact⟨o,e,ex⟩
    ·obtain⟨_,_,_,_,o,_,_,e,ex,_⟩:=I.hok p _ hk;exact⟨o,e,ex⟩
   obtain⟨o,e,ex⟩:=z;refine⟨⟨o,e,ex.1⟩,fun a e2=>?_⟩
   cases e2
   exact⟨o,e,ex.2.1⟩
  ·obtain⟨o,_,_,_,e,ex,_⟩:=I.hok p _ hk;refine⟨⟨o,e,ex.1⟩,fun a e2=>?_⟩
   cases e2
   exact⟨o,e,ex.2.1⟩
 |_=>exact False.elim ty
def tBM (K:PySem.W.Frag)(T:String)(r:V->List V->Hp->VK->Prop)(to:TE)(t:TA):TE:=fun σ H Q=>to σ H fun x H1=>tyV K T x H1/\t σ H1 fun xs H2=>r x xs H2 Q
variable {o e:Expr} {es:List Expr} {to:TE} {t:TA} {name:Str} {apos cpos:Pos} {T id:String} {r:V->List V->Hp->VK->Prop}
theorem lP (pa:PlainAttrs T)(slot:Slot T name id)(hty:typeOf (.builtin id)=pure (.type "method_descriptor"))(hm:MtR X id r)(ho:PE X o to)(ha:PA X (e :: es) t)(hbase:attributeBase o name X.env (eval o X.env)=eval o X.env:=by rfl)(hfew:((backTo cpos (starEach (e :: es) X.env)).all (fun x=>!x.1) && (backToKw cpos (keywordEach [] X.env)).all (fun x=>x.1.isSome)
   && decide ((e :: es).length+([]:List Keyword).length+(if ([]:List Keyword).isEmpty then 0 else 1) < 30))=true:=by rfl)(hline:(apos.endLine == cpos.line)=true:=by rfl)(hs:starEach (e :: es) X.env=(false,eval e X.env) :: starEach es X.env:=by rfl)(hplain:(backTo cpos (starEach es X.env)).any (·.1)=false:=by rfl) :
  PE X (.Call (.Attribute o name apos) (e :: es) [] cpos) (tBM X.K T r to t):=by
 intro pins s σ H Q I h;refine wpAny_Call_method_late hbase hfew hline rfl (thn (ho pins s σ H _ I h) fun v s1 ⟨x,H1,I1,r1,ty,q1⟩=>?_);obtain⟨h1,h2⟩:=Fi I1 r1 ty;refine⟨T,id,pa,slot,hty,h1,h2,?_⟩;have hA:=ha cpos pins s1 σ H1 _ I1 q1;rw[hs] at hA ⊢;refine Calls.callWith_builtin (by show (false || (backTo cpos (starEach es X.env)).any (·.1))=false;rw[hplain]<;>rfl) (Calls.evalArgs_plain ?_);exact thn hA fun us s2 ⟨vs,H2,I2,r2,q2⟩=>hm pins s2 σ H2 x vs v us Q I2 r1 r2 q2
end
def MtM (X:Cx)(id:String)(r:V->List V->Hp->VK->Prop):Prop:=
 ∀(pins:List (Addr × Obj)) (s:Shared) (σ:St) (H:Hp) (x:V) (xs:List V) (v:Value) (us:List Value) (Q:VK),Inv X pins σ H s->bK x v->bL xs us->r x xs H Q->
  wpAny (model X.prog X.w) X.A (call (.builtin id) (v :: us)) (EP X pins σ Q) X.xe s
theorem bL.one:∀{x:V} {us:List Value},bL [x] us->∃u,us=[u]/\bK x u
 |_,_,.cons r .nil=>⟨_,rfl,r⟩
section
variable {X:Cx} {pins:List (Addr × Obj)} {σ:St} {H:Hp} {s:Shared} {l b:Addr} {xs ys zs:List V}
theorem Inv.lset {its its':List Value}{n:Nat}{f:Array Value->Array Value}{t':Nat}(I:Inv X pins σ H s)(hH:H l=some (.lst xs))(e:s.heap.get? l=some { cls:=.type "list",data:=.seq its.toArray n })(hf:f its.toArray=its'.toArray)(hv:bL ys its')(hz:ys.length<=sizeLine) :
  Inv X pins σ (upd H l (.lst ys)) { s with heap:=s.heap.update l (Obj.mapSeq f),toks:=t' }:=by
 have q:=PySem.IsL.update e f;rw[hf] at q;refine I.write (x:=l) (e:=l) (by rw[hH];exact trivial) (.inl rfl) (fun b' u hb hu=>(Heap.get?_update_other s.heap (Obj.mapSeq f) (Ne.symm hb)).trans hu) ⟨_,q⟩ ?_;exact⟨hz,its',_,hv,q⟩
theorem Inv.lnew {its:List Value}{t':Nat}(I:Inv X pins σ H s)(hv:bL ys its)(hz:ys.length<=sizeLine) :
  Inv X pins σ (upd H s.heap.objs.size (.lst ys)) { s with heap:=s.heap.push { cls:=.type "list",data:=.seq its.toArray },toks:=t' }:=
 I.laid (fun _ _ q=>Heap.get?_push_of_some _ q) (Nat.le_refl _) ⟨hz,its,0,hv,Heap.get?_push_size _ rfl⟩
theorem Inv.fresh (I:Inv X pins σ H s):H s.heap.objs.size=none:=I.hok.fresh (Nat.le_refl _)
theorem Inv.lstM (I:Inv X pins σ H s)(hH:H l=some (.lst xs)):xs.length<=sizeLine/\∃(its:List Value) (n:Nat),bL xs its/\xs.length=its.length/\s.heap.get? l=some { cls:=.type "list",data:=.seq its.toArray n }:=by
 obtain⟨z,its,n,r,e⟩:=I.hok l _ hH;exact⟨z,its,n,r,r.length,e⟩
end
section
variable {X:Cx}
def Aj:V->List V->Hp->VK->Prop:=fun x vs H Q=>∃l xs y,x=.ref l/\vs=[y]/\H l=some (.lst xs)/\xs.length < sizeLine/\Q .non (upd H l (.lst (xs++[y])))
theorem dD:MtM X "list.append" Aj:=by
 intro pins s σ H x vs v us Q I rx rv h;obtain⟨l,xs,y,rfl,rfl,hH,hz,q⟩:=h
 cases rx
 obtain⟨u,rfl,ru⟩:=rv.one;obtain⟨z,its,n,r,hl,e⟩:=I.lstM hH;refine call_meets F.slot_list_append ⟨_,e,rfl⟩ F.entry_list_append (F.args_list_append_2 _ _) (PySem.list_append l its.toArray n u (by rw[List.size_toArray];omega)) ⟨e,?_⟩;refine⟨.non,_,I.lset (its':=its++[u]) hH e (by simp) (r.append (.cons ru .nil)) ?_,rfl,q⟩;rw[List.length_append,List.length_singleton];omega
def Je:R2:=fun x y H Q=>∃l b xs zs,x=.ref l/\y=.ref b/\H l=some (.lst xs)/\H b=some (.lst zs)/\xs.length+zs.length<=sizeLine/\∀p,H p=none->Q (.ref p) (upd H p (.lst (xs++zs)))
theorem Et:OpR X (binaryOp .Add) Je:=by
 intro pins s σ H x y v u Q I rx ry h;obtain⟨l,b,xs,zs,rfl,rfl,hH,hB,hz,q⟩:=h
 cases rx
 cases ry
 obtain⟨z,its,n,r,hl,e⟩:=I.lstM hH;obtain⟨z2,its2,n2,r2,hl2,e2⟩:=I.lstM hB;refine PySem.P.add_list e e2 ?_ (by rw[List.size_toArray,List.size_toArray];omega);have ea:its.toArray++its2.toArray=(its++its2).toArray:=by simp
 rw[ea];exact⟨.ref _,_,I.lnew (t':=s.toks) (r.append r2) (by rw[List.length_append];omega),rfl,q _ I.fresh⟩
end
end L2
namespace Att
open PySem PySem.W PySem.Calls PyProof.Rows
theorem kP {P:Params}{h:Heap}:∀(ns:List Int) (vs:List Value),WellAll P h vs (ns.map WData.int)->IntsAre vs ns:=by
 intro ns
 induction ns with
 |nil=>
  intro vs w;rw[List.map_nil] at w
  cases w
  exact .nil
 |cons n ns ih=>
  intro vs w;rw[List.map_cons] at w
  cases w with
  |cons a b=>
   cases a
   exact .cons _ _ (ih _ b)
theorem vM {l:OpenLaw}{n:Nat}(hn:l.most=some n){P:Params}{h:Heap}{args:List WData}{vals:List Value}(hpre:l.row.toRowW.claim.pre args=true)(hwl:WellAll P h vals args) :
  ∃a vs ns,vals=[Value.ref a]/\args=[WData.list (ns.map WData.int)]/\h.get? a=some { cls:=.type "list",data:=.seq vs.toArray }/\IntsAre vs ns/\ns.length<=n:=by
 have hsh:WShape.hasAll [] args [.list .int]=true:=(pre_splitW hpre).1;have hc:l.pre.holds [] { args:=args }=true:=(pre_splitW hpre).2;obtain⟨d,r,rfl,h1,h2⟩:=hasAllW_cons hsh;obtain rfl:=hasAllW_nil h2;obtain⟨xs,rfl,h3⟩:=hasW_list h1;obtain⟨ns,rfl⟩:=items_int h3;have hlen:ns.length<=n:=by
  unfold OpenLaw.pre at hc;have h4:(WTm.not (.lt (.lit (.int (n:Int))) (.len (.arg 0)))).holds [] { args:=[.list (ns.map .int)] }=true:=by
   have h4:=(holds_andW hc).1;rw[hn] at h4;exact h4
  have h5:=condW_of h4 (w_not (w_lt w_lit (w_len_list (w_arg rfl))));rw[List.length_map] at h5;refine Nat.le_of_not_lt fun q=>?_;have q':(n:Int) < ((ns.length:Nat):Int):=by omega
  first
   | (rw[decide_eq_true q'] at h5;exact absurd h5 (by decide))
   | (simp at h5;omega)
 cases hwl with
 |cons w1 w2=>
  cases w2
  cases w1 with
  |list ho hall=>exact⟨_,_,ns,rfl,rfl,ho,kP ns _ hall,hlen⟩
theorem wG (l:OpenLaw)(args:List WData):l.row.toRowW.claim.post args (.bool true) args=true:=
 postW_of (r:=l.row.toRowW) (X:=(true == true))
  (show WShape.has [] (.bool true) .bool=true by first | rfl | decide | simp[WShape.has,WShape.arms,WShape.armsAll])
  (show (WTm.eq .res (.lit (.bool true))).value [] { args:=args,res:=some (.bool true),after:=args }=some (.bool (true == true)) from w_eq_bool (w_res rfl) w_lit) rfl
theorem attach_call {l:OpenLaw}{n:Nat}{q:Program}{loose:List Str}{XP:(Str->Option Value)->Heap->Prop}{YP:World->Heap->Prop}{d:DefRec}(hn:l.most=some n)(hdf:d.params.defaults=[])(call:∀(w:World) (s₀ s₁:Shared) (mg mb:Str->Option Value) (fa:Addr) (o:Obj) (pm cd doc:Value) (a:Addr) (vs:List Value) (ns:List Int),
   Ground q loose [] XP w s₀ mg mb s₁.heap->YP w s₁.heap->
   s₁.heap.get? fa=some o->o.data=.func (docDef d.name d.params d.body d.scope pm cd doc)->s₁.heap.CodeRec cd d.name->mg d.name=some (.ref fa)->
   s₁.heap.get? a=some { cls:=.type "list",data:=.seq vs.toArray }->IntsAre vs ns->ns.length<=n->s₁.gens=#[]->
   codeAny (model l.prog w) callerA (.call (.ref fa) ⟨[.ref a],[]⟩) (fun r s'=>r=.ok (.ret (.bool true))/\OldK s₁.heap s'.heap/\s'.os=s₁.os/\AllBare s'.gens) s₁) :
  WalkO q loose XP YP l.row.toRowW d [] (fun f vs=>PySem.call f vs):=by
 intro w s₀ s₁ mg mb G Y fa o pm cd doc dV kV ho hd hcd hD hmg hg args vals as hpre hlay hrd hwl hlo;obtain rfl:dV=.none:=Dflts.none hD hdf;obtain rfl:kV=.none:=Dflts.noKw hD;obtain⟨a,vs,ns,rfl,rfl,hobj,hints,hlen⟩:=vM hn hpre hwl;refine enter_call (codeAny_mono (call w s₀ s₁ mg mb fa o pm cd doc a vs ns G Y ho (fd_plain hd) hcd hmg hobj hints hlen hg) fun r s' hq=>?_);obtain⟨rfl,h2,h3,h4⟩:=hq;exact⟨.inl ⟨.bool true,.bool true,[],rfl,fun _=>rfl,.bool true,wG l _,fun _=>⟨List.Pairwise.nil,fun _ hm=>(nomatch hm)⟩⟩,h2,h3,h4⟩
end Att
namespace L2
open PySem PySem.Spec PyProof.Rows
theorem nX:∀{vs:List Value} {ns:List Int},IntsAre vs ns->bL (ns.map V.int) vs
 |_,_,.nil=>.nil
 |_,_,.cons n t h=>.cons ⟨t,rfl⟩ (nX h)
def Fh (H:Hp):Prop:=∀b,H b=none\/∃o xs,H b=some (.frz o (.lst xs))
theorem xZ {P:Program}{w:World}{K:PySem.W.Frag}{mg mb:Str->Option Value}{CX:CXT}{k:Nat}{fa a:Addr}{fd:FuncData}{x:Str}{sp:Sp}{s₁:Shared}{vs:List Value}{ns:List Int}(KX:K.In s₁.heap)(hns:s₁.heap.Ns mainGlobals mg)(hb:s₁.heap.Ns builtinsNs mb)(hbb:∀x:Str,x≠"__name__"->mb x=bootBuiltins x)(hlim:s₁.heap.NoLimit)(hg:s₁.gens=#[])(ha:s₁.heap.get? a=some { cls:=.type "list",data:=.seq vs.toArray })(hi:IntsAre vs ns)(hl:ns.length<=sizeLine)(hr:dH k callerA)(F:∀base:Heap,K.In base->base.Ns mainGlobals mg->aK P w K mg base CX k fa fd [x] sp)(hbind:∀(s:Shared) (u:Value),BindsTo s fd ⟨[u],[]⟩ [(x,u)])(hsp:∀H:Hp,Fh H->SqL K H a (ns.map V.int)->sp [.ref a] H (fun v _=>v=.bl true) fun _ _ _=>False)(hCX:∀H e s',CX [] H s₁ (fun _ _ _=>False) e s'->False) :
  codeAny (model P w) callerA (.call (.ref fa) ⟨[.ref a],[]⟩) (fun r s'=>r=.ok (.ret (.bool true))/\OldK s₁.heap s'.heap/\s'.os=s₁.os/\AllBare s'.gens) s₁:=by
 have rv:=nX hi;have lenV:=hi.length;have core:∀H:Hp,Fh H->SqL K H a (ns.map V.int)->HOk P w H s₁.heap->(∀b,H b≠none->b=a)->(H a≠none->K.lookup a=none)->
   codeAny (model P w) callerA (.call (.ref fa) ⟨[.ref a],[]⟩) (fun r s'=>r=.ok (.ret (.bool true))/\OldK s₁.heap s'.heap/\s'.os=s₁.os/\AllBare s'.gens) s₁:=by
  intro H hO hS hok hA hK;have base_of:∀{b:Addr} {o:Obj},s₁.heap.get? b=some o->H b=none->(pE s₁.heap H).get? b=some o:=fun e n=>yT e n;have noA:∀{b:Addr} {o:Obj} {es:Array DictEntry} {ep:Nat},s₁.heap.get? b=some o->o.data=.dict es ep->H b=none:=fun {b o es ep} e d=>by
   cases q:H b with
   |none=>rfl
   |some u=>
    have e':b=a:=hA b (by rw[q];simp);subst e';rw[ha] at e;cases e;have d':Data.seq vs.toArray _=Data.dict es ep:=d
    cases d'
  have nsK:∀{b:Addr} {m:Str->Option Value},s₁.heap.Ns b m->(pE s₁.heap H).Ns b m:=fun {b m} ⟨o,es,ep,e,d,r⟩=>⟨o,es,ep,base_of e (noA e d),d,r⟩
  have hKb:K.In (pE s₁.heap H):=fun b o e=>base_of (KX b o e) (by
   cases q:H b with
   |none=>rfl
   |some u=>
    have e':b=a:=hA b (by rw[q];simp);subst e';rw[hK (by rw[q];simp)] at e;cases e)
  have hM:Mod K mg (pE s₁.heap H):=⟨hKb,nsK hns,⟨mb,nsK hb,hbb⟩,let ⟨mc,h1,h2⟩:=hlim;⟨mc,nsK h1,h2⟩⟩
  have e0:rZ P w K mg (pE s₁.heap H) callerA [] s₁ H:=⟨rfl,hM,fun b o e=>Bi e,Nat.le_of_eq (wL _ _),trivial,fun b hb=>absurd (show b∈([]:List Addr) from hb) (by simp),hok,.of_eq hg⟩
  refine codeAny_mono ((F _ hKb (nsK hns)).run callerA [] s₁ H ⟨[.ref a],[]⟩ [.ref a] [.ref a] _ _ hr e0 (hbind s₁ (.ref a)) (.cons rfl .nil) (hsp H hO hS)) fun r s' h=>?_
  cases r with
  |error e=>exact(hCX H e s' h).elim
  |ok fl=>
   cases fl with
   |next=>exact False.elim h
   |brk=>exact False.elim h
   |cont=>exact False.elim h
   |ret u=>
    obtain⟨v,H',os,bare,un,hok',r',q⟩:=h;have q':v=.bl true:=q;subst q';obtain rfl:u=Value.bool true:=r';refine⟨rfl,OldK.of_keep fun b o e=>?_,os,bare⟩
    cases q:H b with
    |none=>exact un.keep b o e q (by intro z;exact absurd (show b∈([]:List Addr) from z) (by simp)) (by simp)
    |some u=>
     rcases hO b with z | ⟨ob,xs,z⟩
     ·rw[q] at z;cases z
     ·have z2:=un.frzs b ob _ z;obtain⟨e1,_⟩:=hok b _ z;obtain⟨e2,_⟩:=hok' b _ z2;rw[e] at e1;cases e1;exact e2
 cases hk:K.lookup a with
 |some o=>
  have e:=KX a o hk;rw[ha] at e
  cases e
  refine core (fun _=>none) (fun _=>.inl rfl) (.inr ⟨_,vs.toArray,_,hk,rfl,rfl,rfl,by rw[List.size_toArray,lenV];exact hl,by simpa using rv⟩) (fun b u z=>by have z':(none:Option HO)=some u:=z;cases z') (fun b z=>absurd rfl z) fun z=>absurd rfl z
 |none=>
  refine core (fun b=>if b=a then some (.frz { cls:=.type "list",data:=.seq vs.toArray } (.lst (ns.map V.int))) else none) (fun b=>?_) (.inl (.inr ⟨{ cls:=.type "list",data:=.seq vs.toArray },if_pos rfl⟩)) (fun b u z=>?_) (fun b z=>?_) fun _=>hk
  ·by_cases hb:b=a
   ·exact .inr ⟨_,_,if_pos hb⟩
   ·exact .inl (if_neg hb)
  ·by_cases hb:b=a
   ·have z':=(if_pos hb).symm.trans z
    cases z'
    subst hb;exact⟨ha,by rw[List.length_map];exact hl,vs,_,rv,ha⟩
   ·have z':=(if_neg hb).symm.trans z
    cases z'
  ·by_cases hb:b=a
   ·exact hb
   ·exact absurd (if_neg hb) z
abbrev KOf {K:PySem.W.Frag}{h:Heap}(_:K.In h):PySem.W.Frag:=K
theorem zT {l:PySem.W.OpenLaw}{n k:Nat}{q:Program}{loose:List Str}{XP:(Str->Option Value)->Heap->Prop}{YP:World->Heap->Prop}{d:DefRec}{K:Params->PySem.W.Frag}{CX:World->CXT}{sp:World->Sp}{x:Str}(hn:l.most=some n)(hn2:n<=sizeLine)(hdf:d.params.defaults=[])(hr:dH k callerA)(hY:∀(w:World) (h:Heap),YP w h->(K w.params).In h)(F:∀(w:World) (mg:Str->Option Value) (fa:Addr) (h:Heap),(K w.params).In h->h.Ns mainGlobals mg->mg d.name=some (.ref fa)->
   ∃fd:FuncData,(∀(s:Shared) (u:Value),BindsTo s fd ⟨[u],[]⟩ [(x,u)])/\
    ∀base:Heap,(K w.params).In base->base.Ns mainGlobals mg->aK l.prog w (K w.params) mg base (CX w) k fa fd [x] (sp w))(hsp:∀(w:World) (H:Hp) (a:Addr) (ns:List Int),ns.length<=n->Fh H->SqL (K w.params) H a (ns.map V.int)->sp w [.ref a] H (fun v _=>v=.bl true) fun _ _ _=>False)(hCX:∀(w:World) (H:Hp) (s:Shared) (e:Value) (s':Shared),CX w [] H s (fun _ _ _=>False) e s'->False) :
  PySem.W.WalkO q loose XP YP l.row.toRowW d [] (fun f vs=>PySem.call f vs):=by
 refine Att.attach_call hn hdf fun w s₀ s₁ mg mb fa o pm cd doc a vs ns G Y ho hd hcd hmg hobj hints hlen hg=>?_;have KX:=hY w _ Y;obtain⟨fd,hb,hF⟩:=F w mg fa _ KX G.T.g hmg;exact xZ KX G.T.g G.T.b G.T.builtins G.T.nolimit hg hobj hints (Nat.le_trans hlen hn2) hr hF hb (fun H hO hS=>hsp w H a ns hlen hO hS) fun H e s'=>hCX w H s₁ e s'
def cP (s:Stmt)(j:Nat):Stmt:=match s with
 | .ClassDef _ _ _ body _ _ _ _ _ _ _=>body.getD j (.Pass ⟨0,0,0,0⟩)
 |_=>.Pass ⟨0,0,0,0⟩
def aP (s:Stmt):Arguments:=match s with
 | .FunctionDef _ a _ _ _ _ _ _ _ _=>a
 |_=>{ posonlyargs:=[],args:=[],vararg:=none,kwonlyargs:=[],kw_defaults:=[],kwarg:=none,defaults:=[] }
def aJ (s:Stmt):List Stmt:=match s with
 | .FunctionDef _ _ b _ _ _ _ _ _ _=>b
 |_=>[]
def aE (s:Stmt):Scope:=match s with
 | .FunctionDef _ _ _ _ _ _ sc _ _ _=>sc
 |_=>{ kind:=.function,names:=[],isGenerator:=false,isCoroutine:=false }
abbrev CX0:CXT:=fun _ _ _ _ _ _=>False
abbrev E0:XK:=fun _ _ _=>False
theorem aO {X:Cx}:gM CX0 X E0:=fun _ _ _ _ _ _ _ h=>h.elim
theorem fX {A:Around}{k:Nat}(hr:dH k A):A.units+1 < cLine:=Nat.lt_of_le_of_lt (Nat.add_le_add_left (by decide:1<=64) _) hr.units
theorem bF {n:Nat}(h:n<=1000):n < sizeLine:=Nat.lt_of_le_of_lt h (by decide)
section
variable {X:Cx}
theorem pv (i:Nat){x:Str}{pos:Pos}(hN:X.N[i]?=some x:=by rfl)(hv:Vis X.env.scope x:=by first | exact Or.inl rfl | exact Or.inr (Or.inl rfl) | exact Or.inr (Or.inr rfl))(hd:(x == ("__debug__":Str))=false:=by decide)(hcd:(x == ("__classdict__":Str))=false:=by decide):PE X (.Name x pos) (Bf i):=yJ hN hv hd hcd
end
theorem bX {A B:Prop}(h:B):if false=true then A else B:=by
 rw[if_neg Bool.false_ne_true];exact h
theorem dF {A B:Prop}(h:A):if true=true then A else B:=by
 rw[if_pos rfl];exact h
theorem pL {c A B:Prop}[Decidable c](h1:c->A)(h2:¬c->B):if c then A else B:=by
 by_cases h:c
 ·rw[if_pos h];exact h1 h
 ·rw[if_neg h];exact h2 h
def bA (H H':Hp):Prop:=∀b o,H b=some o->H' b=some o
theorem bA.refl (H:Hp):bA H H:=fun _ _ h=>h
theorem bA.trans {H H1 H2:Hp}(a:bA H H1)(b:bA H1 H2):bA H H2:=fun c o h=>b c o (a c o h)
theorem bA.free {H H':Hp}(e:bA H H'){l:Addr}(h:H' l=Option.none):H l=Option.none:=by
 cases q:H l with
 |none=>rfl
 |some o=>
  rw[e l o q] at h
  cases h
theorem bA.seq {K:PySem.W.Frag}{H H':Hp}{a:Addr}{xs:List V}(e:bA H H')(h:SqL K H a xs):SqL K H' a xs:=by
 rcases h with (h | ⟨o,h⟩) | h
 ·exact .inl (.inl (e _ _ h))
 ·exact .inl (.inr ⟨o,e _ _ h⟩)
 ·exact .inr h
end L2
set_option maxHeartbeats 1000000
namespace L2
open PySem PySem.Spec PyProof.Rows
section
variable {X:Cx}
def Bt (n:Nat)(i:Int):Prop:=i.natAbs < 2 ^ n
theorem lD {n:Nat}{i:Int}(h:Bt n i):Builtin.Int.intBits i<=n:=by
 unfold Builtin.Int.intBits;split
 ·exact Nat.zero_le _
 ·rename_i h0
  have hp:i.natAbs≠0:=by
   intro z;apply h0;simp at z ⊢;exact z
  have:i.natAbs.log2 < n:=(Nat.log2_lt hp).mpr h;omega
def Be (i j:Int):Prop:=∃n m,Bt n i/\Bt m j/\n<=1048576/\m<=1048576
theorem Be.ok {i j:Int}(h:Be i j):IntMulOk i j:=by
 obtain⟨n,m,h1,h2,h3,h4⟩:=h;have e:(2:Nat) ^ 20=1048576:=by decide
 exact IntMulOk.of_bits (by have:=lD h1;omega) (by have:=lD h2;omega)
theorem cJ:OpR X (binaryOp .Mult) (rI Be fun i j=>.int (i*j)):=opI fun _ _ _ _ _ _ _ hc q=>mul_int q hc.ok
def uE (i j:Int):Prop:=j≠0/\∃n,Bt n j/\n<=9000
theorem uE.ok {i j:Int}(h:uE i j):Builtin.divisionGoesByPylong i j=false:=by
 obtain⟨h0,n,h1,h2⟩:=h;refine PyProof.noPylong_of_log2 ?_;have hp:j.natAbs≠0:=by omega
 have:j.natAbs.log2 < n:=(Nat.log2_lt hp).mpr h1;omega
theorem jA:OpR X (binaryOp .FloorDiv) (rI uE fun i j=>.int (i.fdiv j)):=opI fun _ _ _ _ _ _ _ hc q=>floordiv_int hc.1 q (.inl hc.ok)
mutual
inductive jE (K:PySem.W.Frag) (H:Hp):V->PyData->Prop where
 |non:jE K H .non .none
 |bl (b:Bool):jE K H (.bl b) (.bool b)
 |int (i:Int):jE K H (.int i) (.int i)
 |str (x:Str):jE K H (.str x) (.str x)
 |lst {a:Addr} {xs:List V} {ds:List PyData} (h:SqL K H a xs) (q:iN K H xs ds):jE K H (.ref a) (.list ds)
 |tup {a:Addr} {xs:List V} {ds:List PyData} (h:SqT K H a xs) (q:iN K H xs ds):jE K H (.ref a) (.tuple ds)
inductive iN (K:PySem.W.Frag) (H:Hp):List V->List PyData->Prop where
 |nil:iN K H [] []
 |cons {x:V} {d:PyData} {xs:List V} {ds:List PyData} (p:jE K H x d) (q:iN K H xs ds):iN K H (x :: xs) (d :: ds)
end
theorem fH {pins:List (Addr × Obj)}{s:Shared}{σ:St}{H:Hp}(I:Inv X pins σ H s):∀{x:V} {d:PyData},jE X.K H x d->∀{u:Value},bK x u->∃as,Reads s.heap u d as:=by
 intro x d h
 induction h using jE.rec (motive_2:=fun xs ds _=>∀{us:List Value},bL xs us->∃as,ReadsAll s.heap us ds as) with
 |non=>intro u r;cases (show u=Value.none from r);exact⟨_,.none⟩
 |bl b=>intro u r;cases (show u=Value.bool b from r);exact⟨_,.bool b⟩
 |int i=>intro u r;obtain⟨t,rfl⟩:=(show ∃t,u=Value.int i t from r);exact⟨_,.int i t⟩
 |str y=>intro u r;obtain⟨t,rfl⟩:=(show ∃t,u=Value.str y t from r);exact⟨_,.str y t⟩
 |lst h q ih=>
  intro u r
  cases (show u=Value.ref _ from r)
  obtain⟨its,rv,pl,_⟩:=I.list h;obtain⟨as,ra⟩:=ih rv;obtain⟨o,h1,h2,n,h3⟩:=pl.isList;exact⟨_,.list h1 h2 h3 (by simpa using ra)⟩
 |tup h q ih=>
  intro u r
  cases (show u=Value.ref _ from r)
  obtain⟨its,rv,pl,_⟩:=I.tuple h;obtain⟨as,ra⟩:=ih rv;obtain⟨o,h1,h2,n,h3⟩:=pl;exact⟨_,.tuple h1 h2 h3 (by simpa using ra)⟩
 |nil=>rename_i us r;cases r;exact⟨_,.nil⟩
 |cons p q ih1 ih2=>
  rename_i us r
  cases r with
  |cons r1 r2=>
   obtain⟨as,h1⟩:=ih1 r1;obtain⟨bs,h2⟩:=ih2 r2;exact⟨_,.cons h1 h2⟩
def pU (K:PySem.W.Frag)(neg:Bool):R2:=fun x y H Q=>∃d e,jE K H x d/\jE K H y e/\d.canLay0=true/\e.canLay0=true/\min d.depth e.depth<=16/\Q (.bl (if neg then !PyData.eqv d e else PyData.eqv d e)) H
theorem iL (hu:X.A.units+64 < cLine):OpR X (compareOp .Eq) (pU X.K false):=by
 intro pins s σ H x y v u Q I rx ry h;obtain⟨d,e,h1,h2,c1,c2,hm,q⟩:=h;obtain⟨as,r1⟩:=fH I h1 rx;obtain⟨bs,r2⟩:=fH I h2 ry;exact PySem.SeqAt.compareEq_reads r1 r2 c1 c2 (by omega) ⟨.bl (PyData.eqv d e),H,I,rfl,q⟩
theorem xA (hu:X.A.units+64 < cLine):OpR X (compareOp .NotEq) (pU X.K true):=by
 intro pins s σ H x y v u Q I rx ry h;obtain⟨d,e,h1,h2,c1,c2,hm,q⟩:=h;obtain⟨as,r1⟩:=fH I h1 rx;obtain⟨bs,r2⟩:=fH I h2 ry;exact PySem.SeqAt.compareNe_reads r1 r2 c1 c2 (by omega) ⟨.bl (!PyData.eqv d e),H,I,rfl,q⟩
end
end L2
set_option maxHeartbeats 2000000
namespace L2
open PySem PySem.Spec PyProof.Rows
section
variable {prog:Program} {w:World} {A:Around} {R:Result->Shared->Prop} {s:Shared}
abbrev Cm (ifs:List Expr)(env:Env):Sem Bool:=forIn ifs true fun c r=>if r=true then do let ok <- isTrue c env (eval c env);pure (ForInStep.yield ok) else pure (ForInStep.yield r)
theorem vK {elt target iter:Expr}{ifs:List Expr}{scope:Scope}{pos:Pos}{it acc:Value}{env:Env}(I:Nat->Shared->Prop)(turn:∀n s,I n s->wpAny (model prog w) A (pyNext it) (fun r s₁=>match r with
   |none=>R (.ok .next) s₁
   |some v=>wpAny (model prog w) A (letOwnedTupleGo target it v) (fun _ s₀=>wpAny (model prog w) A (assign target env v) (fun _ s₂=>
     wpAny (model prog w) A (Cm ifs env) (fun ok s₃=>
      if ok=true then wpAny (model prog w) A (eval elt env) (fun x s₄=>
       wpAny (model prog w) A (call (.builtin "list.append") [acc,x]) (fun _ s₅=>∃m,m < n/\I m s₅) (fun _ _=>False) s₄) (fun _ _=>False) s₃
      else ∃m,m < n/\I m s₃) (fun _ _=>False) s₂) (fun _ _=>False) s₀) (fun _ _=>False) s₁) (fun _ _=>False) s)(n:Nat)(h:I n s) :
  codeAny (model prog w) A (.compLoop (.ListComp elt [⟨target,iter,ifs,0⟩] scope pos) 0 it acc env) R s:=by
 refine codeAny_loop rfl I (fun n s hI=>?_) n h;show wpAny _ A ((compTurn (.ListComp elt [⟨target,iter,ifs,0⟩] scope pos) 0 it acc env).onRaise (fun x=>do noteFrame x env;theTreesLotGoes x)) _ _ s;refine wpAny_noted ?_;rw[compTurn_list];refine wpAny_bind (wpAny_standAt (wpAny_bind (wpAny_mono (turn n s hI) (fun r s₁ h₁=>?_) fun _ _ z=>z.elim)))
 cases r with
 |none=>exact wpAny_pure h₁
 |some v=>
  refine wpAny_bind (wpAny_mono h₁ (fun _ s₀ h₀=>?_) fun _ _ z=>z.elim);refine wpAny_bind (wpAny_mono h₀ (fun _ s₂ h₂=>wpAny_bind (wpAny_mono h₂ (fun ok s₃ h₃=>?_) fun _ _ z=>z.elim)) fun _ _ z=>z.elim)
  cases ok with
  |false=>exact wpAny_pure ⟨rfl,h₃⟩
  |true=>
   rw[if_pos rfl] at h₃;show wpAny _ _ ((do let _ <- call (.builtin "list.append") [acc,<- eval elt env]) >>= fun _=>again (.compLoop (.ListComp elt [⟨target,iter,ifs,0⟩] scope pos) 0 it acc env)) _ _ _;exact wpAny_bind (wpAny_bind (wpAny_mono h₃ (fun x s₄ h₄=>wpAny_bind (wpAny_mono h₄ (fun _ s₅ h₅=>wpAny_pure (wpAny_pure ⟨rfl,h₅⟩)) fun _ _ z=>z.elim)) fun _ _ z=>z.elim))
end
structure pP (X:Cx) (scope:Scope) (cl:List (Str × Addr)) (Nc:List Str) (nl:Nat) (fr:List Nat):Prop where
 clos:closureFor scope X.env=pure cl
 kind:scope.kind=.function
 names:∀y∈scope.names,y.2=.local->scope.names.lookup y.1=some .local
 cell:∀y∈scope.names,y.2≠.cell
 sub:∀x c,cl.lookup x=some c->X.env.cells.lookup x=some c
 has:∀x,(relabel scope X.env).names.lookup x=some .cell\/(relabel scope X.env).names.lookup x=some .free->∃c,cl.lookup x=some c
 len:Nc.length=nl+fr.length
 tail:∀i n,Nc[nl+i]?=some n->∃j,fr[i]?=some j/\X.N[j]?=some n/\X.env.kindOf n=some .cell/\cl.lookup n=X.env.cells.lookup n/\((relabel scope X.env).names.lookup n=some .cell\/(relabel scope X.env).names.lookup n=some .free)
abbrev cS (X:Cx)(scope:Scope)(cl:List (Str × Addr))(Nc:List Str)(C:Addr)(s3:Shared)(H3:Hp)(fp:List Addr)(pins:List (Addr × Obj)):Cx:=
 { X with N:=Nc,s₀:=s3,H₀:=H3,env:=compEnvC scope cl C X.env,outer:=X.stack,ex:=fp,fn:=fun _=>false,pn:=X.pn++pins,xe:=fun _ _=>False }
def σC (nl:Nat)(fr:List Nat)(σ:St):St:=List.replicate nl none++fr.map fun j=>(σ[j]?).join
abbrev PIf (X:Cx)(ifs:List Expr)(t:TT):Prop:=
 ∀(pins:List (Addr × Obj)) (s:Shared) (σ:St) (H:Hp) (Q:Bool->Hp->Prop),Inv X pins σ H s->t σ H Q->wpAny (model X.prog X.w) X.A (Cm ifs X.env) (TP X pins σ Q) X.xe s
theorem iX {X:Cx}:PIf X [] (fun _ H Q=>Q true H):=fun _ _ _ H _ I h=>wpAny_pure ⟨H,I,h⟩
theorem uU {X:Cx}{c:Expr}{t:TT}(h:PT X c t):PIf X [c] t:=fun pins s σ H Q I q=>wpAny_tests_one (h pins s σ H Q I q)
section
variable {X:Cx} {scope:Scope} {cl:List (Str × Addr)} {Nc:List Str} {nl:Nat} {fr:List Nat} {pins:List (Addr × Obj)} {σ:St} {H3:Hp} {s3:Shared} {fp:List Addr} {h4:Heap} {tk:Nat}
theorem rX (ck:pP X scope cl Nc nl fr)(I:Inv X pins σ H3 s3)(hf:∀b∈fp,iD X pins H3 b)(hfs:∀b∈fp,b < s3.heap.objs.size)(hns:h4.Ns s3.heap.objs.size fun _=>none)(hk:∀b o,s3.heap.get? b=some o->h4.get? b=some o) :
  Inv (cS X scope cl Nc s3.heap.objs.size s3 H3 fp pins) [] (σC nl fr σ) H3 { s3 with heap:=h4,toks:=tk }:=by
 have stk:∀b∈frs X.stack,b∈X.env.locals :: X.fs:=I.stkSub;have nfs:∀b,b≠X.env.locals->b∉X.fs->b∉frs X.stack:=fun b h1 h2 z=>(List.mem_cons.mp (stk b z)).elim h1 h2;have ltc:∀x c,cl.lookup x=some c->c < s3.heap.objs.size:=fun x c e=>by
  obtain⟨v,z⟩:=I.cell x c (ck.sub x c e);exact z.lt
 refine⟨⟨I.ok.mod,ck.kind,I.ok.glob,I.ok.blt,Nat.le_refl _,fun x y c h1 h2=>I.ok.inj x y c (ck.sub x c h1) (ck.sub y c h2),fun x hx=>ck.has x hx,fun x c hz=>Bool.noConfusion hz,I.ok.hd,I.ok.frames,.inl rfl,fun b hb=>?_,I.bs,Nat.le_trans I.ok.bsz I.sz,fun b o e hb=>?_,fun b hb=>?_,I.stack,I.stkFree⟩,
  rfl,I.bare,Un.kept hk,⟨_,hns,fun i x v h1 h2 h3=>?_⟩,fun x c e=>?_,I.hok.fresh (Nat.le_refl _),fun x c e=>I.freeC x c (ck.sub x c e),fun p hp=>?_,I.hok.kept hk,?_⟩
 ·obtain⟨f0,f1,f2,f3,f4,f5⟩:=hf b hb;exact⟨Nat.ne_of_lt (hfs b hb),fun x c e=>f4 x c (ck.sub x c e)⟩
 ·obtain⟨f0,f1,f2,f3,f4,f5⟩:=hf b hb;rcases f3 with z | z
  ·exact I.ok.noex b o e z
  ·exact absurd (Nat.lt_of_lt_of_le (Heap.lt_size e) (Nat.le_trans I.ok.bsz z)) (Nat.lt_irrefl _)
 ·obtain⟨f0,f1,f2,f3,f4,f5⟩:=hf b hb;exact nfs b f1 f2
 ·-- a name's value
  unfold σC at h2
  by_cases hi:i < nl
  ·rw[List.getElem?_append_left (by simpa using hi),List.getElem?_replicate] at h2;split at h2<;>cases h2
  ·have hi':nl<=i:=by omega
   rw[List.getElem?_append_right (by simpa using hi'),List.length_replicate,List.getElem?_map] at h2;obtain⟨k,rfl⟩:∃k,i=nl+k:=⟨i - nl,by omega⟩
   obtain⟨j,e1,e2,e3,e4,e5⟩:=ck.tail k x h1;rw[Nat.add_sub_cancel_left,e1] at h2;have h2':(σ[j]?).join=some v:=by simpa using h2
   have h2'':σ[j]?=some (some v):=by
    cases q:σ[j]? with
    |none=>rw[q] at h2';cases h2'
    |some z=>rw[q] at h2';exact congrArg some h2'
   obtain⟨m,hn,hl⟩:=I.loc;obtain⟨u,r,l⟩:=hl j x v e2 h2'' (.inr (.inl e3));refine⟨u,r,?_⟩;rcases l with ⟨k1,_⟩ | ⟨k1,c,ec,z⟩
   ·rw[e3] at k1;cases k1
   ·obtain⟨o,ho,hd⟩:=z;exact .inr ⟨e5,c,by show cl.lookup x=some c;rw[e4];exact ec,o,hk _ _ ho,hd⟩
 ·obtain⟨v,o,ho,hd⟩:=I.cell x c (ck.sub x c e);exact⟨v,o,hk _ _ ho,hd⟩
 ·have hp':p∈X.pn++pins:=by simpa using hp
  obtain⟨e,n,ne,nf,d⟩:=I.pin p hp';exact⟨hk _ _ e,n,Nat.ne_of_lt (Heap.lt_size e),nfs _ ne nf,d⟩
 ·unfold σC;show _=Nc.length;rw[List.length_append,List.length_replicate,List.length_map,ck.len]
theorem zJ {pins':List (Addr × Obj)}{σ':St}{H':Hp}{s':Shared}(I:Inv X pins σ H3 s3)(hf:∀b∈fp,iD X pins H3 b)(J:Inv (cS X scope cl Nc s3.heap.objs.size s3 H3 fp pins) pins' σ' H' s'):Inv X pins σ H' s'/\iD X pins H' s3.heap.objs.size:=by
 refine⟨I.call' (ch:=fp) J.os J.base J.hok J.bare fun b hb=>?_,I.fpOk (Nat.le_refl _) J.free⟩;obtain⟨f0,f1,f2,f3,f4,f5⟩:=hf b hb;exact⟨f3,f1,f4,f5⟩
theorem Inv.off {b:Addr}{H:Hp}{s:Shared}{h':Heap}(I:Inv X pins σ H s)(f:iD X pins H b)(hs:Heap.SameBut b s.heap h'):Inv X pins σ H { s with heap:=h' }:=by
 obtain⟨f0,f1,f2,f3,f4,f5⟩:=f;exact I.turned (t':=s.toks) (it:=b) (fun c o hb e=>(hs.2 c hb).trans e) f0 f1 f3 f4 f5
end
def uL (J:It)(nl:Nat)(fr:List Nat)(g:TG)(tt:TT)(te:TE)(σ:St)(D:Addr)(H1:Hp)(Q:VK):Prop:=
 ∃W:Nat->Nat->List V->Hp->Prop,(∃m,W 0 m [] (upd H1 D (.lst [])))/\∀i m ys H2,W i m ys H2->H2 D=some (.lst ys)/\
  ((J.stop i H2/\Q (.ref D) H2)\/(J.go i H2/\∀x H3,J.yld i H2 x H3->g x (σC nl fr σ) H3 fun σ2 H4=>σ2.length=(σC nl fr σ).length/\(∀(i:Nat) v,(σC nl fr σ)[i]?=some (some v)->σ2[i]?=some (some v))/\
   tt σ2 H4 fun b H5=>if b=true then te σ2 H5 fun y H6=>H6 D=some (.lst ys)/\ys.length < sizeLine/\∃m',m' < m/\W (i+1) m' (ys++[y]) (upd H6 D (.lst (ys++[y])))
    else ∃m',m' < m/\W (i+1) m' ys H5))
def yC (wi:TI)(nl:Nat)(fr:List Nat)(g:TG)(tt:TT)(te:TE):TE:=fun σ H Q=>wi σ H fun J H1=>∀D,H1 D=none->uL J nl fr g tt te σ D H1 Q
section
variable {X:Cx} {scope:Scope} {cl:List (Str × Addr)} {Nc:List Str} {nl:Nat} {fr:List Nat} {elt tg iter:Expr} {ifs:List Expr} {pos:Pos} {wi:TI} {g:TG} {tt:TT} {te:TE}
theorem rC (hc:X.calm=true)(ck:pP X scope cl Nc nl fr)(hi:PI X tg iter wi)(hg:∀C s3 H3 fp pins,PG (cS X scope cl Nc C s3 H3 fp pins) tg g)(ht:∀C s3 H3 fp pins,PIf (cS X scope cl Nc C s3 H3 fp pins) ifs tt)(he:∀C s3 H3 fp pins,PE (cS X scope cl Nc C s3 H3 fp pins) elt te){pins:List (Addr × Obj)}{s:Shared}{σ:St}{H:Hp}{Q:VK}(I:Inv X pins σ H s)(h:yC wi nl fr g tt te σ H Q){RR:Value->Addr->Result->Shared->Prop}(fin:∀D C s',(∃H',(∃m,s'.heap.Ns C m)/\Inv X pins σ H' s'/\iD X pins H' C/\Q (.ref D) H')->RR (.ref D) C (.ok .next) s') :
  wpAny (model X.prog X.w) X.A (eval iter X.env) (fun x s₁=>wpAny (model X.prog X.w) X.A (pyIter x) (fun it s₂=>wpAny (model X.prog X.w) X.A (newList []) (fun acc s₃=>
   wpAny (model X.prog X.w) X.A (newFunctionEnv scope X.env.globals cl [] X.env.qual none .none (some X.env)) (fun cenv s₄=>
    codeAny (model X.prog X.w) X.A (.compStart (.ListComp elt [⟨tg,iter,ifs,0⟩] scope pos) 0 it acc { cenv with scope:=relabel scope X.env }) (RR acc cenv.locals) s₄) X.xe s₃) X.xe s₂) X.xe s₁) X.xe s:=by
 refine thn (hi pins s σ H _ I h) fun v s1 h1=>thn h1 fun itv s2 h2=>?_;obtain⟨it,fp,tn,J,H2,e,I2,T,st2,f2,hD⟩:=h2;subst e;have hn2:H2 s2.heap.objs.size=none:=I2.hok.fresh (Nat.le_refl _);obtain⟨W,⟨m0,w0⟩,turn⟩:=hD s2.heap.objs.size hn2;refine wpAny_newObj_type (wpAny_newFunctionEnv ck.cell (by intro y hy;simp at hy) (fun h4 hns hsb=>?_) ck.kind);dsimp only at hns hsb ⊢;have I3:Inv X pins σ (upd H2 s2.heap.objs.size (.lst [])) { s2 with heap:=s2.heap.push { cls:=.type "list",dict:=none,data:=.seq ([]:List Value).toArray } }:=
  I2.laid (t':=s2.toks) (fun b u e=>Heap.get?_push_of_some _ e) (Nat.le_refl _) ⟨Nat.zero_le _,[],0,.nil,Heap.get?_push_size _ rfl⟩
 have hfs:∀b∈fp,b < s2.heap.objs.size:=fun b hb=>by
  obtain⟨o,e,_⟩:=T.obj 0 _ st2 b hb;exact Heap.lt_size e
 have f3:∀b∈fp,iD X pins (upd H2 s2.heap.objs.size (.lst [])) b:=fun b hb=>⟨by rw[aU (Nat.ne_of_lt (hfs b hb))];exact(f2 b hb).1,(f2 b hb).2⟩
 generalize hH3:upd H2 s2.heap.objs.size (.lst [])=H3 at *
 generalize hs3:({ s2 with heap:=s2.heap.push { cls:=.type "list",dict:=none,data:=.seq ([]:List Value).toArray } }:Shared)=s3 at *
 have z3:s3.heap=s2.heap.push { cls:=.type "list",dict:=none,data:=.seq ([]:List Value).toArray }:=by rw[<- hs3]
 have hsz3:s3.heap.objs.size=s2.heap.objs.size+1:=by rw[z3,Heap.size_push]
 rw[<- z3] at hns hsb ⊢;have hk4:∀b o,s3.heap.get? b=some o->h4.get? b=some o:=fun b o e=>hsb.extBut b o (Nat.ne_of_lt (Heap.lt_size e)) (Heap.get?_push_of_some _ e);have hfs3:∀b∈fp,b < s3.heap.objs.size:=fun b hb=>Nat.lt_of_lt_of_le (hfs b hb) (by rw[hsz3];exact Nat.le_succ _);have hns':h4.Ns s3.heap.objs.size fun _=>none:=by simpa using hns
 have K0:=fun tk=>rX (tk:=tk) ck I3 f3 hfs3 hns' hk4;have stat:∀{H':Hp},(∀b∈fp,H' b=none)->∀b∈fp,iD (cS X scope cl Nc s3.heap.objs.size s3 H3 fp pins) [] H' b:=fun {H'} hn b hb=>by
  obtain⟨f0,g1,g2,g3,g4,g5⟩:=f3 b hb;refine⟨hn b hb,Nat.ne_of_lt (hfs3 b hb),fun z=>?_,.inl hb,fun x c e=>g4 x c (ck.sub x c e),fun p hp=>g5 p (by simpa using hp)⟩;exact(List.mem_cons.mp (I3.stkSub b z)).elim g1 g2
 have st4:tn 0 h4:=T.keep 0 _ _ st2 fun b hb o e=>hk4 b o (by rw[z3];exact Heap.get?_push_of_some _ e);have loop:∀tk,codeAny (model X.prog X.w) X.A (.compLoop (.ListComp elt [⟨tg,iter,ifs,0⟩] scope pos) 0 (.ref it) (.ref s2.heap.objs.size) (compEnvC scope cl s3.heap.objs.size X.env)) (RR (.ref s2.heap.objs.size) s3.heap.objs.size) { s3 with heap:=h4,toks:=tk }:=by
  intro tk;refine vK (fun n s'=>∃i ys H',Inv (cS X scope cl Nc s3.heap.objs.size s3 H3 fp pins) [] (σC nl fr σ) H' s'/\tn i s'.heap/\(∀b∈fp,H' b=none)/\W i n ys H') ?_ m0 ⟨0,[],H3,K0 tk,st4,fun b hb=>(f3 b hb).1,w0⟩;rintro n s5 ⟨i,ys,H5,I5,st5,fr5,w5⟩;obtain⟨hl5,q5⟩:=turn i n ys H5 w5;rcases q5 with ⟨stop,qn⟩ | ⟨go,step⟩
  ·refine wpAny_mono (T.done (cS X scope cl Nc s3.heap.objs.size s3 H3 fp pins) rfl rfl rfl hc i [] s5 (σC nl fr σ) H5 (fun _ _=>False) I5 (stat fr5) st5 stop) (fun r s6 h6=>?_) fun _ _ z=>z;obtain⟨hr,I6⟩:=h6;subst hr;obtain⟨z1,z2⟩:=zJ I3 f3 I6;refine fin _ _ _ ⟨H5,?_,z1,z2,qn⟩;obtain⟨m,hm,_⟩:=I6.loc;exact⟨m,hm⟩
  ·refine wpAny_mono (T.item (cS X scope cl Nc s3.heap.objs.size s3 H3 fp pins) rfl rfl rfl hc i [] s5 (σC nl fr σ) H5 (fun _ _=>False) I5 (stat fr5) st5 go) (fun r s6 h6=>?_) fun _ _ z=>z;obtain⟨u,hr,h6⟩:=h6;subst hr;refine wpAny_mono h6 (fun _ s7 h7=>?_) fun _ _ z=>z;obtain⟨x,H7,I7,r7,y7,st7,fr7⟩:=h7;have I7':=I7.pinned (stat fr7) (T.obj _ _ st7);refine wpAny_mono (hg s3.heap.objs.size s3 H3 fp pins _ s7 _ H7 x u _ I7' r7 (step x H7 y7)) (fun _ s8 h8=>?_) fun _ _ z=>z;obtain⟨σ8,H8,I8,l8,k8,q8⟩:=h8;refine wpAny_mono (ht s3.heap.objs.size s3 H3 fp pins _ s8 σ8 H8 _ I8 q8) (fun b s9 h9=>?_) fun _ _ z=>z;obtain⟨H9,I9,q9⟩:=h9;have again:∀{ys':List V} {H':Hp} {s':Shared} {m':Nat},Inv (cS X scope cl Nc s3.heap.objs.size s3 H3 fp pins) ([]++mO fp s7.heap) σ8 H' s'->m' < n->W (i+1) m' ys' H'->
     ∃m,m < n/\∃i ys H',Inv (cS X scope cl Nc s3.heap.objs.size s3 H3 fp pins) [] (σC nl fr σ) H' s'/\tn i s'.heap/\(∀b∈fp,H' b=none)/\W i m ys H':=fun {ys' H' s' m'} I' hm w'=>by
    refine⟨m',hm,i+1,ys',H',I'.unpinned.weak l8.symm k8,T.keep _ _ _ st7 fun b hb o e=>(I'.pin (b,o) (List.mem_append_right _ (List.mem_append_right _ (fI hb e)))).1,fun b hb=>?_,w'⟩;obtain⟨o,e,d⟩:=T.obj _ _ st7 b hb;exact(I'.pin (b,o) (List.mem_append_right _ (List.mem_append_right _ (fI hb e)))).2.1
   cases b with
   |false=>
    rw[if_neg Bool.false_ne_true] at q9 ⊢;obtain⟨m',hm,w9⟩:=q9;exact again I9 hm w9
   |true=>
    rw[if_pos rfl] at q9 ⊢;refine wpAny_mono (he s3.heap.objs.size s3 H3 fp pins _ s9 σ8 H9 _ I9 q9) (fun yv s10 h10=>?_) fun _ _ z=>z;obtain⟨y,H10,I10,r10,hl10,hz10,m',hm,w10⟩:=h10;refine wpAny_mono (dD (X:=cS X scope cl Nc s3.heap.objs.size s3 H3 fp pins) _ s10 σ8 H10 (.ref s2.heap.objs.size) [y] _ [yv] (fun v H'=>H'=upd H10 s2.heap.objs.size (.lst (ys++[y]))) I10 rfl (.cons r10 .nil) ⟨_,ys,y,rfl,rfl,hl10,hz10,rfl⟩) (fun _ s11 h11=>?_) fun _ _ z=>z;obtain⟨_,H11,I11,_,e11⟩:=h11;subst e11;exact again I11 hm w10
 have L:=loop (s2.toks+([]:List (Str × Value)).length);rw[show s3.gens=s2.gens by rw[<- hs3],show s3.drawn=s2.drawn by rw[<- hs3],show s3.os=s2.os by rw[<- hs3]] at L;exact codeAny_compStart_list L (T.self _ 0 _ _ _ st4 L)
theorem iY (hc:X.calm=true)(ck:pP X scope cl Nc nl fr)(hi:PI X tg iter wi)(hg:∀C s3 H3 fp pins,PG (cS X scope cl Nc C s3 H3 fp pins) tg g)(ht:∀C s3 H3 fp pins,PIf (cS X scope cl Nc C s3 H3 fp pins) ifs tt)(he:∀C s3 H3 fp pins,PE (cS X scope cl Nc C s3 H3 fp pins) elt te)(hs:∀x,foldedSetIterable iter X.env x=pure x:=by intro _;rfl):PE X (.ListComp elt [⟨tg,iter,ifs,0⟩] scope pos) (yC wi nl fr g tt te):=by
 intro pins s σ H Q I h;rw[eval_ListComp];refine wpAny_comprehension_free (use:=none) rfl hs ck.clos ck.kind ck.names (rC (RR:=fun acc C=>compPost (model X.prog X.w) X.A X.xe none (EP X pins σ Q) acc C) hc ck hi hg ht he I h fun D C s' hh=>?_);obtain⟨H',⟨m,hm⟩,hI,hF,q⟩:=hh;exact⟨m,hm,fun h' hs'=>⟨.ref D,H',hI.off hF hs',rfl,q⟩⟩
theorem uY {i:Nat}{y:Str}{py spos:Pos}(hN:X.N.Nodup)(hiy:X.N[i]?=some y)(hy:X.env.scope.names.lookup y=some .local)(hc:X.calm=true)(ck:pP X scope cl Nc nl fr)(hi:PI X tg iter wi)(hg:∀C s3 H3 fp pins,PG (cS X scope cl Nc C s3 H3 fp pins) tg g)(ht:∀C s3 H3 fp pins,PIf (cS X scope cl Nc C s3 H3 fp pins) ifs tt)(he:∀C s3 H3 fp pins,PE (cS X scope cl Nc C s3 H3 fp pins) elt te)(hsw:swapsWith (.ListComp elt [⟨tg,iter,ifs,0⟩] scope pos) (some (.Name y py)) spos.line X.env=pure true)(hs:∀x,foldedSetIterable iter X.env x=pure x:=by intro _;rfl):PS X (.Assign [.Name y py] (.ListComp elt [⟨tg,iter,ifs,0⟩] scope pos) spos) (Fc (yC wi nl fr g tt te) (lV i)):=by
 intro pins s σ H D I h;rw[exec_Assign_Name_used _ _ _ _ hsw];refine wpAny_bind (wpAny_standAt (wpAny_bind ?_));show wpAny _ X.A (do let _ <- comprehension (.ListComp elt [⟨tg,iter,ifs,0⟩] scope pos) scope X.env _ (newList []) false (eval iter X.env) (some (assign (.Name y py) X.env))) _ _ s;refine wpAny_bind (wpAny_mono (wpAny_comprehension_free (use:=some (assign (.Name y py) X.env)) (Q:=fun _ s'=>SP X pins D .next s') rfl hs ck.clos ck.kind ck.names
  (rC (RR:=fun acc C=>compPost (model X.prog X.w) X.A X.xe (some (assign (.Name y py) X.env)) (fun _ s'=>SP X pins D .next s') acc C) hc ck hi hg ht he I h fun Dd C s' hh=>?_)) (fun _ s' hq=>wpAny_pure (wpAny_pure hq)) fun _ _ e=>e)
 obtain⟨H',⟨m,hm⟩,hI,hF,q⟩:=hh;show wpAny _ X.A (assign (.Name y py) X.env (.ref Dd)) _ _ _;refine wpAny_assign_Name (oR hI hN hiy (.inl hy) (v:=.ref Dd) rfl (fun s2 I2 hsb=>?_) (.inr hy));obtain⟨a,sb,ha⟩:=hsb;have hCa:C≠a:=by
  rcases ha with z | z
  ·rw[z];exact hF.2.1
  ·exact Ne.symm (hF.2.2.2.2.1 y a z)
 refine⟨m,hm.sameBut sb hCa,fun h' hs'=>⟨_,H',I2.off hF hs',q⟩⟩
end
end L2
set_option maxHeartbeats 1000000
namespace Mq
abbrev Q2:=Int × Int
def gc (a b:Int):Int:=(Int.gcd a b:Nat)
theorem vE (a b:Int):gc b (Int.fmod a b)=gc a b:=by
 unfold gc;rw[Int.fmod_def,Int.gcd_comm a b,Int.sub_eq_add_neg,<- Int.mul_neg,Int.gcd_add_mul_left_right]
theorem nM {a b:Int}(h:b≠0):(Int.fmod a b).natAbs < b.natAbs:=by
 rcases (by omega:0 < b\/b < 0) with h1 | h1
 ·have:=Int.fmod_nonneg_of_pos a h1;have:=Int.fmod_lt_of_pos a h1;omega
 ·have h2:0 < -b:=by omega
  have e:Int.fmod a b=- Int.fmod (-a) (-b):=by
   rw[Int.neg_fmod_neg];omega
  have:=Int.fmod_nonneg_of_pos (-a) h2;have:=Int.fmod_lt_of_pos (-a) h2;omega
theorem uT (a:Int):gc a 0=if a < 0 then -a else a:=by
 unfold gc;rw[Int.gcd_zero];split<;>omega
theorem Ds (a b:Int):gc (if a < 0 then -a else a) (if b < 0 then -b else b)=gc a b:=by
 unfold gc;split<;>split<;>simp
theorem xW {a b:Int}(h:b≠0):0 < gc a b:=by
 have:=Int.gcd_pos_of_ne_zero_right a h;unfold gc;omega
structure Low (p:Q2):Prop where
 pos:1<=p.2
 one:gc p.1 p.2=1
def dvr (t b:Int):Int:=if b < 0 then -gc t b else gc t b
def red (t b:Int):Q2:=(Int.fdiv t (dvr t b),Int.fdiv b (dvr t b))
theorem jM {t b:Int}(h:b≠0):dvr t b≠0:=by
 have:=xW (a:=t) h;unfold dvr;split<;>omega
theorem lZ {a g k:Int}(hg:g≠0)(h:a=g*k):Int.fdiv a g=k:=by
 rw[h,Int.mul_fdiv_cancel_left _ hg]
theorem Bu (t b:Int):dvr t b ∣ t/\dvr t b ∣ b:=by
 have h1:gc t b ∣ t:=Int.gcd_dvd_left t b;have h2:gc t b ∣ b:=Int.gcd_dvd_right t b;unfold dvr;split
 ·exact⟨Int.neg_dvd.mpr h1,Int.neg_dvd.mpr h2⟩
 ·exact⟨h1,h2⟩
theorem kB {t b:Int}(h:b≠0):t=dvr t b*(red t b).1/\b=dvr t b*(red t b).2:=by
 obtain⟨⟨x,hx⟩,⟨y,hy⟩⟩:=Bu t b;have hg:=jM (t:=t) h;have e1:(red t b).1=x:=lZ hg hx;have e2:(red t b).2=y:=lZ hg hy;rw[e1,e2];exact⟨hx,hy⟩
theorem gQ {t b:Int}(h:b≠0):Low (red t b):=by
 obtain⟨h1,h2⟩:=kB (t:=t) h;have hg:=jM (t:=t) h;have hp:=xW (a:=t) h;have nd:(dvr t b).natAbs=(gc t b).natAbs:=by unfold dvr;split<;>simp
 have e:Int.gcd t b=(dvr t b).natAbs*Int.gcd (red t b).1 (red t b).2:=by
  rw[<- Int.gcd_mul_left,<- h1,<- h2]
 have e2:(gc t b).natAbs=Int.gcd t b:=by unfold gc;simp
 rw[nd,e2] at e;have hp':0 < Int.gcd t b:=by unfold gc at hp;omega
 have one:Int.gcd (red t b).1 (red t b).2=1:=by
  have:Int.gcd t b*Int.gcd (red t b).1 (red t b).2=Int.gcd t b*1:=by omega
  exact Nat.eq_of_mul_eq_mul_left hp' this
 refine⟨?_,by unfold gc;rw[one];rfl⟩;have sgn:0 < (red t b).2:=by
  by_cases hb:b < 0
  ·have hd:dvr t b < 0:=by unfold dvr;rw[if_pos hb];omega
   have hq:¬(red t b).2<=0:=fun q=>by
    have:=Int.mul_nonneg_of_nonpos_of_nonpos (Int.le_of_lt hd) q;omega
   omega
  ·have hd:0 < dvr t b:=by unfold dvr;rw[if_neg hb];omega
   have hq:¬(red t b).2<=0:=fun q=>by
    have:=Int.mul_nonpos_of_nonneg_of_nonpos (Int.le_of_lt hd) q;omega
   omega
 omega
theorem nB {t b:Int}(h:b≠0):(red t b).1*b=t*(red t b).2:=by
 obtain⟨h1,h2⟩:=kB (t:=t) h;generalize (red t b).1=x at *
 generalize (red t b).2=y at *
 generalize dvr t b=g at *
 subst h1 h2;grind
theorem gF {a g k:Int}(hg:g≠0)(h:a=g*k):k.natAbs<=a.natAbs:=by
 rw[h,Int.natAbs_mul];exact Nat.le_mul_of_pos_left _ (by omega)
theorem oZ {t b:Int}(h:b≠0):(red t b).1.natAbs<=t.natAbs/\(red t b).2.natAbs<=b.natAbs:=by
 obtain⟨h1,h2⟩:=kB (t:=t) h;exact⟨gF (jM h) h1,gF (jM h) h2⟩
theorem zL {t b:Int}(h:b≠0):(dvr t b).natAbs<=b.natAbs:=by
 have e:(dvr t b).natAbs=Int.gcd t b:=by unfold dvr gc;split<;>simp
 rw[e];exact Int.gcd_le_natAbs_right t h
theorem yD {p q:Q2}(hp:Low p)(hq:Low q)(h:p.1*q.2=q.1*p.2):p=q:=by
 have gp:Int.gcd p.2 p.1=1:=by have:=hp.one;rw[Int.gcd_comm];unfold gc at this;omega
 have gq:Int.gcd q.2 q.1=1:=by have:=hq.one;rw[Int.gcd_comm];unfold gc at this;omega
 have d1:p.2 ∣ q.2:=by
  have:p.2 ∣ p.1*q.2:=⟨q.1,by rw[h,Int.mul_comm]⟩
  have:=Int.dvd_gcd_mul_iff_dvd_mul.mpr this;rw[gp] at this;simpa using this
 have d2:q.2 ∣ p.2:=by
  have:q.2 ∣ q.1*p.2:=⟨p.1,by rw[<- h,Int.mul_comm]⟩
  have:=Int.dvd_gcd_mul_iff_dvd_mul.mpr this;rw[gq] at this;simpa using this
 have l1:=Int.le_of_dvd (by have:=hq.pos;omega) d1;have l2:=Int.le_of_dvd (by have:=hp.pos;omega) d2;have e2:p.2=q.2:=by omega
 have e1:p.1=q.1:=by
  rw[e2] at h;exact Int.eq_of_mul_eq_mul_right (by have:=hq.pos;omega) h
 exact Prod.ext e1 e2
def dQ (p q:Q2):Q2:=red (p.1*q.2+q.1*p.2) (p.2*q.2)
def tot (l:List Q2):Q2:=l.foldl dQ (0,1)
theorem lB {a b:Int}(ha:1<=a)(hb:1<=b):a*b≠0:=by
 have:=Int.mul_pos (show 0 < a by omega) (show 0 < b by omega);omega
theorem gK {p q:Q2}(hp:1<=p.2)(hq:1<=q.2):Low (dQ p q):=gQ (lB hp hq)
def B (n:Nat)(i:Int):Prop:=i.natAbs < 2 ^ n
structure Bd (n:Nat) (p:Q2):Prop where
 a:B n p.1
 b:B n p.2
theorem B.mono {n m:Nat}{i:Int}(h:B n i)(l:n<=m):B m i:=Nat.lt_of_lt_of_le h (Nat.pow_le_pow_right (by decide) l)
theorem B.mul {n m:Nat}{i j:Int}(h:B n i)(q:B m j):B (n+m) (i*j):=by
 unfold B at *
 rw[Int.natAbs_mul,Nat.pow_add];exact Nat.mul_lt_mul'' h q
theorem B.add {n:Nat}{i j:Int}(h:B n i)(q:B n j):B (n+1) (i+j):=by
 unfold B at *
 have:=Int.natAbs_add_le i j;rw[Nat.pow_succ];omega
theorem B.le {n:Nat}{i j:Int}(h:B n i)(l:j.natAbs<=i.natAbs):B n j:=Nat.lt_of_le_of_lt l h
theorem Bd.mono {n m:Nat}{p:Q2}(h:Bd n p)(l:n<=m):Bd m p:=⟨h.a.mono l,h.b.mono l⟩
theorem oY {n m:Nat}{p q:Q2}(h:Bd n p)(g:Bd m q)(hp:1<=p.2)(hq:1<=q.2):Bd (n+m+1) (dQ p q):=by
 have k:=oZ (t:=p.1*q.2+q.1*p.2) (lB hp hq);have a2:B (n+m) (q.1*p.2):=by rw[Nat.add_comm];exact g.a.mul h.b
 exact⟨((h.a.mul g.b).add a2).le k.1,((h.b.mul g.b).mono (Nat.le_succ _)).le k.2⟩
def Pos (l:List Q2):Prop:=∀f∈l,1<=f.2
theorem wQ {l:List Q2}:∀{p:Q2},Low p->Pos l->Low (l.foldl dQ p):=by
 induction l with
 |nil=>intro p h _;exact h
 |cons x r ih=>intro p h k;exact ih (gK h.pos (k x (by simp))) fun f hf=>k f (by simp[hf])
theorem yX:Low (0,1):=⟨Int.le_refl 1,rfl⟩
theorem pR {l:List Q2}(h:Pos l):Low (tot l):=wQ yX h
end Mq
namespace L2
open PySem PySem.Spec PyProof.Rows
structure bS (K:PySem.W.Frag) (x qual:Str) (st:Stmt) (dV:Value) (f:Addr) (fd:FuncData):Prop where
 ex:∃(oc:Value) (od:Option Addr) (kV doc pm:Value) (an:Option Addr) (cdv ct:Value) (osl:Array (Option Value)),
  fd=PySem.W.fnOf x qual (aP st) (aJ st) (aE st) dV kV doc pm an cdv ct/\K.lookup f=some ⟨oc,od,.func fd,osl⟩/\PySem.W.codeIn K cdv qual=true
 kp:PySem.W.keepIn K (.ref f)=true
section
variable {P:Program} {w:World} {K:PySem.W.Frag} {mg:Str->Option Value} {base:Heap} {CX:CXT}
theorem bS.okX {x qual:Str}{st:Stmt}{dV:Value}{f:Addr}{fd:FuncData}{N ps:List Str}{k:Nat}{sp:Sp}(F:bS K x qual st dV f fd)(S:aS N ps (aE st))(len:∀vs H Q E,sp vs H Q E->vs.length=ps.length)(hbody:∀(cdv:Value) (A:Around) (outer:List Env) (s:Shared) (H:Hp) (vs:List V) (Q:VK) (E:XK),dH k (A.deeper (envOfC qual (aE st) s.heap.objs.size f cdv))->sp vs H Q E->
   ∃t,PSs (mX CX P w K mg base N qual (aE st) f cdv A outer s H E) (aJ st) t/\t { nx:=fun _ H'=>Q .non H',rt:=Q } (start N vs) H):aK P w K mg base CX (k+1) f fd ps sp:=by
 obtain⟨oc,od,kV,doc,pm,an,cdv,ct,osl,rfl,lk,hcd⟩:=F.ex;exact Gk lk hcd S len fun A outer s H vs Q E hr hsp=>hbody cdv A outer s H vs Q E hr hsp
theorem bS.ok {x qual:Str}{st:Stmt}{dV:Value}{f:Addr}{fd:FuncData}{N ps:List Str}{k:Nat}{sp:Sp}(F:bS K x qual st dV f fd)(S:aS N ps (aE st))(len:∀vs H Q E,sp vs H Q E->vs.length=ps.length)(hbody:∀(cdv:Value) (A:Around) (outer:List Env) (s:Shared) (H:Hp) (vs:List V) (Q:VK) (E:XK),dH k (A.deeper (envOfC qual (aE st) s.heap.objs.size f cdv))->sp vs H Q E->
   ∃t,PSs (mX CX P w K mg base N qual (aE st) f cdv A outer s H E).nox (aJ st) t/\t { nx:=fun _ H'=>Q .non H',rt:=Q } (start N vs) H):aK P w K mg base CX (k+1) f fd ps sp:=
 F.okX S len fun cdv A outer s H vs Q E hr hsp=>by
  obtain⟨t,h,q⟩:=hbody cdv A outer s H vs Q E hr hsp;exact⟨t,h.nox,q⟩
theorem bS.binds {x qual:Str}{st:Stmt}{dV:Value}{f:Addr}{fd:FuncData}{ps:List Str}(F:bS K x qual st dV f fd)(h:∀(kV doc pm:Value) (an:Option Addr) (cdv ct:Value) (us:List Value),us.length=ps.length->bindArgs (PySem.W.fnOf x qual (aP st) (aJ st) (aE st) dV kV doc pm an cdv ct) ⟨us,[]⟩=pure (ps.zip us)):aR K fd ps []:=by
 obtain⟨oc,od,kV,doc,pm,an,cdv,ct,osl,rfl,lk,hcd⟩:=F.ex;exact .all (h kV doc pm an cdv ct)
theorem aW {x qual:Str}{st:Stmt}{dV:Value}{f:Addr}{oc:Value}{od an:Option Addr}{osl:Array (Option Value)}{kV doc pm cdv ct:Value}(l:K.lookup f=some ⟨oc,od,.func (PySem.W.fnOf x qual (aP st) (aJ st) (aE st) dV kV doc pm an cdv ct),osl⟩)(c:PySem.W.codeIn K cdv qual=true)(k:PySem.W.keepIn K (.ref f)=true):bS K x qual st dV f (PySem.W.fnOf x qual (aP st) (aJ st) (aE st) dV kV doc pm an cdv ct):=⟨⟨oc,od,kV,doc,pm,an,cdv,ct,osl,rfl,l,c⟩,k⟩
end
abbrev fT (p:Mq.Q2):HO:=.tup [.int p.1,.int p.2]
def Fq (K:PySem.W.Frag)(H:Hp)(a:Addr)(p:Mq.Q2):Prop:=SqT K H a [.int p.1,.int p.2]
theorem bA.seqT {K:PySem.W.Frag}{H H':Hp}{a:Addr}{xs:List V}(e:bA H H')(h:SqT K H a xs):SqT K H' a xs:=by
 rcases h with (h | ⟨o,h⟩) | h
 ·exact .inl (.inl (e _ _ h))
 ·exact .inl (.inr ⟨o,e _ _ h⟩)
 ·exact .inr h
theorem aH {H:Hp}{p:Addr}(h:H p=none)(o:HO):bA H (upd H p o):=fun b u q=>by rw[aU (bD q h)];exact q
theorem bA.fq {K:PySem.W.Frag}{H H':Hp}{a:Addr}{p:Mq.Q2}(e:bA H H')(h:Fq K H a p):Fq K H' a p:=e.seqT h
theorem Fq.of {K:PySem.W.Frag}{H:Hp}{a:Addr}{p:Mq.Q2}(h:H a=some (fT p)):Fq K H a p:=SqT.of h
theorem dJ {K:PySem.W.Frag}{σ:St}{H:Hp}{i:Nat}{a:Addr}{p:Mq.Q2}{Q:VK}(hv:σ[i]?=some (some (.ref a)))(h:Fq K H a p)(q:Q (.int p.1) H):tOp (Ax K) (Bf i) (tC (.int 0)) σ H Q:=
 ⟨_,hv,a,_,_,_,rfl,rfl,h,rfl,q⟩
theorem cD {K:PySem.W.Frag}{σ:St}{H:Hp}{i:Nat}{a:Addr}{p:Mq.Q2}{Q:VK}(hv:σ[i]?=some (some (.ref a)))(h:Fq K H a p)(q:Q (.int p.2) H):tOp (Ax K) (Bf i) (tC (.int 1)) σ H Q:=
 ⟨_,hv,a,_,_,_,rfl,rfl,h,rfl,q⟩
theorem cK {H:Hp}{n m:Nat}{i j:Int}{Q:VK}(h1:Mq.B n i)(h2:Mq.B m j)(h3:n<=1048576)(h4:m<=1048576)(q:Q (.int (i*j)) H):rI Be (fun i j=>.int (i*j)) (.int i) (.int j) H Q:=
 ⟨_,_,rfl,rfl,⟨n,m,h1,h2,h3,h4⟩,q⟩
theorem dR {H:Hp}{n:Nat}{i j:Int}{Q:VK}(h1:j≠0)(h2:Mq.B n j)(h3:n<=9000)(q:Q (.int (i.fdiv j)) H):rI uE (fun i j=>.int (i.fdiv j)) (.int i) (.int j) H Q:=
 ⟨_,_,rfl,rfl,⟨h1,n,h2,h3⟩,q⟩
structure Bl (mg:Str->Option Value):Prop where
 isi:mg "isinstance"=none
 int:mg "int"=none
 bool:mg "bool"=none
 abs:mg "abs"=none
def lT (t:Value):Prop:=t=.type "bool"\/t=.type "str"\/t=.type "NoneType"\/t=.type "tuple"\/t=.type "list"
def jD (K:PySem.W.Frag):Sp:=fun vs H Q _=>∃x,vs=[x]/\((∃i,x=.int i/\Q (.bl true) H)\/(∃t,hJ K H x t/\lT t/\Q (.bl false) H))
def Dt:Sp:=fun vs H Q _=>∃a b:Int,vs=[.int a,.int b]/\Q (.int (Mq.gc a b)) H
def vX (H:Hp)(Q:VK)(p:Mq.Q2):Prop:=∀a H',bA H H'->H' a=some (fT p)->Q (.ref a) H'
def jH:Sp:=fun vs H Q _=>∃(t b:Int) (n:Nat),vs=[.int t,.int b]/\b≠0/\Mq.B n b/\n<=9000/\vX H Q (Mq.red t b)
def nV (K:PySem.W.Frag)(f:Mq.Q2->Mq.Q2->Mq.Q2):Sp:=fun vs H Q _=>∃(a b:Addr) (p q:Mq.Q2) (n m:Nat),vs=[.ref a,.ref b]/\Fq K H a p/\Fq K H b q/\1<=p.2/\1<=q.2/\Mq.Bd n p/\Mq.Bd m q/\n+m+1<=9000/\vX H Q (f p q)
inductive Fqs (K:PySem.W.Frag) (H:Hp):List V->List Mq.Q2->Prop where
 |nil:Fqs K H [] []
 |cons {a:Addr} {p:Mq.Q2} {xs:List V} {ps:List Mq.Q2} (h:Fq K H a p) (q:Fqs K H xs ps):Fqs K H (.ref a :: xs) (p :: ps)
theorem Fqs.length {K:PySem.W.Frag}{H:Hp}:∀{xs:List V} {ps:List Mq.Q2},Fqs K H xs ps->xs.length=ps.length
 |_,_,.nil=>rfl
 |_,_,.cons _ q=>by simp[Fqs.length q]
theorem Fqs.get {K:PySem.W.Frag}{H:Hp}:∀{xs:List V} {ps:List Mq.Q2} {i:Nat} {x:V},Fqs K H xs ps->xs[i]?=some x->∃a p,x=.ref a/\ps[i]?=some p/\Fq K H a p
 |_,_,_,_,.nil,h=>by simp at h
 |_,_,0,_,.cons h _,e=>by simp at e;exact⟨_,_,e.symm,rfl,h⟩
 |_,_,i+1,_,.cons _ q,e=>by simpa using Fqs.get q (by simpa using e)
theorem Fqs.app {K:PySem.W.Frag}{H:Hp}:∀{xs ys:List V} {ps qs:List Mq.Q2},Fqs K H xs ps->Fqs K H ys qs->Fqs K H (xs++ys) (ps++qs)
 |_,_,_,_,.nil,r=>r
 |_,_,_,_,.cons h q,r=>.cons h (Fqs.app q r)
theorem Fq.upd {K:PySem.W.Frag}{H:Hp}{a l:Addr}{p:Mq.Q2}{xs:List V}{o:HO}(h:Fq K H a p)(hl:H l=some (.lst xs)):Fq K (L2.upd H l o) a p:=by
 rcases h with (h | ⟨u,h⟩) | h
 ·exact .inl (.inl (by rw[aU (fY h hl (fun z=>by cases z))];exact h))
 ·exact .inl (.inr ⟨u,by rw[aU (fY h hl (fun z=>by cases z))];exact h⟩)
 ·exact .inr h
theorem Fqs.upd {K:PySem.W.Frag}{H:Hp}{l:Addr}{ys:List V}{o:HO}(hl:H l=some (.lst ys)):∀{xs:List V} {ps:List Mq.Q2},Fqs K H xs ps->Fqs K (L2.upd H l o) xs ps
 |_,_,.nil=>.nil
 |_,_,.cons h q=>.cons (h.upd hl) (Fqs.upd hl q)
theorem bA.change {H H':Hp}{l:Addr}{o:HO}(s:bA H H')(h:H l=none):bA H (L2.upd H' l o):=fun b u q=>by
 rw[aU (bD q h)];exact s b u q
def qd (p:Mq.Q2):PyData:=.tuple [.int p.1,.int p.2]
theorem Fq.dat {K:PySem.W.Frag}{H:Hp}{a:Addr}{p:Mq.Q2}(h:Fq K H a p):jE K H (.ref a) (qd p):=.tup h (.cons (.int _) (.cons (.int _) .nil))
theorem mF (p:Mq.Q2):(qd p).canLay0=true:=rfl
theorem pZ (p:Mq.Q2):(qd p).depth<=1:=by simp[qd,PyData.depth,PyData.depthAll]
theorem Cu (p q:Mq.Q2):PyData.eqv (qd p) (qd q)=decide (p=q):=by
 unfold qd;simp only[PyData.eqv,PyData.eqvAll]
 by_cases h:p=q
 ·subst h;simp
 ·rw[decide_eq_false h]
  by_cases h1:p.1=q.1
  ·have h2:p.2≠q.2:=fun z=>h (Prod.ext h1 z);simp[h2]
  ·simp[h1]
theorem Eo {K:PySem.W.Frag}{H:Hp}{a b:Addr}{p q:Mq.Q2}{neg:Bool}{Q:VK}(h1:Fq K H a p)(h2:Fq K H b q)(z:Q (.bl (if neg then !decide (p=q) else decide (p=q))) H):pU K neg (.ref a) (.ref b) H Q:=by
 refine⟨_,_,h1.dat,h2.dat,mF p,mF q,?_,?_⟩
 ·have:=pZ p;omega
 ·rw[Cu];exact z
end L2
set_option maxHeartbeats 2000000
namespace L2
open PySem PySem.Spec PyProof.Rows
abbrev yN (nl:Nat)(fr:List Nat)(g:TG)(tt:TT)(te:TE)(σ:St)(D:Addr)(Pv:Nat->List V->Hp->Prop)(i:Nat)(ys:List V)(x:V)(H:Hp):Prop:=
 g x (σC nl fr σ) H fun σ2 H4=>σ2.length=(σC nl fr σ).length/\(∀(i:Nat) v,(σC nl fr σ)[i]?=some (some v)->σ2[i]?=some (some v))/\
  tt σ2 H4 fun b H5=>if b=true then te σ2 H5 fun y H6=>H6 D=some (.lst ys)/\ys.length < sizeLine/\Pv (i+1) (ys++[y]) (upd H6 D (.lst (ys++[y]))) else Pv (i+1) ys H5
section
variable {nl:Nat} {fr:List Nat} {g:TG} {tt:TT} {te:TE} {σ:St} {D:Addr} {H1:Hp} {Q:VK}
theorem lO {lo:Int}{n:Nat}(Pv:Nat->List V->Hp->Prop)(h0:Pv 0 [] (upd H1 D (.lst [])))(hl:∀i ys H,Pv i ys H->H D=some (.lst ys))(hs:∀i ys H,i < n->Pv i ys H->∀(C:Nat->List V->Hp->Prop),(∀ys H,Pv (i+1) ys H->C (i+1) ys H)->yN nl fr g tt te σ D C i ys (.int (lo+i)) H)(hd:∀ys H,Pv n ys H->Q (.ref D) H) :
  uL (Itr lo n) nl fr g tt te σ D H1 Q:=by
 refine⟨fun i m ys H=>m=n - i/\i<=n/\Pv i ys H,⟨n,by simp,Nat.zero_le _,h0⟩,?_⟩;rintro i m ys H ⟨rfl,hi,p⟩;refine⟨hl i ys H p,?_⟩
 by_cases hlt:i < n
 ·refine .inr ⟨hlt,fun x H' y=>?_⟩;obtain⟨e,y⟩:=y;subst e y;exact hs i ys _ hlt p (fun j zs Hz=>∃m',m' < n - i/\m'=n - j/\j<=n/\Pv j zs Hz) fun zs Hz z=>⟨n - (i+1),by omega,rfl,hlt,z⟩
 ·have e:i=n:=by omega
  subst e;exact .inl ⟨Nat.le_refl _,hd ys H p⟩
theorem gW {K:PySem.W.Frag}{a:Addr}{xs:List V}(Pv:Nat->List V->Hp->Prop)(h0:Pv 0 [] (upd H1 D (.lst [])))(hl:∀i ys H,Pv i ys H->H D=some (.lst ys))(hx:∀i ys H,i<=xs.length->Pv i ys H->SqL K H a xs)(hs:∀i ys x H,xs[i]?=some x->Pv i ys H->∀(C:Nat->List V->Hp->Prop),(∀ys H,Pv (i+1) ys H->C (i+1) ys H)->yN nl fr g tt te σ D C i ys x H)(hd:∀ys H,Pv xs.length ys H->Q (.ref D) H) :
  uL (Itl K a) nl fr g tt te σ D H1 Q:=by
 refine⟨fun i m ys H=>m=xs.length - i/\i<=xs.length/\Pv i ys H,⟨xs.length,by simp,Nat.zero_le _,h0⟩,?_⟩;rintro i m ys H ⟨rfl,hi,p⟩;refine⟨hl i ys H p,?_⟩;have q:=hx i ys H hi p
 by_cases hlt:i < xs.length
 ·refine .inr ⟨⟨xs,xs[i],q,by simp[hlt]⟩,fun x H' y=>?_⟩;obtain⟨e,y⟩:=y;subst e;exact hs i ys x _ (y xs q) p (fun j zs Hz=>∃m',m' < xs.length - i/\m'=xs.length - j/\j<=xs.length/\Pv j zs Hz) fun zs Hz z=>⟨xs.length - (i+1),by omega,rfl,hlt,z⟩
 ·have e:i=xs.length:=by omega
  subst e;exact .inl ⟨⟨xs,q,Nat.le_refl _⟩,hd ys H p⟩
end
theorem hZ {fr:List Nat}{σ:St}{x:V}:((σC 1 fr σ).set 0 (some x)).length=(σC 1 fr σ).length/\∀(i:Nat) v,(σC 1 fr σ)[i]?=some (some v)->((σC 1 fr σ).set 0 (some x))[i]?=some (some v):=by
 refine⟨by simp,fun i v h=>?_⟩
 match i with
 |0=>unfold σC at h;simp at h
 |k+1=>rw[List.getElem?_set_ne (by omega)];exact h
theorem iH {names:List (Str × NameKind)}{cl:List (Str × Addr)}(h:names.all (fun y=>!(y.2 == .cell || y.2 == .free) || (cl.lookup y.1).isSome)=true)(x:Str)(hx:names.lookup x=some .cell\/names.lookup x=some .free):∃c,cl.lookup x=some c:=by
 have key:∀k,(k=NameKind.cell\/k=NameKind.free)->names.lookup x=some k->∃c,cl.lookup x=some c:=fun k hk e=>by
  have m:=List.all_eq_true.mp h _ (PySem.mem_of_lookup e);have:(k == NameKind.cell || k == NameKind.free)=true:=by rcases hk with rfl | rfl<;>rfl
  simp only[this,Bool.not_true,Bool.false_or] at m;exact Option.isSome_iff_exists.mp m
 rcases hx with e | e
 ·exact key _ (.inl rfl) e
 ·exact key _ (.inr rfl) e
section
variable {X:Cx} {pins:List (Addr × Obj)} {σ:St} {H:Hp} {s:Shared} {h':Heap}
theorem Inv.turnedL {t':Nat}{fp:List Addr}(I:Inv X pins σ H s)(k:∀b o,b∉fp->s.heap.get? b=some o->h'.get? b=some o)(hf:∀b∈fp,iD X pins H b):Inv X pins σ H { s with heap:=h',toks:=t' }:=by
 have nit:∀b u,H b=some u->b∉fp:=fun b u e z=>by rw[(hf b z).1] at e;cases e
 have nL:X.env.locals∉fp:=fun z=>(hf _ z).2.1 rfl;refine I.step (g':=s.gens) (d':=s.drawn) (ch:=fp) (fun b hb=>?_) (fun b o _ _ hc e _=>k b o hc e) (fun b o _ _ hc e _=>⟨o.slots,k b o hc e⟩) (fun _ _ _ _ n=>n)
  (fun b o hc e=>⟨o,k b o hc e⟩) (fun _ _ e=>e) (fun _ _ _ e=>e) (fun b ps e=>⟨#[],by rw[e];simp⟩) (fun m hm=>?_) (fun b u e=>?_) I.bare
 ·obtain⟨f0,f1,f2,f3,f4,f5⟩:=hf b hb;exact⟨f3,f1,f4,f5⟩
 ·obtain⟨o,es,ep,ho,r⟩:=hm;exact⟨o,es,ep,k _ o nL ho,r⟩
 ·refine(I.hok b u e).stay (fun c v hc q=>k c v ?_ q) (fun _ q=>q) fun _ _ q=>q;rcases hc with z | z
  ·rw[z];exact nit b u e
  ·exact nit c _ z
end
end L2
set_option maxHeartbeats 1000000
namespace L2
open PySem PySem.Spec PyProof.Rows
def Tb (h0:Heap)(H:Hp)(h:Heap)(a:Addr)(v:Value):Prop:=
 v=.none\/∃T oT ts,v=.ref T/\T≠a/\h0.get? T=none/\H T=none/\h.get? T=some oT/\oT.data=.fields ts/\ts[3]?=some .none
structure Fl (h0:Heap) (H:Hp) (h:Heap) (a:Addr) (C:Value) (d:Option Addr):Prop where
 new:h0.get? a=none
 free:H a=none
 at_:∃oe vs v,h.get? a=some oe/\oe.cls=C/\oe.dict=d/\oe.data=.fields vs/\vs[1]?=some v/\Tb h0 H h a v
theorem Fl.older {h0 h1:Heap}{H:Hp}{h:Heap}{a:Addr}{C:Value}{d:Option Addr}(F:Fl h0 H h a C d)(k:∀b,h0.get? b=none->h1.get? b=none):Fl h1 H h a C d:=by
 obtain⟨n,f,oe,vs,v,e1,e2,e3,e4,e5,t⟩:=F;refine⟨k _ n,f,oe,vs,v,e1,e2,e3,e4,e5,?_⟩;rcases t with t | ⟨T,oT,ts,t1,t2,t3,t4⟩
 ·exact .inl t
 ·exact .inr ⟨T,oT,ts,t1,t2,k _ t3,t4⟩
theorem mE (f:Array Value->Array Value)(o:Obj):(o.mapFields f).dict=o.dict:=by
 obtain⟨c,d,dt,sl⟩:=o
 cases dt<;>rfl
section
variable {M:Model} {A:Around} {E:Value->Shared->Prop} {s:Shared}
theorem oB {base:Heap}{env:Env}{outer:List Env}{L e:Addr}{oe:Obj}{vs:Array Value}{head:Value}{hadNext:Bool}{Q:Unit->Shared->Prop}(hfr:A.frames=some (env :: outer))(hl:s.heap.FunFrames base (env :: outer))(hf:env.frame=some L)(he:s.heap.get? e=some oe)(hd:oe.data=.fields vs)(hsz:1 < vs.size)(h:∀h' T oT ts,s.heap.objs.size<=T->(∀b o,b∉frs (env :: outer)->b≠e->s.heap.get? b=some o->h'.get? b=some o)->(∀b o,b∈frs (env :: outer)->s.heap.get? b=some o->∃sl,h'.get? b=some { o with slots:=sl })->
   h'.get? e=some (oe.mapFields (·.setIfInBounds 1 (.ref T)))->h'.get? T=some oT->oT.data=.fields ts->ts[3]?=some .none->T≠e->Q () { s with heap:=h' }) :
  wpAny M A (do let a <- frameOf env;let pl <- entryPlaceOf L hadNext;let b <- EntryCells.newEntry head a .none (rawInt L) .none pl;setField (.ref e) 1 b) (fun _ s'=>wpAny M A (setFlight (.ref e) none) Q E s') E s:=by
 have hene:e∉frs (env :: outer):=fun hm=>by
  obtain⟨_,o,ho,hnf⟩:=hl.mem hm;rw[he] at ho;injection ho with ho;subst ho;exact hnf vs hd
 refine wpAny_bind (wpAny_frameOf_fun hfr hl hf fun h₁ hs₁=>?_);refine wpAny_bind (wpAny_entryPlaceOf fun pl hpl=>?_);unfold EntryCells.newEntry newFields;refine wpAny_bind (wpAny_newObj_type ?_ (hpl.sizeOk5 _ _ _ _ _));have he₁:h₁.get? e=some oe:=(hs₁.2.1 e hene).trans he;have he₂:=Heap.get?_push_of_some (h:=h₁) { cls:=.type "traceback",dict:=none,data:=.fields ([head,.ref L,.none,rawInt L,.none]++(if pl.isEmpty then List.replicate 6 Value.none else pl)).toArray } he₁;refine wpAny_setField he₂ hd hsz ?_;have hTe:h₁.objs.size≠e:=Nat.ne_of_gt (Heap.lt_size he₁);have hd₃:=Obj.data_mapFields hd (·.setIfInBounds 1 (Value.ref h₁.objs.size));have he₃:=Heap.get?_update_self (Obj.mapFields (·.setIfInBounds 1 (Value.ref h₁.objs.size))) he₂ (Obj.isFreed_of_fields hd₃);have hT₃:=(Heap.get?_update_other (h₁.push { cls:=.type "traceback",dict:=none,data:=.fields ([head,.ref L,.none,rawInt L,.none]++(if pl.isEmpty then List.replicate 6 Value.none else pl)).toArray })
  (Obj.mapFields (·.setIfInBounds 1 (Value.ref h₁.objs.size))) (Ne.symm hTe)).trans (Heap.get?_push_size h₁ rfl)
 unfold setFlight;refine wpAny_bind (wpAny_field he₃ hd₃ (x:=.ref h₁.objs.size) (by simp[hsz]) ?_);rw[if_pos (show (Value.ref h₁.objs.size != Value.none)=true from by simp)];have keep:∀b o,b≠e->h₁.get? b=some o->
   (((h₁.push { cls:=.type "traceback",dict:=none,data:=.fields ([head,.ref L,.none,rawInt L,.none]++(if pl.isEmpty then List.replicate 6 Value.none else pl)).toArray }).update e (Obj.mapFields (·.setIfInBounds 1 (Value.ref h₁.objs.size)))).update h₁.objs.size
    (Obj.mapFields (·.setIfInBounds 3 ((none:Option Addr).elim Value.none fun f=>rawInt f)))).get? b=some o:=fun b o hbe hb=>by
  have hbT:h₁.objs.size≠b:=Nat.ne_of_gt (Heap.lt_size hb);rw[Heap.get?_update_other _ _ hbT,Heap.get?_update_other _ _ (Ne.symm hbe)];exact Heap.get?_push_of_some _ hb
 refine wpAny_setField hT₃ rfl (by simp only[List.size_toArray,List.length_append,List.length_cons,List.length_nil]<;>omega) (h _ h₁.objs.size _ _ (Nat.le_of_eq hs₁.1.symm) ?_ ?_ ?_
  (Heap.get?_update_self _ hT₃ (Obj.isFreed_of_fields (Obj.data_mapFields rfl _))) (Obj.data_mapFields rfl _) ?_ hTe)
 ·exact fun b o hb hbe q=>keep b o hbe ((hs₁.2.1 b hb).trans q)
 ·intro b o hb q;obtain⟨sl,e1⟩:=hs₁.2.2 b o q;exact⟨sl,keep b _ (fun z=>hene (z ▸ hb)) e1⟩
 ·rw[Heap.get?_update_other _ _ hTe];exact he₃
 ·first | (simp;done) | (rcases hpl with rfl | ⟨_,_,_,_,_,_,_,rfl⟩<;>simp)
theorem xU {base h0:Heap}{H:Hp}{env:Env}{outer:List Env}{L e:Addr}{C:Value}{d:Option Addr}{Q:Unit->Shared->Prop}(hfr:A.frames=some (env :: outer))(hl:s.heap.FunFrames base (env :: outer))(hf:env.frame=some L)(F:Fl h0 H s.heap e C d)(hnew:∀b,s.heap.objs.size<=b->h0.get? b=none/\H b=none)(h:∀(h':Heap) (ch:List Addr),(∀b∈ch,h0.get? b=none/\H b=none/\∃o vs,s.heap.get? b=some o/\o.data=.fields vs)->(∀b o,b∉frs (env :: outer)->b∉ch->s.heap.get? b=some o->h'.get? b=some o)->
   (∀b o,b∈frs (env :: outer)->s.heap.get? b=some o->∃sl,h'.get? b=some { o with slots:=sl })->Fl h0 H h' e C d->Q () { s with heap:=h' }) :
  wpAny M A (noteFrame (.ref e) env) (fun _ s'=>wpAny M A (setFlight (.ref e) none) Q E s') E s:=by
 obtain⟨n,f,oe,vs,v,e1,e2,e3,e4,e5,t⟩:=F;have hsz:1 < vs.size:=(Array.getElem?_eq_some_iff.mp e5).1;have fin:∀{h':Heap} {T:Addr} {oT:Obj} {ts:Array Value},s.heap.objs.size<=T->h'.get? e=some (oe.mapFields (·.setIfInBounds 1 (.ref T)))->h'.get? T=some oT->oT.data=.fields ts->ts[3]?=some .none->T≠e->Fl h0 H h' e C d:=by
  intro h' T oT ts z he hT hd h3 hTe;refine⟨n,f,_,_,.ref T,he,?_,?_,Obj.data_mapFields e4 _,by simp[hsz],.inr ⟨T,oT,ts,rfl,hTe,(hnew T z).1,(hnew T z).2,hT,hd,h3⟩⟩
  ·rw[Obj.cls_mapFields];exact e2
  ·rw[mE];exact e3
 rcases t with rfl | ⟨T,oT,ts,rfl,t2,t3,t4,t5,t6,t7⟩
 ·unfold noteFrame;simp only[hf];refine wpAny_bind (wpAny_field e1 e4 e5 ?_);rw[if_neg (by decide)];refine oB hfr hl hf e1 e4 hsz fun h' T oT ts z k1 k2 he hT hd h3 hTe=>?_;refine h h' [e] (fun b hb=>?_) (fun b o h1 h2 q=>k1 b o h1 (fun w=>h2 (by simp[w])) q) k2 (fin z he hT hd h3 hTe);have hb:b=e:=by simpa using hb
  subst hb;exact⟨n,f,_,_,e1,e4⟩
 ·unfold noteFrame;simp only[hf];refine wpAny_bind (wpAny_field e1 e4 e5 ?_);rw[if_pos (show (Value.ref T != Value.none)=true from by simp)];refine wpAny_bind (wpAny_field t5 t6 t7 ?_);rw[if_neg (show ¬((Value.none == rawInt L)=true) from by simp[rawInt])];refine wpAny_bind (wpAny_setField t5 t6 (Array.getElem?_eq_some_iff.mp t7).1 ?_);have other:∀b,b≠T->(s.heap.update T (Obj.mapFields (·.setIfInBounds 3 Value.none))).get? b=s.heap.get? b:=fun b hb=>Heap.get?_update_other _ _ (Ne.symm hb);have noRecord:∀b o,s.heap.get? b=some o->(∀vs,o.data≠.fields vs)->b≠T:=fun b o hb hnf q=>by
   rw[q,t5] at hb;injection hb with hb;subst hb;exact hnf ts t6
  have nofr:∀b,b∈frs (env :: outer)->b≠T:=fun b hb=>by
   obtain⟨_,o,ho,hnf⟩:=hl.mem hb;exact noRecord b o ho hnf
  refine oB (s:={ s with heap:=s.heap.update T (Obj.mapFields (·.setIfInBounds 3 Value.none)) }) (base:=base) hfr (hl.of_keeps fun b o hb hnf=>⟨o,(other b (noRecord b o hb hnf)).trans hb,rfl⟩) hf ((other e (Ne.symm t2)).trans e1) e4 hsz
   fun h' T' oT' ts' z k1 k2 he hT hd h3 hTe=>?_
  have z':s.heap.objs.size<=T':=by
   have:=Heap.size_after_update s.heap T (Obj.mapFields (·.setIfInBounds 3 Value.none));exact Nat.le_trans (Nat.le_of_eq this.symm) z
  refine h h' [e,T] (fun b hb=>?_) (fun b o h1 h2 q=>?_) (fun b o hb q=>?_) (fin z' he hT hd h3 hTe)
  ·rcases List.mem_cons.mp hb with hb | hb
   ·subst hb;exact⟨n,f,_,_,e1,e4⟩
   ·have hb:b=T:=by simpa using hb
    subst hb;exact⟨t3,t4,_,_,t5,t6⟩
  ·exact k1 b o h1 (fun w=>h2 (by simp[w])) ((other b fun w=>h2 (by simp[w])).trans q)
  ·exact k2 b o hb ((other b (nofr b hb)).trans q)
end
section
variable {X:Cx} {pins:List (Addr × Obj)} {σ:List (Option V)} {H H':Hp} {s:Shared} {h':Heap}
theorem cB.ex {P:Program}{w:World}{h:Heap}{a:Addr}{o:HO}(x:cB P w H h a o):∃u,h.get? a=some u:=by
 cases o with
 |lst xs=>obtain⟨_,_,_,_,e⟩:=x;exact⟨_,e⟩
 |tup xs=>obtain⟨_,_,_,o,e,_⟩:=x;exact⟨_,e⟩
 |dK kvs=>obtain⟨_,_,_,_,o,_,_,e,_⟩:=x;exact⟨_,e⟩
 |dT kvs=>obtain⟨_,_,_,_,o,_,_,e,_⟩:=x;exact⟨_,e⟩
 |set S n=>obtain⟨o,_,_,_,e,_⟩:=x;exact⟨_,e⟩
 |ins C dx fs=>obtain⟨_,_,_,e,_⟩:=x;exact⟨_,e⟩
 |own y=>obtain⟨_,e⟩:=x;exact⟨_,e⟩
 |xd fs=>obtain⟨_,⟨_,_,_,e,_⟩,_⟩:=x;exact⟨_,e⟩
 |rng lo hi=>obtain⟨_,_,_,e⟩:=x;exact⟨_,e⟩
 |frz ob u=>obtain⟨e,_⟩:=x;exact⟨_,e⟩
 |tbl ps=>exact⟨_,(show h.get? a=some _ from x)⟩
 |met f y=>exact⟨_,(show h.get? a=some _ from x)⟩
 |ext φ=>obtain⟨_,⟨_,e⟩,_⟩:=x;exact⟨_,e⟩
theorem HOk.none_of {P:Program}{w:World}{h:Heap}{a:Addr}(x:HOk P w H h)(e:h.get? a=none):H a=none:=by
 cases q:H a with
 |none=>rfl
 |some o=>
  obtain⟨u,hu⟩:=(x a o q).ex;rw[e] at hu;cases hu
theorem Inv.stepN {g':Array GenState}{t':Nat}{d':Drawn}{ch:List Addr}(I:Inv X pins σ H s)(hch:∀b∈ch,X.s₀.heap.get? b=none/\b≠X.env.locals/\(∀x c,X.env.cells.lookup x=some c->c≠b)/\∀p∈X.pn++pins,p.1≠b)(keep:∀b o,b≠X.env.locals->b∉X.fs->b∉ch->s.heap.get? b=some o->H b=none->h'.get? b=some o)(slot:∀b o,b≠X.env.locals->b∈X.fs->b∉ch->s.heap.get? b=some o->H b=none->∃sl,h'.get? b=some { o with slots:=sl })(there:∀b o,b∉ch->s.heap.get? b=some o->∃o',h'.get? b=some o')(ns:∀m,s.heap.Ns X.env.locals m->h'.Ns X.env.locals m)(hok:HOk X.prog X.w H h')(hg:AllBare g') :
  Inv X pins σ H { s with heap:=h',gens:=g',drawn:=d',toks:=t' }:=by
 have neL:∀b o,X.s₀.heap.get? b=some o->b≠X.env.locals:=fun b o e=>Nat.ne_of_lt (Nat.lt_of_lt_of_le (Heap.lt_size e) I.ok.above);have neC:∀b o,X.s₀.heap.get? b=some o->b∉ch:=fun b o e hb=>by rw[(hch b hb).1] at e;cases e
 have cellK:∀x c,X.env.cells.lookup x=some c->∀v,s.heap.IsCell c v->h'.IsCell c v:=fun x c e v ⟨o,ho,hd⟩=>by
  have nch:c∉ch:=fun z=>(hch c z).2.2.1 x c e rfl
  by_cases hc:c∈X.fs
  ·obtain⟨sl,q⟩:=slot c o (I.cne x c e) hc nch ho (I.freeC x c e);exact⟨_,q,hd⟩
  ·exact⟨o,keep c o (I.cne x c e) hc nch ho (I.freeC x c e),hd⟩
 refine⟨I.ok,I.os,hg,⟨fun b o e n hb hx=>?_,fun b o e n hb hx=>?_,fun b o e n hx=>?_,fun b o e hx=>?_,fun b xs e=>I.base.tups b xs e,fun b o xs e=>I.base.frzs b o xs e,fun b ps e=>I.base.tbls b ps e⟩,?_,fun x c e=>?_,I.free,I.freeC,fun p hp=>?_,hok,I.len⟩
 ·exact keep b o (neL b o e) hb (neC b o e) (I.base.keep b o e n hb hx) (I.base.free b o e n hx)
 ·obtain⟨sl,e1⟩:=I.base.slot b o e n hb hx;obtain⟨sl',e2⟩:=slot b _ (neL b o e) hb (neC b o e) e1 (I.base.free b o e n hx);exact⟨sl',e2⟩
 ·exact I.base.free b o e n hx
 ·obtain⟨o',e1⟩:=I.base.there b o e hx;exact there b o' (neC b o e) e1
 ·obtain⟨m,hn,hl⟩:=I.loc;refine⟨m,ns m hn,fun i x v e1 e2 e3=>?_⟩;obtain⟨u,r,l⟩:=hl i x v e1 e2 e3;refine⟨u,r,?_⟩;rcases l with l | ⟨k,c,e,z⟩
  ·exact .inl l
  ·exact .inr ⟨k,c,e,cellK x c e _ z⟩
 ·obtain⟨v,z⟩:=I.cell x c e;exact⟨v,cellK x c e v z⟩
 ·obtain⟨e,n,ne,nf,d⟩:=I.pin p hp;have nch:p.1∉ch:=fun z=>(hch p.1 z).2.2.2 p hp rfl;exact⟨keep p.1 p.2 ne nf nch e n,n,ne,nf,d⟩
structure Frm (X:Cx):Prop where
 ex:X.ex=[]
 st:X.stack=X.env :: X.outer
 fr:X.env.frame=some X.env.locals
def mU (X:Cx)(pins:List (Addr × Obj))(σ:List (Option V))(H:Hp)(s:Shared)(a:Addr)(C:Value)(d:Option Addr):Prop:=
 Inv X pins σ H s/\∃h0:Heap,(∀p∈X.pn++pins,h0.get? p.1≠none)/\(∀b o,X.s₀.heap.get? b=some o->∃o',h0.get? b=some o')/\(∀b o,h0.get? b=some o->∃o',s.heap.get? b=some o')/\Fl h0 H s.heap a C d
theorem jK {h1 h2:Heap}(k:∀b o,h1.get? b=some o->∃o',h2.get? b=some o')(b:Addr)(e:h2.get? b=none):h1.get? b=none:=by
 cases q:h1.get? b with
 |none=>rfl
 |some o=>obtain⟨o',z⟩:=k b o q;rw[e] at z;cases z
theorem Bp {h:Heap}{b:Addr}(e:h.objs.size<=b):h.get? b=none:=Heap.get?_none_of_le e
theorem jQ {h:Heap}{b c:Addr}{o:Obj}{vs:Array Value}(e:h.get? b=some o)(hd:o.data=.fields vs){o':Obj}(e':h.get? c=some o')(hd':∀vs,o'.data≠.fields vs):b≠c:=by
 intro z;subst z;rw[e] at e';cases e';exact hd' vs hd
theorem tX {a:Addr}{C:Value}{d:Option Addr}{h0:Heap}(I:Inv X pins σ H s)(hp:∀p∈X.pn++pins,h0.get? p.1≠none)(hs:∀b o,X.s₀.heap.get? b=some o->∃o',h0.get? b=some o'){b:Addr}(hb:h0.get? b=none/\H b=none/\∃o vs,s.heap.get? b=some o/\o.data=.fields vs) :
  X.s₀.heap.get? b=none/\b≠X.env.locals/\(∀x c,X.env.cells.lookup x=some c->c≠b)/\∀p∈X.pn++pins,p.1≠b:=by
 obtain⟨h1,h2,o,vs,h3,h4⟩:=hb;refine⟨jK hs b h1,?_,fun x c e=>?_,fun p hq z=>hp p hq (by rw[z];exact h1)⟩
 ·obtain⟨m,⟨o',es,ep,ho',hd',_⟩,_⟩:=I.loc;exact jQ h3 h4 ho' fun vs z=>by rw[hd'] at z;cases z
 ·obtain⟨v,o',ho',hd'⟩:=I.cell x c e;exact Ne.symm (jQ h3 h4 ho' fun vs z=>by rw[hd'] at z;cases z)
theorem vD {A':Around}{E:Value->Shared->Prop}{a:Addr}{C:Value}{d:Option Addr}{Q:Unit->Shared->Prop}(hA:A'.frames=some X.stack)(fm:Frm X)(L:mU X pins σ H s a C d)(h:∀s',mU X pins σ H s' a C d->Q () s') :
  wpAny (model X.prog X.w) A' (noteFrame (.ref a) X.env) (fun _ s2=>wpAny (model X.prog X.w) A' (setFlight (.ref a) none) Q E s2) E s:=by
 obtain⟨I,h0,hp,hs,ht,F⟩:=L;have hstk:=I.stack;have hfree:=I.stkFree;rw[fm.st] at hA hstk hfree;have hfrs:frs (X.env :: X.outer)=X.env.locals :: X.fs:=by unfold frs;rw[List.filterMap_cons,fm.fr];rfl
 refine xU (base:=X.base) hA hstk fm.fr F (fun b hb=>⟨jK ht b (Bp hb),I.hok.fresh hb⟩) fun h' ch c1 c2 c3 F'=>?_;have tr:∀c u,H c=some u->∀v,s.heap.get? c=some v->h'.get? c=some v:=fun c u e v q=>
  c2 c v (fun z=>by rw[hfree c z] at e;cases e) (fun z=>by rw[(c1 c z).2.1] at e;cases e) q
 have th:∀b o,b∉ch->s.heap.get? b=some o->∃o',h'.get? b=some o':=fun b o hb q=>by
  by_cases hf:b∈frs (X.env :: X.outer)
  ·obtain⟨sl,e⟩:=c3 b o hf q;exact⟨_,e⟩
  ·exact⟨o,c2 b o hf hb q⟩
 have J:Inv X pins σ H { s with heap:=h',gens:=s.gens,drawn:=s.drawn,toks:=s.toks }:=by
  refine I.stepN (ch:=ch) (fun b hb=>tX (a:=a) (C:=C) (d:=d) I hp hs (c1 b hb)) (fun b o h1 h2 h3 e _=>c2 b o (by rw[hfrs];intro z;rcases List.mem_cons.mp z with z | z;exact h1 z;exact h2 z) h3 e)
   (fun b o _ h2 _ e _=>c3 b o (by rw[hfrs];exact List.mem_cons_of_mem _ h2) e) th (fun m hm=>?_) (fun b u e=>?_) I.bare
  ·obtain⟨o,es,ep,ho,r⟩:=hm;obtain⟨sl,e⟩:=c3 _ o (by rw[hfrs];exact List.mem_cons_self) ho;exact⟨_,es,ep,e,r⟩
  ·refine(I.hok b u e).stay (fun c v hc q=>?_) (fun _ q=>q) fun _ _ q=>q;rcases hc with rfl | hc
   ·exact tr c u e v q
   ·exact tr c _ hc v q
 refine h _ ⟨J,h0,hp,hs,fun b o e=>?_,F'⟩;obtain⟨o',e'⟩:=ht b o e;exact th b o' (fun z=>by rw[(c1 b z).1] at e;cases e) e'
theorem Ad {A':Around}{E:Value->Shared->Prop}{a:Addr}{C:Value}{d:Option Addr}{Q:Unit->Shared->Prop}(L:mU X pins σ H s a C d)(h:∀s',mU X pins σ H s' a C d->Q () s'):wpAny (model X.prog X.w) A' (setFlight (.ref a) none) Q E s:=by
 have L':=L;obtain⟨I,h0,hp,hs,ht,F⟩:=L';obtain⟨n,f,oe,vs,v,e1,e2,e3,e4,e5,t⟩:=F;unfold setFlight;refine wpAny_bind (wpAny_field e1 e4 e5 ?_);rcases t with rfl | ⟨T,oT,ts,rfl,t2,t3,t4,t5,t6,t7⟩
 ·rw[if_neg (by decide)];exact wpAny_pure (h s L)
 ·rw[if_pos (show (Value.ref T != Value.none)=true from by simp)];have hsz3:3 < ts.size:=(Array.getElem?_eq_some_iff.mp t7).1;have other:∀b,b≠T->(s.heap.update T (Obj.mapFields (·.setIfInBounds 3 ((none:Option Addr).elim Value.none fun f=>rawInt f)))).get? b=s.heap.get? b:=fun b hb=>Heap.get?_update_other _ _ (Ne.symm hb);have hT':=Heap.get?_update_self (Obj.mapFields (·.setIfInBounds 3 ((none:Option Addr).elim Value.none fun f=>rawInt f))) t5 (Obj.isFreed_of_fields (Obj.data_mapFields t6 _));refine wpAny_setField t5 t6 hsz3 ?_;have c1:∀b∈[T],h0.get? b=none/\H b=none/\∃o vs,s.heap.get? b=some o/\o.data=.fields vs:=fun b hb=>by
   have hb:b=T:=by simpa using hb
   subst hb;exact⟨t3,t4,_,_,t5,t6⟩
  have nT:∀b,b∉[T]->b≠T:=fun b hb z=>hb (by simp[z]);have J:Inv X pins σ H { s with heap:=(s.heap.update T (Obj.mapFields (·.setIfInBounds 3 ((none:Option Addr).elim Value.none fun f=>rawInt f)))),gens:=s.gens,drawn:=s.drawn,toks:=s.toks }:=by
   refine I.stepN (ch:=[T]) (fun b hb=>tX (a:=a) (C:=C) (d:=d) I hp hs (c1 b hb)) (fun b o _ _ h3 e _=>(other b (nT b h3)).trans e) (fun b o _ _ h3 e _=>⟨o.slots,(other b (nT b h3)).trans e⟩)
    (fun b o h3 e=>⟨o,(other b (nT b h3)).trans e⟩) (fun m hm=>?_) (fun b u e=>?_) I.bare
   ·obtain⟨o,es,ep,ho,hd,r⟩:=hm;exact⟨o,es,ep,(other _ (Ne.symm (jQ t5 t6 ho fun vs z=>by rw[hd] at z;cases z))).trans ho,hd,r⟩
   ·refine(I.hok b u e).stay (fun c v hc q=>(other c ?_).trans q) (fun _ q=>q) fun _ _ q=>q;rintro rfl;rcases hc with rfl | hc
    ·rw[t4] at e;cases e
    ·rw[t4] at hc;cases hc
  refine h _ ⟨J,h0,hp,hs,fun b o e=>?_,⟨n,f,oe,vs,.ref T,(other a (Ne.symm t2)).trans e1,e2,e3,e4,e5,.inr ⟨T,_,_,rfl,t2,t3,t4,hT',Obj.data_mapFields t6 _,by simp[hsz3]⟩⟩⟩;obtain⟨o',e'⟩:=ht b o e;exact⟨o',(other b (fun z=>by rw[z,t3] at e;cases e)).trans e'⟩
end
def CX1 (P:Program)(w:World):CXT:=fun outer H s E e s'=>∃a C d H',e=.ref a/\s'.os=s.os/\AllBare s'.gens/\Un (frs outer) [] H H' s.heap s'.heap/\HOk P w H' s'.heap/\Fl s.heap H' s'.heap a C d/\E C d H'
def Fz (X:Cx)(E:XK):Prop:=∀(pins:List (Addr × Obj)) (σ:St) (H:Hp) (s:Shared) (a:Addr) (C:Value) (d:Option Addr),mU X pins σ H s a C d->E C d H->X.xe (.ref a) s
section
variable {X:Cx} {pins:List (Addr × Obj)} {σ:List (Option V)} {H:Hp} {s s':Shared} {E:XK} {e:Value}
theorem pO (fm:Frm X)(I:Inv X pins σ H s)(hcx:CX1 X.prog X.w X.stack H s E e s'):∃a C d H',e=.ref a/\mU X pins σ H' s' a C d/\E C d H':=by
 obtain⟨a,C,d,H',rfl,os,bare,un,hok,F,q⟩:=hcx;refine⟨a,C,d,H',rfl,⟨I.call' (ch:=[]) os un hok bare (fun b z=>absurd z (by simp)),s.heap,fun p hp z=>?_,fun b o e=>I.base.there b o e (by rw[fm.ex];simp),fun b o e=>un.there b o e (by simp),F⟩,q⟩;rw[(I.pin p hp).1] at z;cases z
end
theorem qM {CX:CXT}{P:Program}{w:World}{K:PySem.W.Frag}{mg:Str->Option Value}{base:Heap}{N:List Str}{qual:Str}{scope:Scope}{f:Addr}{cd:Value}{A:Around}{outer:List Env}{s:Shared}{H:Hp}{E:XK} :
  Frm (mX CX P w K mg base N qual scope f cd A outer s H E):=⟨rfl,rfl,rfl⟩
theorem Af {P:Program}{w:World}{K:PySem.W.Frag}{mg:Str->Option Value}{base:Heap}{N:List Str}{qual:Str}{scope:Scope}{f:Addr}{cd:Value}{A:Around}{outer:List Env}{s:Shared}{H:Hp}{E:XK} :
  Fz (mX (CX1 P w) P w K mg base N qual scope f cd A outer s H E) E:=by
 intro pins σ H' s' a C d L q;show wpAny (model P w) (A.deeper (envOfC qual scope s.heap.objs.size f cd)) (leaving (envOfC qual scope s.heap.objs.size f cd) (.ref a)) (fun _ s''=>CX1 P w outer H s E (.ref a) s'') (fun e' s''=>CX1 P w outer H s E e' s'') s';unfold leaving;refine wpAny_bind (vD (X:=mX (CX1 P w) P w K mg base N qual scope f cd A outer s H E) L.1.ok.frames qM L fun s'' L''=>?_);obtain⟨J,h0,hp,hs0,hth,F⟩:=L'';exact⟨a,C,d,H',rfl,J.os,J.bare,J.base,J.hok,F.older fun b z=>jK hs0 b z,q⟩
abbrev Hs:List Value:=[.type "ValueError",.type "Exception",.type "BaseException",.type "object"]
def Gx (K:PySem.W.Frag)(C:Addr):Prop:=PySem.W.excIn K C Hs "ValueError.__new__"=true
theorem Ew {K:PySem.W.Frag}{h:Heap}{C:Addr}{bmB:List Value}{newId:String}(X:K.In h)(q:PySem.W.excIn K C bmB newId=true) :
  ∃bm N nm qn bs hdct sn sub ab col dd k0 k1 k2 k3 k5 mN,h.get? C=some (excClassObj nm qn C N bs bm hdct sn sub ab col dd k0 k1 k2 k3 k5 newId)/\h.Ns N mN/\mN "__init__"=none/\OwnTail h bmB bm:=by
 unfold PySem.W.excIn at q;split at q
 ·rename_i dd cd sl ho
  split at q
  ·rename_i C' bm k0 k1 k2 k3 n k5 hm hs
   simp only[Bool.and_eq_true,beq_iff_eq,Bool.not_eq_true'] at q;obtain⟨⟨⟨⟨⟨rfl,rfl⟩,hdel⟩,ht⟩,hok⟩,hni⟩:=q;obtain⟨nm,bs,mro,ns,qn,hd,sn,sub,ab,col,del⟩:=cd;dsimp only at hm hdel hok hni;subst hm hdel;have hsl:sl=#[k0,k1,k2,k3,some (.builtin n),k5]:=by
    obtain⟨l⟩:=sl;simp only at hs;rw[hs]
   subst hsl;exact⟨bm,ns,nm,qn,bs,hd,sn,sub,ab,col,dd,k0,k1,k2,k3,k5,_,X _ _ ho,.of_isNs (PySem.W.isNs_of_in X hok),PySem.W.nsMap_none_of_in X hok hni,PySem.W.tail_of_in X ht⟩
  ·cases q
 ·cases q
section
variable {X:Cx} {pins:List (Addr × Obj)} {σ:List (Option V)} {H:Hp} {s:Shared}
def Ef (C:Addr)(E:XK)(ta:TA):TS:=fun _ σ H=>ta σ H fun vs H1=>vs.length<=sizeLine/\E (.ref C) none H1
theorem wV {E:XK}{x:Str}{C:Addr}{np cpos pos:Pos}{e₀:Expr}{es:List Expr}{ta:TA}(fm:Frm X)(xo:Fz X E)(hc:X.calm=true)(hg:Gl X x)(hm:X.mg x=some (.ref C))(q:Gx X.K C)(ha:PA X (e₀ :: es) ta)(hdb:(x == ("__debug__":Str))=false:=by decide)(he:starEach (e₀ :: es) X.env=(false,eval e₀ X.env) :: starEach es X.env:=by rfl)(hpl:(backTo cpos (starEach es X.env)).any (·.1)=false:=by rfl) :
  PS X (.Raise (some (.Call (.Name x np) (e₀ :: es) [] cpos)) none pos) (Ef C E ta):=by
 intro pins s σ H D I h;obtain⟨tl,N,nm,qn,bs,hdct,sn,sub,ab,col,dd,k0,k1,k2,k3,k5,mN,hC,hN,hni,T⟩:=Ew I.mod.kin q;have FB:=PySem.F.excBase_ValueError;refine wpAny_Raise_call_subU (C:=C) (nm:=nm) (q:=qn) (N:=N) (bs:=bs) (bm:=tl) (hdct:=hdct) (sn:=sn) (sub:=sub) (ab:=ab) (col:=col) (dd:=dd) (k0:=k0) (k1:=k1) (k2:=k2) (k3:=k3) (k5:=k5)
  FB (by decide) FB (mN:=mN) (T.hasType FB.hasBase) (I.ok.hd hc) (by rw[he];show (false || (backTo cpos (starEach es X.env)).any (·.1))=false;rw[hpl];rfl) hni (gP I hg hm ⟨rfl,?_⟩ hdb)
 have ha':=ha cpos pins s σ H _ I h;rw[he] at ha' ⊢;refine Calls.evalArgs_plain (wpAny_mono ha' (fun vs s2 h2=>?_) fun _ _ y=>y);obtain⟨xs,H1,I1,r,hz,q1⟩:=h2;refine⟨rfl,by rw[<- r.length];exact hz,I1.bk _ _ hC,hN.keeps I1.bk,T.keeps I1.bk,fun h' e hx=>?_⟩;obtain⟨t,he1,htn,ht⟩:=hx.there;refine xo pins σ H1 _ e (.ref C) none ⟨I1.kept (t':=s2.toks) hx.keeps,s2.heap,fun p hp z=>?_,fun b o e=>I1.base.there b o e (by rw[fm.ex];simp),fun b o z=>⟨o,hx.keeps b o z⟩,⟨hx.new,I1.hok.none_of hx.new,_,_,.none,he1,rfl,rfl,rfl,rfl,.inl rfl⟩⟩ q1;rw[(I1.pin p hp).1] at z;cases z
end
abbrev TEX:=St->Hp->VK->XK->Prop
abbrev TSX:=fF->(St->XK)->St->Hp->Prop
def XP (X:Cx)(pins:List (Addr × Obj))(E:St->XK)(e:Value)(s':Shared):Prop:=∃a C d σ' H',e=.ref a/\mU X pins σ' H' s' a C d/\E σ' C d H'
def PX (X:Cx)(e:Expr)(t:TEX):Prop:=
 ∀(pins:List (Addr × Obj)) (s:Shared) (σ:St) (H:Hp) (Q:VK) (E:XK),Inv X pins σ H s->t σ H Q E->wpAny (model X.prog X.w) X.A (eval e X.env) (EP X pins σ Q) (XP X pins fun σ' C d H'=>σ'=σ/\E C d H') s
def PSX (X:Cx)(st:Stmt)(t:TSX):Prop:=
 ∀(pins:List (Addr × Obj)) (s:Shared) (σ:St) (H:Hp) (D:fF) (E:St->XK),Inv X pins σ H s->t D E σ H->wpAny (model X.prog X.w) X.A (exec st X.env) (SP X pins D) (XP X pins E) s
def Gf (X:Cx)(st:List Stmt)(t:TSX):Prop:=
 ∀(pins:List (Addr × Obj)) (s:Shared) (σ:St) (H:Hp) (D:fF) (E:St->XK),Inv X pins σ H s->t D E σ H->wpAny (model X.prog X.w) X.A (execs st X.env) (SP X pins D) (XP X pins E) s
theorem XP.at {X:Cx}{pins:List (Addr × Obj)}{σ:St}{E:St->XK}{e:Value}{s':Shared}(h:XP X pins (fun σ' C d H'=>σ'=σ/\E σ C d H') e s'):XP X pins E e s':=by
 obtain⟨a,C,d,σ',H',rfl,L,rfl,q⟩:=h;exact⟨a,C,d,σ',H',rfl,L,q⟩
section
variable {X:Cx} {k:Nat} {f C:Addr} {fd:FuncData} {ps:List Str} {sp:Sp} {dvs:List V} {ds:List Value} {x m:Str} {p pos apos:Pos} {e o:Expr} {es:List Expr} {ta:TE} {t:TA}
def Fr (sp:Sp)(dvs:List V)(t:TA):TEX:=fun σ H Q E=>t σ H fun vs H1=>sp (vs++dvs) H1 Q E
theorem Gg {pins:List (Addr × Obj)}{σ:St}{H:Hp}{s:Shared}{Q:VK}{E:XK}{us:List Value}{vs:List V}(F:aK X.prog X.w X.K X.mg X.base (CX1 X.prog X.w) k f fd ps sp)(fm:Frm X)(hr:dH k X.A)(hb:aR X.K fd ps ds)(hd:bL dvs ds)(I:Inv X pins σ H s)(r:bL vs us)(h:sp (vs++dvs) H Q E):wpAny (model X.prog X.w) X.A (call (.ref f) us) (EP X pins σ Q) (XP X pins fun σ' C d H'=>σ'=σ/\E C d H') s:=by
 have r2:bL (vs++dvs) (us++ds):=r.append hd;have hl:(us++ds).length=ps.length:=by rw[<- r2.length];exact F.len _ _ _ _ h
 refine wpAny_call (codeAny_mono (F.run X.A X.stack s H ⟨us,[]⟩ (us++ds) (vs++dvs) Q E hr I.env0 (hb s us I.kIn hl) r2 h) fun r s' hq=>?_)
 cases r with
 |error e=>
  obtain⟨a,C,d,H',rfl,L,q⟩:=pO fm I hq;exact⟨a,C,d,σ,H',rfl,L,rfl,q⟩
 |ok fl=>
  cases fl with
  |ret u=>exact I.after hq
  |next=>exact False.elim hq
  |brk=>exact False.elim hq
  |cont=>exact False.elim hq
theorem zS (F:aK X.prog X.w X.K X.mg X.base (CX1 X.prog X.w) k f fd ps sp)(fm:Frm X)(hr:dH k X.A)(hg:Gl X x)(hm:X.mg x=some (.ref f))(hk:PySem.W.keepIn X.K (.ref f)=true)(hb:aR X.K fd ps ds)(hd:bL dvs ds)(ha:PA X.nox (e :: es) t)(hdb:(x == ("__debug__":Str))=false:=by decide)(he:starEach (e :: es) X.env=(false,eval e X.env) :: starEach es X.env:=by rfl)(hpl:(backTo pos (starEach es X.env)).any (·.1)=false:=by rfl) :
  PX X (.Call (.Name x p) (e :: es) [] pos) (Fr sp dvs t):=by
 intro pins s σ H Q E I h;refine wpAny_Call_Name_kw (gP I hg hm ?_ hdb);refine PySem.W.callWith_K (h₀:=X.base) I.ok.mod.kin hk (wpAny_mono (ha pos pins s σ H _ (I.wish _) h) (fun us s1 h1=>?_) fun _ _ z=>False.elim z) he hpl;obtain⟨vs,H1,I1,r,q⟩:=h1;exact⟨I1.kIn,Gg F fm hr hb hd I1.unwish r q⟩
def Fu (te:TEX):TSX:=fun D E σ H=>te σ H (fun _ H1=>D.nx σ H1) (E σ)
theorem xH (he:PX X e te)(hs:swapsWith e none pos.line X.env=pure false:=by rfl):PSX X (.Expr e pos) (Fu te):=by
 intro pins s σ H D E I h;exact wpAny_Expr_any (wpAny_mono (he pins s σ H _ _ I h) (fun v s1 ⟨x,H1,I1,r1,q1⟩=>⟨σ,H1,I1,q1⟩) fun _ _ z=>XP.at z) I.quiet hs
theorem xE {st:Stmt}{t:TSX}(h1:PSX X st t):Gf X [st] t:=by
 intro pins s σ H D E I h;refine wpAny_execs_cons (wpAny_mono (h1 pins s σ H D E I h) (fun f s1 q=>?_) fun _ _ z=>z)
 cases f with
 |next=>exact wpAny_execs_nil q
 |ret v=>exact q
 |brk=>exact q
 |cont=>exact q
end
abbrev Cx.sup (X:Cx)(a:Addr):Cx:={ X with A:=X.A.mark (some (.ref a)),calm:=false,xe:=fun _ _=>False }
section
variable {X:Cx} {pins:List (Addr × Obj)} {σ:List (Option V)} {H:Hp} {s:Shared} {a:Addr}
theorem Cx.Ok.sup (ok:X.Ok)(a:Addr):(X.sup a).Ok:=
 ⟨ok.mod,ok.kind,ok.glob,ok.blt,ok.above,ok.inj,ok.has,ok.cab,fun z=>Bool.noConfusion z,ok.frames,ok.stk,ok.exf,ok.bs,ok.bsz,ok.noex,ok.exfs,ok.funs,ok.frf⟩
theorem Inv.sup (I:Inv X pins σ H s)(a:Addr):Inv (X.sup a) pins σ H s:=⟨I.ok.sup a,I.os,I.bare,I.base,I.loc,I.cell,I.free,I.freeC,I.pin,I.hok,I.len⟩
theorem Inv.unsup (ok:X.Ok)(I:Inv (X.sup a) pins σ H s):Inv X pins σ H s:=⟨ok,I.os,I.bare,I.base,I.loc,I.cell,I.free,I.freeC,I.pin,I.hok,I.len⟩
theorem SP.unsup (ok:X.Ok){D:fF}{f:Flow}{s':Shared}(h:SP (X.sup a) pins D f s'):SP X pins D f s':=by
 cases f with
 |next=>obtain⟨σ',H',I,q⟩:=h;exact⟨σ',H',I.unsup ok,q⟩
 |brk=>obtain⟨σ',H',I,q⟩:=h;exact⟨σ',H',I.unsup ok,q⟩
 |cont=>obtain⟨σ',H',I,q⟩:=h;exact⟨σ',H',I.unsup ok,q⟩
 |ret u=>obtain⟨v,σ',H',I,r,q⟩:=h;exact⟨v,σ',H',I.unsup ok,r,q⟩
end
abbrev TH:=Addr->Value->Option Addr->fF->St->Hp->Prop
def PH (X:Cx)(hs:List ExceptHandler)(t:TH):Prop:=
 ∀(pins:List (Addr × Obj)) (s:Shared) (σ:St) (H:Hp) (D:fF) (a:Addr) (C:Value) (d:Option Addr),mU X pins σ H s a C d->t a C d D σ H->wpAny (model X.prog X.w) X.A (handleBy (.ref a) X.env hs) (SP X pins D) X.xe s
section
variable {X:Cx} {pos np:Pos} {T:Str} {tc:Value} {b₀:Stmt} {suite:List Stmt} {rest:List ExceptHandler} {ts:TS} {tr:TH}
def Ea:TH:=fun _ _ _ _ _ _=>False
theorem yB {hs:List ExceptHandler}:PH X hs Ea:=fun _ _ _ _ _ _ _ _ _ h=>h.elim
def Ch (X:Cx)(T:Str)(c:Value):Prop:=X.mg T=some c\/(X.mg T=none/\bootBuiltins T=some c/\T≠"__name__")
theorem Dv {E:Value->Shared->Prop}{pins:List (Addr × Obj)}{s:Shared}{σ:St}{H:Hp}{Q:Value->Shared->Prop}(I:Inv X pins σ H s)(hg:Gl X T)(hc:Ch X T tc)(h:Q tc s)(hd:(T == ("__debug__":Str))=false:=by decide):wpAny (model X.prog X.w) X.A (eval (.Name T np) X.env) Q E s:=by
 rcases hc with e | ⟨e,hv,hn⟩
 ·exact gP I hg e h hd
 ·exact jW I hg e hv h hn hd
def Gq (K:PySem.W.Frag)(tc:Value)(ts:TS)(tr:TH):TH:=fun a C d D σ H=>∃b,PySem.W.exmOne K C tc=some b/\if b=true then ts D σ H else tr a C d D σ H
theorem mU.ty {M:Model}{pins:List (Addr × Obj)}{s:Shared}{σ:St}{H:Hp}{a:Addr}{C:Value}{d:Option Addr}(L:mU X pins σ H s a C d):PySem.W.Looks M s.heap (typeOf (.ref a)) C:=by
 obtain⟨I,h0,hp,hs,ht,n,f,oe,vs,v,e1,e2,_⟩:=L;subst e2;exact(PySem.W.Looks.ld e1).andThen .now
theorem Bk (hg:Gl X T)(hc:Ch X T tc)(hs:∀a,PSs (X.sup a) (b₀ :: suite) ts)(hr:PH X rest tr)(hd:(T == ("__debug__":Str))=false:=by decide) :
  PH X (.ExceptHandler (some (.Name T np)) none (b₀ :: suite) pos :: rest) (Gq X.K tc ts tr):=by
 intro pins s σ H D a C d L h;obtain⟨b,hb,h⟩:=h;have I:=L.1;refine wpAny_handleBy_cons (codeAny_handlers_test (Dv (X:=X.sup a) (I.sup a) hg hc ((PySem.W.exm_one I.kIn L.ty hb).here ?_) hd)) (by intro q;cases q)
 cases b with
 |false=>
  rw[if_neg Bool.false_ne_true] at h;exact hr pins s σ H D a C d L h
 |true=>
  rw[if_pos rfl] at h;refine codeAny_handlers_suite (Ad (X:=X) L fun s' L'=>?_);exact wpAny_mono (hs a pins s' σ H D (L'.1.sup a) h) (fun f s2 q=>SP.unsup I.ok q) fun _ _ z=>False.elim z
def Ie (tb:TSX)(to:TS)(th:TH):TS:=fun D σ H=>tb { D with nx:=to D } (fun σ' C d H'=>∀a,H' a=none->th a C d D σ' H') σ H
theorem Ed {body orelse:List Stmt}{h₀:ExceptHandler}{hs:List ExceptHandler}{tb:TSX}{to:TS}{th:TH}(fm:Frm X)(hb:Gf X body tb)(ho:PSs X orelse to)(hh:PH X (h₀ :: hs) th):PS X (.Try body (h₀ :: hs) orelse [] pos) (Ie tb to th):=by
 intro pins s σ H D I h;refine wpAny_Try_except (wpAny_mono (hb pins s σ H _ _ I h) (fun f s1 q=>?_) fun e s1 q=>?_)
 ·cases f with
  |next=>
   obtain⟨σ',H',I',q⟩:=q;exact ho pins s1 σ' H' D I' q
  |ret v=>exact q
  |brk=>exact q
  |cont=>exact q
 ·obtain⟨a,C,d,σ',H',rfl,L,q⟩:=q;refine vD I.ok.frames fm L fun s2 L2=>?_;exact hh pins s2 σ' H' D a C d L2 (q a L2.2.choose_spec.2.2.2.free)
end
def kU (K:PySem.W.Frag):Sp:=fun vs H Q _=>∃(a b:Addr) (p q:Mq.Q2) (n m:Nat),vs=[.ref a,.ref b]/\Fq K H a p/\Fq K H b q/\Mq.Bd n p/\Mq.Bd m q/\n+m+1<=9000/\Q (.bl (decide (p.1*q.2 < q.1*p.2))) H
end L2
set_option maxHeartbeats 2000000
namespace L2
open PySem PySem.Spec PyProof.Rows
inductive TyQ (K:PySem.W.Frag) (H:Hp):V->Value->Prop where
 |of {x:V} {t:Value} (h:hJ K H x t):TyQ K H x t
 |tup {a:Addr} {xs:List V} (h:SqT K H a xs):TyQ K H (.ref a) (.type "tuple")
 |lst {a:Addr} {xs:List V} (h:SqL K H a xs):TyQ K H (.ref a) (.type "list")
section
variable {X:Cx} {pins:List (Addr × Obj)} {σ:St} {H:Hp} {s:Shared} {A:Around} {E:Value->Shared->Prop} {Q:Value->Shared->Prop} {c:Value} {b:Bool}
theorem sS {x:V}{u t:Value}(I:Inv X pins σ H s)(rx:bK x u)(ty:TyQ X.K H x t)(e:PySem.W.kitOne X.K t c=some b)(h:∀tk,Q (.bool b) { s with toks:=tk }) :
  wpAny (model X.prog X.w) A (call (.builtin "isinstance") [u,c]) Q E s:=by
 cases ty with
 |of ty=>exact vJ I rx ty e h
 | @tup a xs ht=>
  cases (show u=Value.ref a from rx)
  obtain⟨its,_,p,_⟩:=I.tuple ht;obtain⟨o,h1,h2,_⟩:=p;exact PySem.W.kia_one PySem.W.kitx_tuple I.kIn ⟨o,h1,h2⟩ e (fun z=>nomatch z) h
 | @lst a xs ht=>
  cases (show u=Value.ref a from rx)
  obtain⟨its,_,p,_⟩:=I.list ht;obtain⟨o,h1,h2,_⟩:=p.isList;exact PySem.W.kia_one PySem.W.kitx_list I.kIn ⟨_,h1,h2⟩ e (fun z=>nomatch z) h
end
section
variable {X:Cx}
theorem wF:iT X (.builtin "isinstance") (fun xs H Q=>∃x n t b,xs=[x,.ty n]/\TyQ X.K H x t/\PySem.W.kitOne X.K t (.type n)=some b/\Q (.bl b) H):=by
 intro pins s σ H vs us Q I rv h;obtain⟨x,n,t,b,rfl,ty,e,q⟩:=h;obtain⟨u,u2,rfl,r1,r2⟩:=Cn rv
 cases (show u2=Value.type n from r2)
 exact sS I r1 ty e fun tk=>⟨.bl b,H,I.tok tk,rfl,q⟩
theorem cT {i:Nat}{x T:Str}{T':String}{p1 p2 p3 pos:Pos}(hN:X.N[i]?=some x)(hv:Vis X.env.scope x)(b:X.mg "isinstance"=none)(b2:X.mg T=none)(g1:Gl X "isinstance")(g2:Gl X T)(hT:bootBuiltins T=some (.type T'))(hd:(x == ("__debug__":Str))=false:=by decide)(hcd:(x == ("__classdict__":Str))=false:=by decide)(hTn:T≠"__name__":=by decide)(hTd:(T == ("__debug__":Str))=false:=by decide)(he:starEach [.Name x p2,.Name T p3] X.env=(false,eval (.Name x p2) X.env) :: starEach [.Name T p3] X.env:=by rfl)(he2:starEach [.Name T p3] X.env=(false,eval (.Name T p3) X.env) :: starEach [] X.env:=by rfl)(hpl:(backTo pos (starEach [.Name T p3] X.env)).any (·.1)=false:=by rfl) :
  PE X (.Call (.Name "isinstance" p1) [.Name x p2,.Name T p3] [] pos) (fun σ H Q=>∃v t b,σ[i]?=some (some v)/\TyQ X.K H v t/\PySem.W.kitOne X.K t (.type T')=some b/\Q (.bl b) H):=by
 have h:=bQ (X:=X) (pos:=pos) (p:=p1) wF g1 b PyProof.Rows.boot_isinstance (aA (yJ (i:=i) (pos:=p2) hN hv hd hcd) (aA (zX (v:=.ty T') (pos:=p3) g2 b2 hT rfl hTn hTd) aD he2) he) (by decide) (by decide) he hpl;intro pins s σ H Q I q;obtain⟨v,t,bb,h1,h2,h3,h4⟩:=q;exact h pins s σ H Q I ⟨v,h1,v,T',t,bb,rfl,h2,h3,h4⟩
end
theorem SqT.upd {K:PySem.W.Frag}{H:Hp}{a l:Addr}{xs ys:List V}{o:HO}(h:SqT K H a xs)(hl:H l=some (.lst ys)):SqT K (L2.upd H l o) a xs:=by
 rcases h with (h | ⟨u,h⟩) | h
 ·exact .inl (.inl (by rw[aU (fY h hl (fun z=>by cases z))];exact h))
 ·exact .inl (.inr ⟨u,by rw[aU (fY h hl (fun z=>by cases z))];exact h⟩)
 ·exact .inr h
theorem qN {K:PySem.W.Frag}{H:Hp}:∀ns:List Int,iN K H (ns.map V.int) (ns.map PyData.int)
 | []=>.nil
 |n :: r=>.cons (.int n) (qN r)
theorem rB:∀ns:List Int,PyData.canLayAll0 (ns.map PyData.int)=true
 | []=>rfl
 |n :: r=>by
  show ((PyData.int n).canLay0 && PyData.canLayAll0 (r.map PyData.int))=true;rw[rB r];rfl
theorem lK (ns:List Int)(lo hi:Option Int):∃ms:List Int,iF (ns.map V.int) lo hi=ms.map V.int/\ms.length<=ns.length:=by
 refine⟨(ns.drop (HT.sIx (ns.map V.int).length 0 lo)).take (HT.sIx (ns.map V.int).length (ns.map V.int).length hi - HT.sIx (ns.map V.int).length 0 lo),?_,?_⟩
 ·unfold iF;rw[List.map_take,List.map_drop]
 ·rw[List.length_take,List.length_drop];omega
theorem rG {K:PySem.W.Frag}{H:Hp}{a b:Addr}{ns:List Int}{neg:Bool}{Q:VK}(h1:SqL K H a (ns.map V.int))(h2:SqL K H b [])(z:Q (.bl (if neg then !ns.isEmpty else ns.isEmpty)) H):pU K neg (.ref a) (.ref b) H Q:=by
 refine⟨_,_,.lst h1 (qN ns),.lst h2 .nil,rB ns,rfl,?_,?_⟩
 ·have:(PyData.list []).depth<=1:=by decide
  omega
 ·cases ns<;>exact z
theorem uH {fr:List Nat}{σ:St}{x y:V}:(((σC 2 fr σ).set 0 (some x)).set 1 (some y)).length=(σC 2 fr σ).length/\∀(i:Nat) v,(σC 2 fr σ)[i]?=some (some v)->(((σC 2 fr σ).set 0 (some x)).set 1 (some y))[i]?=some (some v):=by
 refine⟨by simp,fun i v h=>?_⟩
 match i with
 |0=>unfold σC at h;simp at h
 |1=>unfold σC at h;simp at h
 |k+2=>rw[List.getElem?_set_ne (by omega),List.getElem?_set_ne (by omega)];exact h
theorem iR {n:Nat}{i:Int}(lo:-(2 ^ n:Int) < i)(hi:i < 2 ^ n):Mq.B n i:=by
 unfold Mq.B;have e:((2 ^ n:Nat):Int)=2 ^ n:=by simp
 omega
theorem oS (X:Cx):∀l:List (Int × _ × Pos),PA X (l.map fun q=>Expr.Constant (.int q.1) q.2.1 q.2.2) (fun _ H Q=>Q (l.map fun q=>V.int q.1) H)
 | []=>aD
 |q :: l=>aA (te:=tC (.int q.1)) aB (oS X l) rfl
theorem uK {n k:Nat}(h:k < n):ixN n (k:Int)=some k:=by
 unfold ixN;rw[if_pos (by omega),if_pos (by omega)];simp
section
variable {X:Cx} {tg:Expr}
def Jd (K:PySem.W.Frag):List V->Hp->VK->Prop:=fun xs H Q=>∃(p:Addr) (bs:List Bool),xs=[.ref p]/\SqL K H p (bs.map V.bl)/\Q (.bl (bs.all id)) H
theorem qR (hc:X.calm=true):iT X (.builtin "all") (Jd X.K):=by
 intro pins s σ H xs us Q I r h;obtain⟨p,bs,rfl,hq,q⟩:=h;obtain⟨u,rfl,rx⟩:=oQ r
 cases rx
 obtain⟨its,rv,pl,hz⟩:=I.list hq;have hlen:its.toArray.size=bs.length:=by rw[List.size_toArray,<- rv.length,List.length_map]
 have hne:p≠s.heap.objs.size:=by
  obtain⟨o,e,_⟩:=pl.isList;exact Nat.ne_of_lt (Heap.lt_size e)
 refine call_all_walk (wpAny_pyIter_list pl.isList ?_);refine⟨s.heap.objs.size,_,_,_,_,_,fun i=>bs.getD i false,rfl,Walks.list (by exact I.ok.hd hc) s.heap.objs.size p hne its.toArray,⟨⟨_,Heap.get?_push_size _ rfl,rfl,rfl⟩,?_⟩,?_,?_⟩
 ·obtain⟨o,e,c⟩:=pl.isList;exact⟨o,Heap.get?_push_of_some _ e,c⟩
 ·intro i v s' Q' E' hv q';have hv':its[i]?=some v:=by simpa using hv
  have hi:i < its.length:=(List.getElem?_eq_some_iff.mp hv').1;have hb:(bs.map V.bl)[i]?=some (.bl (bs.getD i false)):=by
   rw[List.getElem?_map,List.getElem?_eq_getElem (by rw[<- hlen];simpa using hi)];simp[List.getD,List.getElem?_eq_getElem (show i < bs.length by rw[<- hlen];simpa using hi)]
  obtain⟨u,hu,ru⟩:=rv.get hb;have e:u=v:=by rw[hv'] at hu;cases hu;rfl
  subst e
  cases ru
  exact wpAny_truthy_bool q'
 ·intro h' tk kk;have e:(List.range its.toArray.size).all (fun i=>bs.getD i false)=bs.all id:=by
   rw[hlen,Bool.eq_iff_iff,List.all_eq_true,List.all_eq_true];constructor
   ·intro z b hb;obtain⟨i,hi,rfl⟩:=List.getElem_of_mem hb;have:=z i (List.mem_range.mpr hi);simpa[List.getD,List.getElem?_eq_getElem hi] using this
   ·intro z i hi;have hi':=List.mem_range.mp hi;have:=z bs[i] (List.getElem_mem hi');simpa[List.getD,List.getElem?_eq_getElem hi'] using this
  rw[e];refine⟨.bl _,H,I.kept (t':=tk) fun b o hb=>?_,rfl,q⟩;have hb2:b≠s.heap.objs.size:=Nat.ne_of_lt (Heap.lt_size hb);exact kk b o (by simpa using hb2) (Heap.get?_push_of_some _ hb)
end
def Dn {ι:Type}(C:ι->Addr)(m:Str)(sp:ι->Sp)(dvs:List V)(E:XK)(ta:TE)(t:TA):TE:=fun σ H Q=>ta σ H fun x H1=>∃i a dx fs,x=.ref a/\H1 a=some (.ins (C i) dx fs)/\fs.lookup m=none/\
 t σ H1 fun vs H2=>sp i (x :: (vs++dvs)) H2 Q E
section
variable {X:Cx} {ι:Type} {C f:ι->Addr} {fd:ι->FuncData} {sp:ι->Sp} {m:Str} {CX:CXT} {k:Nat} {ps:List Str} {ds:List Value} {dvs:List V} {E:XK} {o e:Expr} {es:List Expr} {ta:TE} {t:TA} {apos pos:Pos}
theorem gU {pl:Sem Bool}(he:PE X o ta)(c:∀i,Cls X.K (C i))(hm:∀i,gE X.K (C i) m (f i))(F:∀i,aK X.prog X.w X.K X.mg X.base CX k (f i) (fd i) ps (sp i))(hr:dH k X.A)(hb:∀i,aR X.K (fd i) ps ds)(hd:bL dvs ds)(hx:gM CX X E)(ht:eval (.Call (.Attribute o m apos) [] [] pos) X.env=(do
   let ov <- eval o X.env
   standAt apos.atName
   let (f,first) <- holding [ov] (getMethod ov m pl)
   callWith pos f first (backTo pos (starEach [] X.env)) (backToKw pos (keywordEach [] X.env))):=by rfl) :
  PE X (.Call (.Attribute o m apos) [] [] pos) (Dn C m sp dvs E ta Dh):=by
 intro pins s σ H Q I h;refine PySem.W.methodCall_KW (pl:=pl) (thn (he pins s σ H _ I h) fun u s1 ⟨x,H1,I1,rx,i,a,dx,fs,ex,ea,l,q⟩=>?_) ht;subst ex;obtain rfl:u=Value.ref a:=rx;refine iK I1 ea (c i) (hm i) l ?_;exact PySem.W.callWith_K0 (first:=[.ref a]) I1.kIn (hm i).kp (oX (us:=[.ref a]) (vs:=[.ref a]) (F i) hr (hb i) hd hx I1 (.cons rfl .nil) q)
end
inductive Kd where
 |pc | pu | ho
 deriving DecidableEq
def Kd.wd:Kd->Str
 | .pc=>"piece"
 | .pu=>"push"
 | .ho=>"hold"
def Kd.cn:Kd->Str
 | .pc=>"Piece"
 | .pu=>"Push"
 | .ho=>"Hold"
theorem Kd.wd_inj {k j:Kd}(h:k.wd=j.wd):k=j:=by
 cases k<;>cases j<;>first | rfl | exact absurd h (by decide +kernel)
theorem fsg:¬(("start":Str) = "goal"):=by decide +kernel
theorem fsz:¬(("start":Str) = "size"):=by decide +kernel
theorem fgz:¬(("goal":Str) = "size"):=by decide +kernel
def iA (s g z:V):List (Str × V):=eS "size" z (eS "goal" g (eS "start" s []))
theorem gA (s g z:V):(iA s g z).lookup ("start":Str)=some s:=by
 unfold iA;rw[bG,if_neg fsz,bG,if_neg fsg,bG,if_pos rfl]
theorem iJ (s g z:V):(iA s g z).lookup ("goal":Str)=some g:=by
 unfold iA;rw[bG,if_neg fgz,bG,if_pos rfl]
theorem mC (s g z:V):(iA s g z).lookup ("size":Str)=some z:=by
 unfold iA;rw[bG,if_pos rfl]
theorem iQ (s g z:V){m:Str}(h1:¬m = "start")(h2:¬m = "goal")(h3:¬m = "size"):(iA s g z).lookup m=none:=by
 unfold iA;rw[bG,if_neg h3,bG,if_neg h2,bG,if_neg h1];rfl
def Rw (CK:Kd->Addr)(H:Hp)(x:Addr)(k:Kd)(s g z:V):Prop:=∃dx,H x=some (.ins (CK k) dx (iA s g z))
theorem Rw.same {CK:Kd->Addr}{H H':Hp}{x:Addr}{k:Kd}{s g z:V}(e:bA H H')(h:Rw CK H x k s g z):Rw CK H' x k s g z:=let ⟨dx,q⟩:=h;⟨dx,e _ _ q⟩
structure RT (K:PySem.W.Frag) (mg:Str->Option Value) (CR:Addr) (CK:Kd->Addr):Prop where
 cl:∀k,Cls K (CK k)
 nS:∀k,eQ K (CK k) "start"
 nG:∀k,eQ K (CK k) "goal"
 nZ:∀k,eQ K (CK k) "size"
 t1:∀k,PySem.W.findIn K (.ref (CK k)) "__class__"=some (some (.builtin "object.__class__"))
 t2:PySem.W.specialIn K (.builtin "object.__class__") "__get__"=some (some (.builtin "getset_descriptor.__get__"))
 t3:PySem.W.takesIn K (.builtin "object.__class__")=some true
 t4:∀k,PySem.W.mroIn K (CK k) (.type "object")=some true
 isR:∀k,PySem.W.kitOne K (.ref (CK k)) (.ref CR)=some true
 isK:∀k j,PySem.W.kitOne K (.ref (CK k)) (.ref (CK j))=some (decide (k=j))
 mR:mg "Row"=some (.ref CR)
 mK:∀k,mg (Kd.cn k)=some (.ref (CK k))
section
variable {K:PySem.W.Frag} {mg:Str->Option Value} {CR:Addr} {CK:Kd->Addr} {H:Hp} {x:Addr} {k:Kd} {s g z:V}
theorem Rw.new {C x dx:Addr}{fs:List (Str × V)}(h1:H x=none)(h2:H dx=none)(ne:dx≠x):bA H (L2.upd (L2.upd H dx (.own x)) x (.ins C dx fs)):=fun b o e=>by
 rw[aU (bD e h1),aU (bD e h2)];exact e
end
def uP (CK:Kd->Addr):Sp:=fun vs H Q _=>∃(x dx:Addr) (k:Kd) (s g z:V),vs=[.ref x,s,g,z]/\H x=some (.ins (CK k) dx [])/\Q .non (upd H x (.ins (CK k) dx (iA s g z)))
def jX (k:Kd):Sp:=fun vs H Q _=>∃x,vs=[x]/\Q (.str k.wd) H
def iP (k:Kd):Sp:=fun vs H Q _=>∃x,vs=[x]/\Q (.bl (decide (k≠.pu))) H
def pC (CK:Kd->Addr):Sp:=fun vs H Q _=>∃(x:Addr) (k:Kd) (s g z:V),vs=[.ref x]/\Rw CK H x k s g z/\∀t,H t=none->Q (.ref t) (upd H t (.tup [.str k.wd,s,g,z]))
def Ij (CK:Kd->Addr)(H:Hp)(Q:VK)(k:Kd)(s g z:V):Prop:=∀x H',bA H H'->H x=none->Rw CK H' x k s g z->Q (.ref x) H'
theorem oV {K:PySem.W.Frag}{H:Hp}{x y:V}{d:PyData}{neg:Bool}{Q:VK}(h1:jE K H x d)(h2:jE K H y d)(hl:d.canLay0=true)(hd:d.depth<=16)(z:Q (.bl (!neg)) H):pU K neg x y H Q:=by
 refine⟨d,d,h1,h2,hl,hl,by omega,?_⟩;have e:PyData.eqv d d=true:=PySem.SeqAt.eqv_refl _ hl;rw[e]
 cases neg<;>exact z
theorem ifT {c:Bool}{A B:Prop}(h:c=true)(x:A):if c=true then A else B:=by rw[if_pos h];exact x
theorem ifF {c:Bool}{A B:Prop}(h:c=false)(x:B):if c=true then A else B:=by rw[if_neg (by rw[h];decide)];exact x
theorem cM (k j:Kd):decide (V.str k.wd=V.str j.wd)=decide (k=j):=by
 by_cases h:k=j
 ·subst h;simp
 ·rw[decide_eq_false h];exact decide_eq_false fun z=>h (Kd.wd_inj (V.str.inj z))
end L2
namespace L2
theorem fG {p:Kd->Prop}(a:p .pc)(b:p .pu)(c:p .ho):∀k,p k:=fun k=>by cases k<;>assumption
theorem lE (K:PySem.W.Frag)(t:PySem.Value):PySem.W.kitOne K t t=some true:=by unfold PySem.W.kitOne;rw[if_pos (beq_self_eq_true _)]
def kd3 {α:Type}(a b c:α):Kd->α
 | .pc=>a
 | .pu=>b
 | .ho=>c
end L2
set_option maxHeartbeats 1000000
namespace L2
open PySem PySem.Spec PyProof.Rows
section
variable {κ:Type} [DecidableEq κ]
def fU (kvs:List (κ × V))(k:κ):Option V:=(kvs.find? fun kv=>decide (kv.1=k)).map (·.2)
def dY (kvs:List (κ × V))(k:κ)(v:V):List (κ × V):=
 if (kvs.any fun kv=>decide (kv.1=k))=true then kvs.map (fun kv=>if kv.1=k then (kv.1,v) else kv) else kvs++[(k,v)]
def fE (kvs:List (κ × V))(k:κ):List (κ × V):=kvs.filter fun kv=>decide (kv.1≠k)
theorem mB {p:κ × V}{r:List (κ × V)}{k:κ}(e:p.1=k):fU (p :: r) k=some p.2:=by simp[fU,List.find?_cons,e]
theorem lF {p:κ × V}{r:List (κ × V)}{k:κ}(e:¬p.1=k):fU (p :: r) k=fU r k:=by simp[fU,List.find?_cons,e]
theorem qX (k:κ):∀kvs:List (κ × V),(kvs.any fun kv=>decide (kv.1=k))=(fU kvs k).isSome
 | []=>rfl
 |p :: r=>by
  rw[List.any_cons]
  by_cases e:p.1=k
  ·simp only[mB e,decide_eq_true e,Bool.true_or,Option.isSome_some]
  ·rw[lF e,decide_eq_false e,Bool.false_or];exact qX k r
theorem fZ (kvs:List (κ × V))(k:κ)(v:V):(dY kvs k v).length<=kvs.length+1:=by
 unfold dY;split
 ·rw[List.length_map];omega
 ·rw[List.length_append,List.length_cons,List.length_nil];omega
theorem gC.isSome_eq {o:Option V}{u:Option Value}(r:gC o u):o.isSome=u.isSome:=by
 cases o with
 |none=>cases u with
  |none=>rfl
  |some _=>exact(show False from r).elim
 |some _=>cases u with
  |none=>exact(show False from r).elim
  |some _=>rfl
theorem KV.val {kvs:List (κ × V)}{vs:List (κ × Value)}(r:KV kvs vs)(k:κ):gC (fU kvs k) (valueAt vs k):=by
 unfold KV at r
 induction r with
 |nil=>exact True.intro
 | @cons p q ps qs h t ih=>
  obtain⟨h1,h2⟩:=h
  by_cases e:p.1=k
  ·have e':q.1=k:=h1.symm.trans e;have b:valueAt (q :: qs) k=some q.2:=by simp[valueAt,List.find?_cons,e']
   rw[mB e,b];exact h2
  ·have e':¬q.1=k:=fun z=>e (h1.trans z);have b:valueAt (q :: qs) k=valueAt qs k:=by simp[valueAt,List.find?_cons,e']
   rw[lF e,b];exact ih
theorem KV.any {kvs:List (κ × V)}{vs:List (κ × Value)}(r:KV kvs vs)(k:κ):(kvs.any fun kv=>decide (kv.1=k))=vs.any fun kv=>decide (kv.1=k):=by
 unfold KV at r
 induction r with
 |nil=>rfl
 |cons h t ih=>rw[List.any_cons,List.any_cons,ih,h.1]
theorem KV.repl {kvs:List (κ × V)}{vs:List (κ × Value)}(r:KV kvs vs)(k:κ){y:V}{u:Value}(ry:bK y u) :
  KV (kvs.map fun kv=>if kv.1=k then (kv.1,y) else kv) (vs.map fun kv=>if kv.1=k then (kv.1,u) else kv):=by
 unfold KV at r ⊢
 induction r with
 |nil=>exact .nil
 | @cons p q ps qs h t ih=>
  rw[List.map_cons,List.map_cons];refine .cons ?_ ih;obtain⟨h1,h2⟩:=h
  by_cases e:p.1=k
  ·rw[if_pos e,if_pos (h1.symm.trans e)];exact⟨h1,ry⟩
  ·rw[if_neg e,if_neg (fun z=>e (h1.trans z))];exact⟨h1,h2⟩
theorem KV.put {kvs:List (κ × V)}{vs:List (κ × Value)}(r:KV kvs vs)(k:κ){y:V}{u:Value}(ry:bK y u):KV (dY kvs k y) (stored vs k u):=by
 unfold dY stored;rw[r.any k]
 by_cases e:(vs.any fun kv=>decide (kv.1=k))=true
 ·rw[if_pos e,if_pos e];exact r.repl k ry
 ·rw[if_neg e,if_neg e];exact Paired.snoc r ⟨rfl,ry⟩
theorem KV.drop {kvs:List (κ × V)}{vs:List (κ × Value)}(r:KV kvs vs)(k:κ):KV (fE kvs k) (without vs k):=by
 unfold KV at r ⊢;unfold fE without
 induction r with
 |nil=>exact .nil
 | @cons p q ps qs h t ih=>
  obtain⟨h1,h2⟩:=h;rw[List.filter_cons,List.filter_cons]
  by_cases e:p.1=k
  ·have a:¬decide (p.1≠k)=true:=by simp[e]
   have b:¬decide (q.1≠k)=true:=by simp[h1.symm.trans e]
   rw[if_neg a,if_neg b];exact ih
  ·have e':¬q.1=k:=fun z=>e (h1.trans z);have a:decide (p.1≠k)=true:=by simp[e]
   have b:decide (q.1≠k)=true:=by simp[e']
   rw[if_pos a,if_pos b];exact .cons ⟨h1,h2⟩ ih
theorem KV.keys {kvs:List (κ × V)}{vs:List (κ × Value)}(r:KV kvs vs):kvs.map (·.1)=vs.map (·.1):=by
 unfold KV at r
 induction r with
 |nil=>rfl
 |cons h t ih=>rw[List.map_cons,List.map_cons,ih,h.1]
theorem KV.length {kvs:List (κ × V)}{vs:List (κ × Value)}(r:KV kvs vs):kvs.length=vs.length:=Paired.length r
theorem yO (kvs:List (κ × V))(k:κ):(fE kvs k).length<=kvs.length:=List.length_filter_le _ _
end
theorem lU {P:Program}{w:World}{k:Key}{u:Value}(r:bK (kV k) u):(cG P w).is k u=true:=by
 cases k with
 |inl i=>obtain⟨t,e⟩:=(show ∃t,u=Value.int i t from r);subst e;exact qO P w i t
 |inr x=>obtain⟨t,e⟩:=(show ∃t,u=Value.str x t from r);subst e;exact qH P w x t
theorem nY {P:Program}{w:World}:∀{ks:List Key} {us:List Value},bL (ks.map kV) us->ItemsAre (cG P w) ks us
 | [],_,r=>by rw[List.map_nil] at r;cases r;exact .nil
 |k :: ks,_,r=>by
  rw[List.map_cons] at r
  cases r with
  |cons h t=>exact .cons (lU h) (nY t)
abbrev KT (H:Hp):List (List Key × V)->List (List Key × Addr × Value)->Prop:=Paired fun p q=>p.1=q.1/\H q.2.1=some (.tup (p.1.map kV))/\bK p.2 q.2.2
theorem KT.val {H:Hp}{kvs:List (List Key × V)}{xs:List (List Key × Addr × Value)}(r:KT H kvs xs)(k:List Key):gC (fU kvs k) ((atKey xs k).map (·.2)):=by
 induction r with
 |nil=>exact True.intro
 | @cons p q ps qs h t ih=>
  obtain⟨h1,_,h2⟩:=h
  by_cases e:p.1=k
  ·have e':q.1=k:=h1.symm.trans e;have b:atKey (q :: qs) k=some q.2:=by simp[atKey,List.find?_cons,e']
   rw[mB e,b];exact h2
  ·have e':¬q.1=k:=fun z=>e (h1.trans z);have b:atKey (q :: qs) k=atKey qs k:=by simp[atKey,List.find?_cons,e']
   rw[lF e,b];exact ih
theorem KT.repl {H:Hp}{kvs:List (List Key × V)}{xs:List (List Key × Addr × Value)}(r:KT H kvs xs)(k:List Key){y:V}{u:Value}(ry:bK y u) :
  KT H (kvs.map fun kv=>if kv.1=k then (kv.1,y) else kv) (xs.map (putAt k u)):=by
 induction r with
 |nil=>exact .nil
 | @cons p q ps qs h t ih=>
  rw[List.map_cons,List.map_cons];refine .cons ?_ ih;obtain⟨h1,h2,h3⟩:=h;unfold putAt
  by_cases e:p.1=k
  ·rw[if_pos e,if_pos (h1.symm.trans e)];exact⟨h1,h2,ry⟩
  ·rw[if_neg e,if_neg (fun z=>e (h1.trans z))];exact⟨h1,h2,h3⟩
theorem KT.put {H:Hp}{kvs:List (List Key × V)}{xs:List (List Key × Addr × Value)}(r:KT H kvs xs)(k:List Key){b:Addr}{y:V}{u:Value}(hb:H b=some (.tup (k.map kV)))(ry:bK y u) :
  KT H (dY kvs k y) (storedH xs k b u):=by
 have e:(kvs.any fun kv=>decide (kv.1=k))=(atKey xs k).isSome:=by
  rw[qX,(r.val k).isSome_eq,Option.isSome_map]
 unfold dY storedH;rw[e]
 by_cases q:(atKey xs k).isSome=true
 ·rw[if_pos q,if_pos q];exact r.repl k ry
 ·rw[if_neg q,if_neg q];exact Paired.snoc r ⟨rfl,hb,ry⟩
theorem KT.keeps {H H':Hp}{kvs:List (List Key × V)}{xs:List (List Key × Addr × Value)}(r:KT H kvs xs)(ht:∀b ys,H b=some (.tup ys)->H' b=some (.tup ys)):KT H' kvs xs:=
 Paired.mapP r fun _ _ z=>⟨z.1,ht _ _ z.2.1,z.2.2⟩
section
variable {P:Program} {w:World} {H:Hp} {h:Heap} {a:Addr}
theorem Cp {u:HO}(ok:HOk P w H h)(e:Rd H a u):cB P w H h a u:=e.ok ok
theorem lY {kvs:List (Key × V)}(ok:HOk P w H h)(e:Rd H a (.dK kvs)):kvs.length<=sizeLine/\(a == sysModules)=false/\∃vs,KV kvs vs/\h.DictOf (cG P w) a vs:=
 show cB P w H h a (.dK kvs) from Cp ok e
theorem uO {kvs:List (Key × V)}(ok:HOk P w H h)(e:H a=some (.dK kvs)):kvs.length<=sizeLine/\(a == sysModules)=false/\∃vs,KV kvs vs/\h.DictOf (cG P w) a vs:=lY ok (.inl e)
theorem lQ {ks:List Key}(ok:HOk P w H h)(e:H a=some (.tup (ks.map kV))):(tupleKind (cG P w)).is h ks a:=by
 obtain⟨_,its,r,o,h1,h2,n,h3⟩:=(show cB P w H h a (.tup (ks.map kV)) from ok a _ e)
 exact⟨o,its.toArray,n,h1,h2,h3,by simpa using nY r⟩
theorem nH {kvs:List (List Key × V)}(ok:HOk P w H h)(e:Rd H a (.dT kvs)):kvs.length<=sizeLine/\(a == sysModules)=false/\
  ∃xs,KT H kvs xs/\h.DictOfH (tupleKind (cG P w)) a xs:=by
 obtain⟨z,y,xs,r,o,es,ep,h1,h2,h3,h4,h5⟩:=(show cB P w H h a (.dT kvs) from Cp ok e)
 refine⟨z,y,xs,r,o,es,ep,h1,h2,h3,h4,fun x hx=>?_,h5⟩;have all:∀{l:List (List Key × V)} {m:List (List Key × Addr × Value)},KT H l m->∀x∈m,(tupleKind (cG P w)).is h x.1 x.2.1:=by
  intro l m q
  induction q with
  |nil=>intro x hx;exact nomatch hx
  | @cons p q ps qs hq t ih=>
   intro x hx;rcases List.mem_cons.mp hx with e | hx
   ·subst e;exact lQ ok (by rw[<- hq.1];exact hq.2.1)
   ·exact ih x hx
 exact all r x hx
theorem He {kvs:List (List Key × V)}(ok:HOk P w H h)(e:H a=some (.dT kvs)):kvs.length<=sizeLine/\(a == sysModules)=false/\
  ∃xs,KT H kvs xs/\h.DictOfH (tupleKind (cG P w)) a xs:=nH ok (.inl e)
end
def hG (H:Hp)(a:Addr)(y:V)(r:Option V):Prop:=
 (∃kvs k,Rd H a (.dK kvs)/\y=kV k/\r=fU kvs k)\/∃kvs k b,Rd H a (.dT kvs)/\y=.ref b/\H b=some (.tup (k.map kV))/\r=fU kvs k
def sY (H:Hp)(a:Addr)(y v:V)(H':Hp):Prop:=
 (∃kvs k,H a=some (.dK kvs)/\y=kV k/\kvs.length < sizeLine/\H'=upd H a (.dK (dY kvs k v)))\/
 ∃kvs k b,H a=some (.dT kvs)/\y=.ref b/\H b=some (.tup (k.map kV))/\kvs.length < sizeLine/\H'=upd H a (.dT (dY kvs k v))
theorem hG.k {H:Hp}{a:Addr}{kvs:List (Key × V)}{k:Key}(e:H a=some (.dK kvs)):hG H a (kV k) (fU kvs k):=.inl ⟨kvs,k,.inl e,rfl,rfl⟩
theorem sY.k {H:Hp}{a:Addr}{kvs:List (Key × V)}{k:Key}{v:V}(e:H a=some (.dK kvs))(hl:kvs.length < sizeLine):sY H a (kV k) v (upd H a (.dK (dY kvs k v))):=.inl ⟨kvs,k,e,rfl,hl,rfl⟩
section
variable {X:Cx} {pins:List (Addr × Obj)} {σ:St} {H:Hp} {s:Shared} {a:Addr} {y v:V} {u r:Value} {o:Option V} {A:Around} {E:Value->Shared->Prop}
theorem Inv.big (I:Inv X pins σ H s):sysModules < s.heap.objs.size:=by
 have h:mainGlobals < s.heap.objs.size:=(I.mod.glob.keeps I.bk).lt;exact Nat.lt_trans (by decide) h
theorem wE {Q:Value->Shared->Prop}(hu:A.units+1 < cLine)(I:Inv X pins σ H s)(g:hG H a y (some v))(ry:bK y u)(h:∀w' s',Inv X pins σ H s'->bK v w'->Q w' s') :
  wpAny (model X.prog X.w) A (getItem (.ref a) u) Q E s:=by
 rcases g with ⟨kvs,k,e,ey,l⟩ | ⟨kvs,k,b,e,ey,eb,l⟩
 ·subst ey;obtain⟨z,hd,vs,rel,dd⟩:=lY I.hok e;obtain⟨w',hw,rw'⟩:=gC.some_of (v:=v) (o:=valueAt vs k) (by rw[l];exact rel.val k);exact wpAny_getItem_of (lU ry) dd.mapOf hw (h w' _ (I.tok _) rw')
 ·subst ey
  cases (show u=Value.ref b from ry)
  obtain⟨z,hd,xs,rel,dd⟩:=nH I.hok e;obtain⟨w',hw,rw'⟩:=gC.some_of (v:=v) (o:=(atKey xs k).map (·.2)) (by rw[l];exact rel.val k);obtain⟨p,hp,hp2⟩:=Option.map_eq_some_iff.mp hw;refine wpAny_getItem_heap (tupleKind_room_in1 hu) (lQ I.hok eb) dd hp ?_;rw[hp2];exact h w' _ (I.tok _) rw'
theorem Hy {Q:Value->Shared->Prop}(hu:A.units+1 < cLine)(I:Inv X pins σ H s)(g:hG H a y o)(ry:bK y u)(h:∀s',Inv X pins σ H s'->Q (.bool o.isSome) s') :
  wpAny (model X.prog X.w) A (compareOp .In u (.ref a)) Q E s:=by
 rcases g with ⟨kvs,k,e,ey,l⟩ | ⟨kvs,k,b,e,ey,eb,l⟩
 ·subst ey;obtain⟨z,hd,vs,rel,dd⟩:=lY I.hok e;refine wpAny_in_of (lU ry) hd dd.mapOf ?_;rw[<- (rel.val k).isSome_eq,<- l];exact h _ (I.tok _)
 ·subst ey
  cases (show u=Value.ref b from ry)
  obtain⟨z,hd,xs,rel,dd⟩:=nH I.hok e;refine wpAny_in_heap (tupleKind_room_in1 hu) (lQ I.hok eb) hd dd ?_;have q:=(rel.val k).isSome_eq;rw[Option.isSome_map] at q;rw[<- q,<- l];exact h _ (I.tok _)
theorem Bj {Q:Value->Shared->Prop}(hu:A.units+1 < cLine)(I:Inv X pins σ H s)(g:hG H a y o)(ry:bK y u)(h:∀s',Inv X pins σ H s'->Q (.bool (!o.isSome)) s') :
  wpAny (model X.prog X.w) A (compareOp .NotIn u (.ref a)) Q E s:=by
 rcases g with ⟨kvs,k,e,ey,l⟩ | ⟨kvs,k,b,e,ey,eb,l⟩
 ·subst ey;obtain⟨z,hd,vs,rel,dd⟩:=lY I.hok e;refine wpAny_notIn_of (lU ry) hd dd.mapOf ?_;rw[<- (rel.val k).isSome_eq,<- l];exact h _ (I.tok _)
 ·subst ey
  cases (show u=Value.ref b from ry)
  obtain⟨z,hd,xs,rel,dd⟩:=nH I.hok e;refine wpAny_notIn_heap (tupleKind_room_in1 hu) (lQ I.hok eb) hd dd ?_;have q:=(rel.val k).isSome_eq;rw[Option.isSome_map] at q;rw[<- q,<- l];exact h _ (I.tok _)
theorem kR {h':Heap}{t':Nat}{ob:HO}(I:Inv X pins σ H s)(mu:Mut (H a))(hs:Heap.SameBut a s.heap h')(he:∃q,h'.get? a=some q)(new:cB X.prog X.w (upd H a ob) h' a ob) :
  Inv X pins σ (upd H a ob) { s with heap:=h',toks:=t' }:=
 I.write (x:=a) (e:=a) mu (.inl rfl) (fun b q hb z=>(hs.2 b hb).trans z) he new
theorem sP {P:Program}{w:World}{H':Hp}{h':Heap}{kvs:List (Key × V)}{vs:List (Key × Value)}(z:kvs.length<=sizeLine)(hd:(a == sysModules)=false)(rel:KV kvs vs)(dd:h'.DictOf (cG P w) a vs) :
  cB P w H' h' a (.dK kvs):=⟨z,hd,vs,rel,dd⟩
theorem vV {H':Hp}{Q:Unit->Shared->Prop}(hu:A.units+1 < cLine)(I:Inv X pins σ H s)(g:sY H a y v H')(ry:bK y u)(rv:bK v r)(h:∀s',Inv X pins σ H' s'->Q () s') :
  wpAny (model X.prog X.w) A (setItem (.ref a) u r) Q E s:=by
 rcases g with ⟨kvs,k,e,ey,l,eH⟩ | ⟨kvs,k,b,e,ey,eb,l,eH⟩
 ·subst ey eH;obtain⟨z,hd,vs,rel,dd⟩:=uO I.hok e;have hz:vs.length<=sizeLine:=by rw[<- rel.length];exact z
  have hl:(dY kvs k v).length<=sizeLine:=by have:=fZ kvs k v;omega
  refine wpAny_setItem_pairs (hsz:=hz) (lU ry) dd fun h' dd' hs=>h _ ?_;have he:∃q,h'.get? a=some q:=let ⟨q,_,_,hq,_⟩:=dd';⟨q,hq⟩
  exact kR I (by rw[e];exact True.intro) hs he (sP hl hd (rel.put k rv) dd')
 ·subst ey eH
  cases (show u=Value.ref b from ry)
  obtain⟨z,hd,xs,rel,dd⟩:=He I.hok e;have hz:xs.length<=sizeLine:=by rw[<- Paired.length rel];exact z
  have hl:(dY kvs k v).length<=sizeLine:=by have:=fZ kvs k v;omega
  refine wpAny_setItem_heap (hsz:=hz) (tupleKind_room_in1 hu) (lQ I.hok eb) dd fun h' dd' hs=>h _ ?_;obtain⟨q,es,ep,hq,h2,h3,h4,_,h5⟩:=dd';refine kR I (by rw[e];exact True.intro) hs ⟨q,hq⟩ ⟨hl,hd,_,(rel.put k eb rv).keeps fun c ys ec=>?_,q,es,ep,hq,h2,h3,h4,h5⟩;rw[aU (fY ec e (fun z=>nomatch z))];exact ec
end
section
variable {X:Cx} {pins:List (Addr × Obj)} {σ:St} {H:Hp} {s:Shared} {a:Addr} {kvs:List (Key × V)} {k:Key} {u:Value} {A:Around} {E:Value->Shared->Prop}
theorem Fo {v:V}{more:List Value}{Q:Value->Shared->Prop}(I:Inv X pins σ H s)(e:H a=some (.dK kvs))(ry:bK (kV k) u)(l:fU kvs k=some v)(hm:more=[]\/∃x,more=[x])(h:∀w' s',Inv X pins σ (upd H a (.dK (fE kvs k))) s'->bK v w'->Q w' s'):wpAny (model X.prog X.w) A (call (.builtin "dict.pop") (.ref a :: u :: more)) Q E s:=by
 obtain⟨z,hd,vs,rel,dd⟩:=uO I.hok e;obtain⟨w',hw,rw'⟩:=gC.some_of (v:=v) (o:=valueAt vs k) (by rw[<- l];exact rel.val k);have hp:(keyPart u).isSome=true:=by
  cases k with
  |inl i=>obtain⟨t,q⟩:=(show ∃t,u=Value.int i t from ry);subst q;rfl
  |inr x=>obtain⟨t,q⟩:=(show ∃t,u=Value.str x t from ry);subst q;rfl
 have ha:argsOk "dict.pop" ⟨.ref a :: u :: more,[]⟩:=by
  rcases hm with q | ⟨x,q⟩
  ·subst q;exact PySem.F.args_dict_pop_2 _ _
  ·subst q;exact PySem.F.args_dict_pop_3 _ _ _
 refine call_meetsIn PySem.F.slot_dict_pop dd.typeIs PySem.F.entry_dict_pop ha (meets_dict_pop_there (cG X.prog X.w) a (lU ry) more hm hp)
  ⟨vs,w',dd,by rw[<- rel.length];exact z,hw,fun h' dd' hs=>h w' _ ?_ rw'⟩
 have he:∃q,h'.get? a=some q:=let ⟨q,_,_,hq,_⟩:=dd';⟨q,hq⟩
 exact kR I (by rw[e];exact True.intro) hs he (sP (Nat.le_trans (yO kvs k) z) hd (rel.drop k) dd')
theorem Fs {Q:Value->Shared->Prop}(I:Inv X pins σ H s)(e:Rd H a (.dK kvs))(h:∀t s',Inv X pins σ H s'->Q (.int kvs.length t) s'):wpAny (model X.prog X.w) A (call (.builtin "len") [.ref a]) Q E s:=by
 obtain⟨z,hd,vs,rel,dd⟩:=lY I.hok e;refine call_len_dict hd dd (by rw[<- rel.length];rw[sizeLine_eq] at z;omega) ?_;rw[<- rel.length];exact h _ _ (I.tok _)
end
def Gn (i:Expr):Prop:=∀ov iv,subscripted i false ov iv=operate [ov,iv] (getItem ov iv)
theorem Bh {prog:Program}{w:World}{A:Around}{E:Value->Shared->Prop}{s:Shared}{env:Env}{value slice:Expr}{pos:Pos}{T id:String}{Q:Value->Shared->Prop}(hl:typeLookup (.type T) "__getitem__"=pure (some (.builtin id)))(hs:Gn slice)(h:wpAny (model prog w) A (eval value env) (fun o s₁=>wpAny (model prog w) A (eval slice env) (fun i s₂=>s₂.TypeIs o T/\wpAny (model prog w) A (getItem o i) Q E s₂) E s₁) E s) :
  wpAny (model prog w) A (eval (.Subscript value slice pos) env) Q E s:=by
 refine Subscript_ (wpAny_mono h (fun o s₁ h₁=>wpAny_mono h₁ (fun i s₂ h₂=>?_) fun _ _ x=>x) fun _ _ x=>x);obtain⟨hT,h₂⟩:=h₂;unfold subscriptTail;refine wpAny_bind ?_;rw[getitemInPython_of_ne hT.not_modules];refine wpAny_bind (wpAny_specialOf hT hl ?_);have fin:wpAny (model prog w) A (subscripted slice false o i) (fun r s₃=>wpAny (model prog w) A (letTemporaryGo value o r >>= fun _=>pure r) Q E s₃) E s₂:=by
  rw[hs o i];exact wpAny_operating (wpAny_mono h₂ (fun r s₃ h₃=>wpAny_bind (wpAny_letTemporaryGo (wpAny_pure h₃))) fun _ _ x=>x)
 first
  |exact wpAny_pure (wpAny_bind fin)
  |exact wpAny_bind (wpAny_pure (wpAny_bind fin))
  |exact wpAny_bind fin
theorem qU {X:Cx}{pins:List (Addr × Obj)}{σ:St}{H:Hp}{s:Shared}{a:Addr}{y:V}{o:Option V}(I:Inv X pins σ H s)(g:hG H a y o):s.TypeIs (.ref a) "dict":=by
 rcases g with ⟨kvs,k,e,_,_⟩ | ⟨kvs,k,b,e,_,_,_⟩
 ·obtain⟨_,_,vs,_,dd⟩:=lY I.hok e;exact dd.typeIs
 ·obtain⟨_,_,xs,_,dd⟩:=nH I.hok e;exact dd.typeIs
def Gi (td ty:TE):TE:=fun σ H Q=>td σ H fun x H1=>ty σ H1 fun y H2=>∃a v,x=.ref a/\hG H2 a y (some v)/\Q v H2
def Iv (ty td:TE):TE:=fun σ H Q=>ty σ H fun y H1=>td σ H1 fun x H2=>∃a o,x=.ref a/\hG H2 a y o/\Q (.bl o.isSome) H2
def Bo (ty td:TE):TE:=fun σ H Q=>ty σ H fun y H1=>td σ H1 fun x H2=>∃a o,x=.ref a/\hG H2 a y o/\Q (.bl (!o.isSome)) H2
def Gj (td ty tv:TE):TS:=fun D σ H=>tv σ H fun v H1=>td σ H1 fun x H2=>ty σ H2 fun y H3=>∃a H4,x=.ref a/\sY H3 a y v H4/\D.nx σ H4
section
variable {X:Cx} {o i e value:Expr} {pos pos' tpos:Pos} {td ty tv:TE}
theorem iZ (hu:X.A.units+1 < cLine)(ho:PE X o td)(hi:PE X i ty)(hs:Gn i):PE X (.Subscript o i pos) (Gi td ty):=by
 intro pins s σ H Q I h;refine Bh PySem.F.slot_dict_getitem.lookup hs (thn (ho pins s σ H _ I h) fun u s1 ⟨x,H1,I1,rx,q1⟩=>thn (hi pins s1 σ H1 _ I1 q1) fun iv s2 ⟨y,H2,I2,ry,a,v,ex,g,q2⟩=>?_);subst ex;obtain rfl:u=Value.ref a:=rx;exact⟨qU I2 g,wE hu I2 g ry fun w' s3 I3 rw'=>⟨v,H2,I3,rw',q2⟩⟩
theorem Ev (hu:X.A.units+1 < cLine)(hi:PE X i ty)(ho:PE X o td):PC X .In i o (Iv ty td):=by
 intro pins s σ H Q I h;refine thn (hi pins s σ H _ I h) fun iv s1 ⟨y,H1,I1,ry,q1⟩=>thn (ho pins s1 σ H1 _ I1 q1) fun u s2 ⟨x,H2,I2,rx,a,ov,ex,g,q2⟩=>?_;subst ex;obtain rfl:u=Value.ref a:=rx;exact Hy hu I2 g ry fun s3 I3=>⟨.bl ov.isSome,H2,I3,rfl,q2⟩
theorem jI (hu:X.A.units+1 < cLine)(hi:PE X i ty)(ho:PE X o td):PC X .NotIn i o (Bo ty td):=by
 intro pins s σ H Q I h;refine thn (hi pins s σ H _ I h) fun iv s1 ⟨y,H1,I1,ry,q1⟩=>thn (ho pins s1 σ H1 _ I1 q1) fun u s2 ⟨x,H2,I2,rx,a,ov,ex,g,q2⟩=>?_;subst ex;obtain rfl:u=Value.ref a:=rx;exact Bj hu I2 g ry fun s3 I3=>⟨.bl (!ov.isSome),H2,I3,rfl,q2⟩
theorem tY (hu:X.A.units+1 < cLine)(ho:PE X o td)(hi:PE X i ty)(hv:PE X value tv)(hs:swapsWith value (some (.Subscript o i pos')) pos.line X.env=pure false) :
  PS X (.Assign [.Subscript o i pos'] value pos) (Gj td ty tv):=by
 intro pins s σ H D I h;refine wpAny_Assign_Subscript (thn (hv pins s σ H _ I h) fun r s1 ⟨v,H1,I1,rv,q1⟩=>thn (ho pins s1 σ H1 _ I1 q1) fun u s2 ⟨x,H2,I2,rx,q2⟩=>thn (hi pins s2 σ H2 _ I2 q2) fun iv s3 ⟨y,H3,I3,ry,a,H4,ex,g,q3⟩=>?_) hs;subst ex;obtain rfl:u=Value.ref a:=rx;exact vV hu I3 g ry rv fun s4 I4=>⟨σ,H4,I4,q3⟩
end
theorem qA {P:Program}{w:World}{H:Hp}(h:Heap)(hb:sysModules < h.objs.size):cB P w H (h.push { cls:=.type "dict",data:=.dict #[] }) h.objs.size (.dK []):=
 ⟨Nat.zero_le _,beq_eq_false_iff_ne.mpr (Ne.symm (Nat.ne_of_lt hb)),[],.nil,Heap.DictOf.new h⟩
def Dp:TE:=fun _ H Q=>∀p,H p=none->Q (.ref p) (upd H p (.dK []))
section
variable {X:Cx} {pos:Pos}
theorem yH:PE X (.Dict [] [] pos) Dp:=fun pins s σ H Q I h=>
 wpAny_Dict_empty ⟨.ref s.heap.objs.size,_,I.laid (a:=s.heap.objs.size) (o:=.dK []) (t':=s.toks) (fun _ _ q=>Heap.get?_push_of_some _ q) (Nat.le_refl _) (qA s.heap I.big),rfl,h _ (I.hok.fresh (Nat.le_refl _))⟩
end
def rS:List (TE × TE)->St->Hp->(List (V × V)->Hp->Prop)->Prop
 | [],_,H,Q=>Q [] H
 | (tk,tv) :: r,σ,H,Q=>tk σ H fun x H1=>tv σ H1 fun y H2=>rS r σ H2 fun ps H3=>Q ((x,y) :: ps) H3
abbrev VV:List (V × V)->List (Value × Value)->Prop:=Paired fun p q=>bK p.1 q.1/\bK p.2 q.2
def PPs (X:Cx)(pos:Pos)(keys:List (Option Expr))(values:List Expr)(trs:List (TE × TE)):Prop:=
 ∀(pins:List (Addr × Obj)) (s:Shared) (σ:St) (H:Hp) (Q:List (V × V)->Hp->Prop),Inv X pins σ H s->rS trs σ H Q->
  wpAny (model X.prog X.w) X.A (evalPairs (pairTrees keys values X.env pos)) (fun vs s'=>∃ps H',Inv X pins σ H' s'/\VV ps vs/\Q ps H') X.xe s
theorem Aq {X:Cx}{pos:Pos}:PPs X pos [] [] []:=fun pins s σ H Q I h=>pairTrees_nil_walk ⟨[],H,I,.nil,h⟩
theorem xV {X:Cx}{pos:Pos}{k v:Expr}{ks:List (Option Expr)}{vs:List Expr}{tk tv:TE}{trs:List (TE × TE)}(hk:PE X k tk)(hv:PE X v tv)(hr:PPs X pos ks vs trs) :
  PPs X pos (some k :: ks) (v :: vs) ((tk,tv) :: trs):=fun pins s σ H Q I h=>
 pairTrees_cons_walk (thn (hk pins s σ H _ I h) fun u s1 ⟨x,H1,I1,rx,q1⟩=>thn (hv pins s1 σ H1 _ I1 q1) fun w2 s2 ⟨y,H2,I2,ry,q2⟩=>
  thn (hr pins s2 σ H2 _ I2 q2) fun ws s3 ⟨ps,H3,I3,rel,q3⟩=>⟨(x,y) :: ps,H3,I3,.cons ⟨rx,ry⟩ rel,q3⟩)
def eY (kvs more:List (Key × V)):List (Key × V):=more.foldl (fun acc kv=>dY acc kv.1 kv.2) kvs
theorem KV.merge:∀{more:List (Key × V)} {rs:List (Key × Value)} {kvs:List (Key × V)} {vs:List (Key × Value)},KV more rs->KV kvs vs->KV (eY kvs more) (merged vs rs):=by
 intro more rs kvs vs r;unfold KV at r
 induction r generalizing kvs vs with
 |nil=>intro q;exact q
 | @cons p q ps qs h t ih=>
  intro r0;have e:KV (dY kvs p.1 p.2) (stored vs q.1 q.2):=by
   have:=r0.put p.1 h.2;rw[<- h.1];exact this
  exact ih e
theorem iB:∀(more kvs:List (Key × V)),(eY kvs more).length<=kvs.length+more.length
 | [],kvs=>by show kvs.length<=kvs.length+0;omega
 |p :: r,kvs=>by
  have h1:=iB r (dY kvs p.1 p.2);have h2:=fZ kvs p.1 p.2;show (eY (dY kvs p.1 p.2) r).length<=_;rw[List.length_cons];omega
theorem mP {P:Program}{w:World}:∀{kvs:List (Key × V)} {ws:List (Value × Value)},VV (kvs.map fun kv=>(kV kv.1,kv.2)) ws->∃rs,Carries (cG P w) ws rs/\KV kvs rs
 | [],_,r=>by rw[List.map_nil] at r;cases r;exact⟨[],True.intro,.nil⟩
 |p :: kvs,_,r=>by
  rw[List.map_cons] at r
  cases r with
  | @cons a b as bs h t=>
   obtain⟨rs,c,q⟩:=mP (P:=P) (w:=w) t;obtain⟨b1,b2⟩:=b;exact⟨(p.1,b2) :: rs,⟨lU h.1,rfl,c⟩,.cons ⟨rfl,h.2⟩ q⟩
def Gw (trs:List (TE × TE)):TE:=fun σ H Q=>∀p,H p=none->rS trs σ (upd H p (.dK [])) fun ps H2=>H2 p=some (.dK [])/\∃kvs:List (Key × V),ps=kvs.map (fun kv=>(kV kv.1,kv.2))/\kvs.length<=15/\Q (.ref p) (upd H2 p (.dK (eY [] kvs)))
theorem Bm {X:Cx}{pos:Pos}{keys:List (Option Expr)}{values:List Expr}{trs:List (TE × TE)}(h:PPs X pos keys values trs)(hall:keys.all (·.isSome)=true)(hl:keys.length=values.length)(h0:keys≠[])(h15:keys.length<=15):PE X (.Dict keys values pos) (Gw trs):=by
 intro pins s σ H Q I q;have hn:=I.hok.fresh (Nat.le_refl s.heap.objs.size);have I1:=I.laid (a:=s.heap.objs.size) (o:=.dK []) (h':=s.heap.push { cls:=.type "dict",data:=.dict #[] }) (t':=s.toks) (fun _ _ q=>Heap.get?_push_of_some _ q) (Nat.le_refl _) (qA s.heap I.big);refine wpAny_Dict_walk (knd:=cG X.prog X.w) hall hl h0 h15 (thn (h pins _ σ _ _ I1 (q _ hn)) fun ws s2 ⟨ps,H2,I2,rel,e,kvs,ep,lk,q2⟩=>?_);subst ep;obtain⟨rs,c,rk⟩:=mP (P:=X.prog) (w:=X.w) rel;obtain⟨z,hd,vs0,r0,dd⟩:=uO I2.hok e
 cases r0
 refine⟨rs,c,dd,fun h' dd' hs=>⟨.ref s.heap.objs.size,_,?_,rfl,q2⟩⟩;have hz:(eY [] kvs).length<=sizeLine:=by
  have h1:=iB kvs [];rw[List.length_nil] at h1;rw[sizeLine_eq];omega
 have he:∃q,h'.get? s.heap.objs.size=some q:=let ⟨q,_,_,hq,_⟩:=dd';⟨q,hq⟩
 exact kR I2 (by rw[e];exact True.intro) hs he (sP hz hd (rk.merge .nil) dd')
structure M1 (X:Cx) (o:Expr) (m:Str) (apos:Pos) (e:Expr) (cpos:Pos):Prop where
 base:attributeBase o m X.env (eval o X.env)=eval o X.env
 few:((backTo cpos (starEach [e] X.env)).all (fun x=>!x.1) && (backToKw cpos (keywordEach [] X.env)).all (fun x=>x.1.isSome)
  && decide (([e]:List Expr).length+([]:List Keyword).length+(if ([]:List Keyword).isEmpty then 0 else 1) < 30))=true
 line:(apos.endLine == cpos.line)=true
 trees:backTo cpos (starEach [e] X.env)=[(false,eval e X.env)]
def IsD (H:Hp)(a:Addr):Prop:=(∃kvs,Rd H a (.dK kvs))\/∃kvs,Rd H a (.dT kvs)
theorem Cs {X:Cx}{pins:List (Addr × Obj)}{σ:St}{H:Hp}{s:Shared}{a:Addr}(I:Inv X pins σ H s)(d:IsD H a) :
  s.TypeIs (.ref a) "dict"/\(∀b,Value.ref a=.ref b->∃ob,s.heap.get? b=some ob/\ob.dict=none)/\(a == sysModules)=false:=by
 rcases d with ⟨kvs,e⟩ | ⟨kvs,e⟩
 ·obtain⟨_,hd,vs,_,dd⟩:=lY I.hok e;refine⟨dd.typeIs,fun b q=>?_,hd⟩
  cases q
  obtain⟨ob,_,_,h1,h2,_⟩:=dd;exact⟨ob,h1,h2.2.1⟩
 ·obtain⟨_,hd,xs,_,dd⟩:=nH I.hok e;refine⟨dd.typeIs,fun b q=>?_,hd⟩
  cases q
  obtain⟨ob,_,_,h1,h2,_⟩:=dd;exact⟨ob,h1,h2.2.1⟩
def Du (td ty:TE):TE:=fun σ H Q=>td σ H fun x H1=>∃a,x=.ref a/\IsD H1 a/\ty σ H1 fun y H2=>∃kvs k v,H2 a=some (.dK kvs)/\y=kV k/\fU kvs k=some v/\Q v (upd H2 a (.dK (fE kvs k)))
section
variable {X:Cx} {o e f:Expr} {apos cpos:Pos} {td ty tx:TE}
theorem zE (ho:PE X o td)(he:PE X e ty)(m:M1 X o "pop" apos e cpos):PE X (.Call (.Attribute o "pop" apos) [e] [] cpos) (Du td ty):=by
 intro pins s σ H Q I h;refine wpAny_Call_method m.base m.few m.line PySem.F.plainAttrs_dict PySem.F.slot_dict_pop PySem.F.type_dict_pop (thn (ho pins s σ H _ I h) fun u s1 ⟨x,H1,I1,rx,a,ex,d,q1⟩=>?_);subst ex;obtain rfl:u=Value.ref a:=rx;obtain⟨t1,t2,_⟩:=Cs I1 d;refine⟨t1,t2,?_⟩;rw[m.trees];refine Calls.callWith_builtin rfl (Calls.evalArgs_plain (Calls.spliced_cons (thn (he pins s1 σ H1 _ I1 q1) fun iv s2 ⟨y,H2,I2,ry,kvs,k,v,ea,ey,l,q2⟩=>Calls.spliced_nil ?_)));subst ey;exact Fo I2 ea ry l (.inl rfl) fun w' s3 I3 rw'=>⟨v,_,I3,rw',q2⟩
end
section
variable {X:Cx}
theorem wC:iT X (.builtin "len") (fun xs H Q=>∃a kvs,xs=[V.ref a]/\H a=some (.dK kvs)/\Q (.int kvs.length) H):=by
 intro pins s σ H xs us Q I r h;obtain⟨a,kvs,rfl,ha,q⟩:=h;obtain⟨u,rfl,ru⟩:=oQ r
 cases ru
 exact Fs I (.inl ha) fun t s' I'=>⟨.int kvs.length,H,I',⟨t,rfl⟩,q⟩
end
end L2
set_option maxHeartbeats 2000000
namespace L2
open PySem PySem.Spec PyProof.Rows
theorem Fq.mod {K:PySem.W.Frag}{a:Addr}{d:Option Addr}{n:Nat}{sl:Array (Option Value)}{i j:Int}{t u:Tok}(l:K.lookup a=some ⟨.type "tuple",d,.seq #[.int i t,.int j u] n,sl⟩)(H:Hp):Fq K H a (i,j):=
 .inr ⟨_,_,_,l,rfl,rfl,(by show 2<=sizeLine;decide),.cons ⟨_,rfl⟩ (.cons ⟨_,rfl⟩ .nil)⟩
abbrev RD:=Kd × Int × Int × Mq.Q2
inductive Rts (K:PySem.W.Frag) (H:Hp):List V->List RD->Prop where
 |nil:Rts K H [] []
 |cons {t z:Addr} {k:Kd} {i j:Int} {p:Mq.Q2} {xs:List V} {ds:List RD} (h:SqT K H t [.str k.wd,.int i,.int j,.ref z]) (f:Fq K H z p) (q:Rts K H xs ds):Rts K H (.ref t :: xs) ((k,i,j,p) :: ds)
section
variable {K:PySem.W.Frag} {H H':Hp}
theorem Rts.same (e:bA H H'):∀{xs:List V} {ds:List RD},Rts K H xs ds->Rts K H' xs ds
 |_,_,.nil=>.nil
 |_,_,.cons h f q=>.cons (e.seqT h) (e.fq f) (Rts.same e q)
theorem Rts.length:∀{xs:List V} {ds:List RD},Rts K H xs ds->xs.length=ds.length
 |_,_,.nil=>rfl
 |_,_,.cons _ _ q=>by simp[Rts.length q]
theorem Rts.app:∀{xs ys:List V} {ds es:List RD},Rts K H xs ds->Rts K H ys es->Rts K H (xs++ys) (ds++es)
 |_,_,_,_,.nil,r=>r
 |_,_,_,_,.cons h f q,r=>.cons h f (Rts.app q r)
theorem Rts.at:∀{xs:List V} {ds:List RD} {q:Nat} {d:RD},Rts K H xs ds->ds[q]?=some d->∃t z,xs[q]?=some (.ref t)/\SqT K H t [.str d.1.wd,.int d.2.1,.int d.2.2.1,.ref z]/\Fq K H z d.2.2.2
 |_,_,_,_,.nil,h=>by simp at h
 |_,_,0,_,.cons h f _,e=>by simp at e;subst e;exact⟨_,_,rfl,h,f⟩
 |_,_,i+1,_,.cons _ _ q,e=>by simpa using Rts.at q (by simpa using e)
theorem Rts.set {t z:Addr}{k:Kd}{i j:Int}{p:Mq.Q2}(h:SqT K H t [.str k.wd,.int i,.int j,.ref z])(f:Fq K H z p):∀{xs:List V} {ds:List RD} (q:Nat),Rts K H xs ds->Rts K H (xs.set q (.ref t)) (ds.set q (k,i,j,p))
 |_,_,_,.nil=>.nil
 |_,_,0,.cons _ _ q=>.cons h f q
 |_,_,n+1,.cons a b q=>.cons a b (Rts.set h f n q)
theorem Rts.upd {l:Addr}{ys:List V}{o:HO}(hl:H l=some (.lst ys)):∀{xs:List V} {ds:List RD},Rts K H xs ds->Rts K (L2.upd H l o) xs ds
 |_,_,.nil=>.nil
 |_,_,.cons h f q=>.cons (h.upd hl) (f.upd hl) (Rts.upd hl q)
end
def bU (l:Addr)(H H':Hp):Prop:=∀b o,H b=some o->b≠l->H' b=some o
theorem bA.x {l:Addr}{H H':Hp}(s:bA H H'):bU l H H':=fun b o h _=>s b o h
theorem bU.write {l:Addr}{H H1:Hp}{o:HO}(a:bU l H H1):bU l H (upd H1 l o):=fun c u h n=>by rw[aU n];exact a c u h n
section
variable {K:PySem.W.Frag} {H H':Hp} {l:Addr}
theorem bU.seqT {a:Addr}{xs ys:List V}(hl:H l=some (.lst ys))(e:bU l H H')(h:SqT K H a xs):SqT K H' a xs:=by
 rcases h with (h | ⟨u,h⟩) | h
 ·exact .inl (.inl (e _ _ h (fY h hl (fun z=>by cases z))))
 ·exact .inl (.inr ⟨u,e _ _ h (fY h hl (fun z=>by cases z))⟩)
 ·exact .inr h
theorem bU.rts {ys:List V}(hl:H l=some (.lst ys))(e:bU l H H'):∀{xs:List V} {ds:List RD},Rts K H xs ds->Rts K H' xs ds
 |_,_,.nil=>.nil
 |_,_,.cons h f q=>.cons (e.seqT hl h) (e.seqT hl f) (bU.rts hl e q)
end
theorem fpk:¬(("point_count":Str) = "kept"):=by decide +kernel
def jB (m:Int)(l:Addr):List (Str × V):=eS "kept" (.ref l) (eS "point_count" (.int m) [])
theorem qS (m:Int)(l:Addr):(jB m l).lookup ("point_count":Str)=some (.int m):=by
 unfold jB;rw[bG,if_neg fpk,bG,if_pos rfl]
theorem dC (m:Int)(l:Addr):(jB m l).lookup ("kept":Str)=some (.ref l):=by
 unfold jB;rw[bG,if_pos rfl]
theorem eO (m:Int)(l:Addr){x:Str}(h1:¬x = "point_count")(h2:¬x = "kept"):(jB m l).lookup x=none:=by
 unfold jB;rw[bG,if_neg h2,bG,if_neg h1];rfl
def Fe (m:Int)(d:RD):Prop:=0<=d.2.1/\d.2.1 < m/\0<=d.2.2.1/\d.2.2.1 < m/\Mq.Low d.2.2.2/\(d.1=.pc->0 < d.2.2.2.1)/\Mq.Bd 1000 d.2.2.2
structure dB (CN:Addr) (K:PySem.W.Frag) (H:Hp) (n l:Addr) (m:Int) (ds:List RD):Prop where
 ob:∃dx,H n=some (.ins CN dx (jB m l))
 ls:∃ts,H l=some (.lst ts)/\Rts K H ts ds
theorem dB.same {CN:Addr}{K:PySem.W.Frag}{H H':Hp}{n l:Addr}{m:Int}{ds:List RD}(e:bA H H')(h:dB CN K H n l m ds):dB CN K H' n l m ds:=
 let ⟨⟨dx,a⟩,ts,b,c⟩:=h;⟨⟨dx,e _ _ a⟩,ts,e _ _ b,c.same e⟩
theorem dB.x {CN:Addr}{K:PySem.W.Frag}{H H':Hp}{n l q:Addr}{m:Int}{ds:List RD}{ys:List V}(hq:H q=some (.lst ys))(e:bU q H H')(ne:l≠q)(h:dB CN K H n l m ds):dB CN K H' n l m ds:=
 let ⟨⟨dx,a⟩,ts,b,c⟩:=h;⟨⟨dx,e _ _ a (fY a hq (fun z=>by cases z))⟩,ts,e _ _ b ne,e.rts hq c⟩
structure NT (K:PySem.W.Frag) (mg:Str->Option Value) (CN:Addr):Prop where
 cl:Cls K CN
 nP:eQ K CN "point_count"
 nK:eQ K CN "kept"
 t1:PySem.W.findIn K (.ref CN) "__class__"=some (some (.builtin "object.__class__"))
 t2:PySem.W.specialIn K (.builtin "object.__class__") "__get__"=some (some (.builtin "getset_descriptor.__get__"))
 t3:PySem.W.takesIn K (.builtin "object.__class__")=some true
 t4:PySem.W.mroIn K CN (.type "object")=some true
 mN:mg "Net"=some (.ref CN)
def mL (K:PySem.W.Frag)(CK:Kd->Addr):Sp:=fun vs H Q _=>∃(t:Addr) (v s g z:V),vs=[.ref t]/\SqT K H t [v,s,g,z]/\∃k:Kd,v=.str k.wd/\Ij CK H Q k s g z
def zD (K:PySem.W.Frag):Sp:=fun vs H Q _=>∃(a:Addr) (p:Mq.Q2),vs=[.ref a]/\Fq K H a p/\Mq.Low p/\Q (.bl true) H
def Hk (K:PySem.W.Frag):Sp:=fun vs H Q _=>∃(a:Addr) (p:Mq.Q2) (n:Nat),vs=[.ref a]/\Fq K H a p/\Mq.Low p/\0 < p.1/\Mq.Bd n p/\n<=8000/\Q (.bl true) H
def Do:Sp:=fun vs H Q _=>∃i b:Int,vs=[.int i,.int b]/\0<=i/\i < b/\Q (.bl true) H
def Cv (K:PySem.W.Frag):Sp:=fun vs H Q _=>∃(k:Kd) (z:Addr) (p:Mq.Q2),vs=[.str k.wd,.ref z]/\Fq K H z p/\Mq.Low p/\(k=.pc->0 < p.1)/\Mq.Bd 1000 p/\Q .non H
def uS (CN:Addr):Sp:=fun vs H Q _=>∃(n dx:Addr) (m:Int),vs=[.ref n,.int m]/\H n=some (.ins CN dx [])/\1<=m/\m<=20/\∀l H',H l=none->(∀b o,H b=some o->b≠n->H' b=some o)->H' n=some (.ins CN dx (jB m l))->H' l=some (.lst [])->Q .non H'
def rQ (CN:Addr)(K:PySem.W.Frag):Sp:=fun vs H Q _=>∃(n l:Addr) (m:Int) (ds:List RD),vs=[.ref n]/\dB CN K H n l m ds/\Q (.int m) H
def Cg (CN:Addr)(K:PySem.W.Frag)(CK:Kd->Addr):Sp:=fun vs H Q _=>∃(n l x z:Addr) (m:Int) (ds:List RD) (k:Kd) (i j:Int) (p:Mq.Q2),vs=[.ref n,.ref x]/\dB CN K H n l m ds/\Rw CK H x k (.int i) (.int j) (.ref z)/\Fq K H z p/\Fe m (k,i,j,p)/\ds.length < 40/\
 ∀H',bU l H H'->dB CN K H' n l m (ds++[(k,i,j,p)])->Q (.int ds.length) H'
def qW (CN:Addr)(K:PySem.W.Frag):Sp:=fun vs H Q _=>∃(n l z:Addr) (m q:Int) (ds:List RD) (k:Kd) (i j:Int) (p0 p:Mq.Q2),vs=[.ref n,.int q,.ref z]/\dB CN K H n l m ds/\0<=q/\ds[q.toNat]?=some (k,i,j,p0)/\Fq K H z p/\Mq.Low p/\(k=.pc->0 < p.1)/\Mq.Bd 1000 p/\
 ∀H',bU l H H'->dB CN K H' n l m (ds.set q.toNat (k,i,j,p))->Q .non H'
theorem Dy {a1 u:TS}{D:fF}{σ:St}{H:Hp}(P:St->Hp->Prop)(h1:∀X:St->Hp->Prop,(∀σ' H',P σ' H'->X σ' H')->(a1) { D with nx:=X } σ H)(h2:∀σ' H',P σ' H'->u D σ' H'):(fV a1 (u)) D σ H:=h1 _ h2
theorem yV {a1 a2 u:TS}{D:fF}{σ:St}{H:Hp}(P:St->Hp->Prop)(h1:∀X:St->Hp->Prop,(∀σ' H',P σ' H'->X σ' H')->(fV a1 (a2)) { D with nx:=X } σ H)(h2:∀σ' H',P σ' H'->u D σ' H'):(fV a1 (fV a2 (u))) D σ H:=h1 _ h2
theorem Ec {a1 a2 a3 u:TS}{D:fF}{σ:St}{H:Hp}(P:St->Hp->Prop)(h1:∀X:St->Hp->Prop,(∀σ' H',P σ' H'->X σ' H')->(fV a1 (fV a2 (a3))) { D with nx:=X } σ H)(h2:∀σ' H',P σ' H'->u D σ' H'):(fV a1 (fV a2 (fV a3 (u)))) D σ H:=h1 _ h2
theorem Ia {a1 a2 a3 a4 u:TS}{D:fF}{σ:St}{H:Hp}(P:St->Hp->Prop)(h1:∀X:St->Hp->Prop,(∀σ' H',P σ' H'->X σ' H')->(fV a1 (fV a2 (fV a3 (a4)))) { D with nx:=X } σ H)(h2:∀σ' H',P σ' H'->u D σ' H'):(fV a1 (fV a2 (fV a3 (fV a4 (u))))) D σ H:=h1 _ h2
end L2
namespace Mq
def val (p:Q2):Rat:=(p.1:Rat) / (p.2:Rat)
theorem gY {b:Int}(h:b≠0):(b:Rat)≠0:=fun e=>h (Rat.intCast_inj.mp (by simpa using e))
theorem rN {p:Q2}{t b:Int}(hp:p.2≠0)(hb:b≠0)(h:p.1*b=t*p.2):val p=(t:Rat) / (b:Rat):=by
 unfold val;have h1:=gY hp;have h2:=gY hb;have h3:(p.1:Rat)*(b:Rat)=(t:Rat)*(p.2:Rat):=by rw[<- Rat.intCast_mul,<- Rat.intCast_mul,h]
 grind
theorem Ca {t b:Int}(hb:b≠0):val (red t b)=(t:Rat) / (b:Rat):=by
 have:=(gQ (t:=t) hb).pos;exact rN (by omega) hb (nB hb)
theorem pY {p q:Q2}(hp:Low p)(hq:Low q)(h:val p=val q):p=q:=by
 refine yD hp hq ?_;have p1:=gY (show p.2≠0 by have:=hp.pos;omega);have q1:=gY (show q.2≠0 by have:=hq.pos;omega);unfold val at h;have:(p.1:Rat)*(q.2:Rat)=(q.1:Rat)*(p.2:Rat):=by grind
 rw[<- Rat.intCast_mul,<- Rat.intCast_mul] at this;exact Rat.intCast_inj.mp this
theorem lI {p q:Q2}(hp:1<=p.2)(hq:1<=q.2):val (dQ p q)=val p+val q:=by
 have p1:=gY (show p.2≠0 by omega);have q1:=gY (show q.2≠0 by omega);unfold dQ;rw[Ca (lB hp hq),Rat.intCast_add,Rat.intCast_mul,Rat.intCast_mul,Rat.intCast_mul];unfold val;grind
theorem uB:val (0,1)=0:=by unfold val;simp;grind
theorem uF {t b:Int}(ht:0 < t)(hb:0 < b):0 < (red t b).1:=by
 have h1:=nB (t:=t) (b:=b) (by omega);have h2:=(gQ (t:=t) (b:=b) (by omega)).pos;have h3:0 < t*(red t b).2:=Int.mul_pos ht (by omega);rw[<- h1] at h3;exact Int.pos_of_mul_pos_left h3 (by omega)
abbrev z0:Q2:=(0,1)
abbrev Row:=Nat × Nat × Q2
end Mq
namespace L2
open PySem PySem.Spec PyProof.Rows
abbrev yA (scope:Scope)(cl:List (Str × Addr))(x0:Str)(C:Addr)(env:Env):Env:={ compEnvC scope cl C env with cells:=(x0,C+1) :: cl }
abbrev Hu (X:Cx)(scope:Scope)(cl:List (Str × Addr))(x0:Str)(Nc:List Str)(C:Addr)(s3:Shared)(H3:Hp)(fp:List Addr)(pins:List (Addr × Obj)):Cx:=
 { X with N:=Nc,s₀:=s3,H₀:=H3,env:=yA scope cl x0 C X.env,outer:=X.stack,ex:=fp,fn:=fun x=>x == x0,pn:=X.pn++pins,xe:=fun _ _=>False }
def Ite (K : PySem.W.Frag)(a : Addr) : It :=
  ⟨fun i H => ∃ xs x, SqL K H a xs /\ xs[i]? = some x,
   fun i H v H' => ∃ T x, v = .ref T /\ H T = none /\ H' = upd H T (.tup [.int (i : Int), x]) /\ ∀ xs, SqL K H a xs -> xs[i]? = some x,
   fun i H => ∃ xs, SqL K H a xs /\ xs.length <= i⟩
def Ep (e it l:Addr)(i:Nat)(h:Heap):Prop:=e≠it/\(∃old,IsEnum h e it (i:Int) old)/\h.IsListIter it l i
theorem wK {P:Program}{w:World}{K:PySem.W.Frag}{elts:List Expr}{kk:Nat}{tpos:Pos}(e it l:Addr) :
  vH P w K (.Tuple elts kk tpos) (Ite K l) [e,it] e (Ep e it l) where
 mem:=by simp
 obj:=fun i h st b hb=>by
  obtain⟨ne,⟨old,he⟩,⟨o1,e1,c1,d1⟩⟩:=st;simp only[List.mem_cons,List.not_mem_nil,or_false] at hb;rcases hb with rfl | rfl
  ·exact⟨_,he,fun v q=>by cases q⟩
  ·exact⟨o1,e1,fun v q=>by rw[d1] at q;cases q⟩
 keep:=fun i h h' st k=>by
  obtain⟨ne,⟨old,he⟩,⟨o1,e1,c1,d1⟩⟩:=st;exact⟨ne,⟨old,k _ (by simp) _ he⟩,⟨o1,k _ (by simp) _ e1,c1,d1⟩⟩
 item:=by
  intro X hP hw hK hc i pins s σ H E I hf st hg;subst hP hw hK;obtain⟨ne,⟨old,he⟩,t1⟩:=st;obtain⟨xs,x,hx,ex⟩:=hg;obtain⟨its1,rv1,p1,z1⟩:=I.list hx;obtain⟨u1,hu1,ru1⟩:=rv1.get ex;refine wpAny_pyNext_enum_item he t1 p1.isList (x:=u1) (by simpa using hu1) ne fun h' g1 g2 g3 g4 kk'=>?_;have hn:H s.heap.objs.size=none:=I.hok.fresh (Nat.le_refl _);have lt:∀b∈[e,it],b < s.heap.objs.size:=fun b hb=>by
   simp only[List.mem_cons,List.not_mem_nil,or_false] at hb;obtain⟨o1,e1,_⟩:=t1;rcases hb with rfl | rfl
   ·exact Heap.lt_size he
   ·exact Heap.lt_size e1
  have I1:Inv X pins σ (upd H s.heap.objs.size (.tup [.int (i:Int),x])) { s with heap:=s.heap.push { cls:=.type "tuple",data:=.seq #[.int i s.toks,u1] },toks:=s.toks+1 }:=
   I.laid (t':=s.toks+1) (fun b o e=>Heap.get?_push_of_some _ e) (Nat.le_refl _) (show cB X.prog X.w _ _ _ (.tup [.int (i:Int),x]) from ⟨by show 2<=sizeLine;decide,[.int i s.toks,u1],.cons ⟨_,rfl⟩ (.cons ru1 .nil),IsTup.new _ _⟩)
  have hf1:∀b∈[e,it],iD X pins (upd H s.heap.objs.size (.tup [.int (i:Int),x])) b:=fun b hb=>⟨by rw[aU (Nat.ne_of_lt (lt b hb))];exact(hf b hb).1,(hf b hb).2⟩
  have k1:∀b o,b∉[e,it]->(s.heap.push { cls:=.type "tuple",data:=.seq #[.int i s.toks,u1] }).get? b=some o->h'.get? b=some o:=fun b o nb e=>by
   simp only[List.mem_cons,List.not_mem_nil,or_false,not_or] at nb
   by_cases hb:b=s.heap.objs.size
   ·subst hb;rw[Heap.get?_push_size _ rfl] at e
    cases e
    exact g3
   ·have e0:s.heap.get? b=some o:=by rw[Heap.get?_push_ne _ _ _ hb] at e;exact e
    exact kk' b o nb.1 nb.2 e0
  have I2:Inv X pins σ (upd H s.heap.objs.size (.tup [.int (i:Int),x])) { s with heap:=h',toks:=s.toks+1 }:=Inv.turnedL (s:={ s with heap:=s.heap.push { cls:=.type "tuple",data:=.seq #[.int i s.toks,u1] },toks:=s.toks+1 }) (t':=s.toks+1) I1 k1 hf1;refine⟨_,rfl,wpAny_letOwnedTupleGo_enum (s:={ s with heap:=h',toks:=s.toks+1 }) g1 fun h2 q1 q2=>?_⟩;have kz:∀b o,b≠e->h'.get? b=some o->h2.get? b=some o:=fun b o nb e=>(q2.2 b nb).trans e;have I3:Inv X pins σ (upd H s.heap.objs.size (.tup [.int (i:Int),x])) { s with heap:=h2,toks:=s.toks+1 }:=Inv.turnedL (s:={ s with heap:=h',toks:=s.toks+1 }) (t':=s.toks+1) (fp:=[e]) I2 (fun b o nb e=>kz b o (by simpa using nb) e) fun b hb=>hf1 b (by simp at hb;simp[hb]);obtain⟨o3,e3,c3,d3⟩:=g2;refine⟨.ref s.heap.objs.size,_,I3,rfl,⟨_,x,rfl,hn,rfl,fun xs' h1=>?_⟩,⟨ne,⟨_,q1⟩,⟨o3,kz _ _ ne.symm e3,c3,d3⟩⟩,fun b hb=>(hf1 b hb).1⟩;rw[I.list_inj h1 hx];exact ex
 done:=by
  intro X hP hw hK hc i pins s σ H E I hf st hg;subst hP hw hK;obtain⟨ne,⟨old,he⟩,t1⟩:=st;obtain⟨xs,hx,hor⟩:=hg;obtain⟨its1,rv1,p1,z1⟩:=I.list hx;have l1':=rv1.length;refine wpAny_pyNext_enum_end (I.ok.hd hc) he t1 p1.isList (by simp;omega) fun h' kk'=>⟨rfl,?_⟩
  refine I.turnedL (t':=s.toks) (fun b o nb e=>?_) hf;simp only[List.mem_cons,List.not_mem_nil,or_false,not_or] at nb;exact kk' b o nb.2 e
 self:=fun A i s Q E st h=>by
  obtain⟨ne,⟨old,he⟩,t1⟩:=st;exact wpAny_pyIter_enum he h
section
variable {X:Cx}
def Gu (K:PySem.W.Frag)(ta:TA):TI:=fun σ H R=>ta σ H fun vs H1=>∃a,vs=[.ref a]/\(∃xs,SqL K H1 a xs)/\R (Ite K a) H1
theorem zU {e1:Expr}{ta:TA}{p pos:Pos}{elts:List Expr}{kk:Nat}{tpos:Pos}(hg:Gl X "enumerate")(hm:X.mg "enumerate"=none)(hv:bootBuiltins "enumerate"=some (.type "enumerate"))(ha:PA X [e1] ta)(hs:starEach [e1] X.env=(false,eval e1 X.env) :: starEach [] X.env:=by rfl)(hpl:(backTo pos (starEach [] X.env)).any (·.1)=false:=by rfl):PI X (.Tuple elts kk tpos) (.Call (.Name "enumerate" p) [e1] [] pos) (Gu X.K ta):=by
 intro pins s σ H R I h;refine Call_ (jW I hg hm hv (PyProof.Rows.callWith_type1 (thn (ha pos pins s σ H _ I h) fun us s1 ⟨vs,H1,I1,r1,q1⟩=>?_) hs hpl));obtain⟨a,rfl,⟨xs,hx⟩,q⟩:=q1;obtain⟨u,rfl,ra⟩:=oQ r1
 cases (show u=Value.ref a from ra)
 obtain⟨its1,rv1,p1,z1⟩:=I1.list hx;have la:a < s1.heap.objs.size:=by obtain⟨o,e,_⟩:=p1.isList;exact Heap.lt_size e
 refine call_enumerate_list p1.isList fun h' g1 g2 g3 kk'=>?_;refine wpAny_pyIter_enum g1 ?_;refine⟨s1.heap.objs.size+1,[s1.heap.objs.size+1,s1.heap.objs.size],_,Ite X.K a,H1,rfl,I1.kept (t':=s1.toks) kk',wK _ _ a,⟨?_,⟨_,g1⟩,g2⟩,fun c hc=>?_,q⟩
 ·exact Nat.succ_ne_self _
 ·have hle:s1.heap.objs.size<=c:=by
   simp only[List.mem_cons,List.not_mem_nil,or_false] at hc;rcases hc with rfl | rfl<;>first | exact Nat.le_add_right _ _ | exact Nat.le_refl _
  exact I1.fpOk hle (I1.hok.fresh hle)
theorem wP {K:PySem.W.Frag}{a:Addr}{xs:List V}{nl:Nat}{fr:List Nat}{g:TG}{tt:TT}{te:TE}{σ:St}{D:Addr}{H1:Hp}{Q:VK}(Pv:Nat->List V->Hp->Prop)(h0:Pv 0 [] (upd H1 D (.lst [])))(hl:∀i zs H,Pv i zs H->H D=some (.lst zs))(hx:∀i zs H,i<=xs.length->Pv i zs H->SqL K H a xs)(hs:∀i zs x H T,xs[i]?=some x->Pv i zs H->H T=none->∀(C:Nat->List V->Hp->Prop),(∀zs H,Pv (i+1) zs H->C (i+1) zs H)->yN nl fr g tt te σ D C i zs (.ref T) (upd H T (.tup [.int (i:Int),x])))(hd:∀zs H,Pv xs.length zs H->Q (.ref D) H) :
  uL (Ite K a) nl fr g tt te σ D H1 Q:=by
 refine⟨fun i m zs H=>m=xs.length - i/\i<=xs.length/\Pv i zs H,⟨_,rfl,Nat.zero_le _,h0⟩,?_⟩;rintro i m zs H ⟨rfl,hi,p⟩;refine⟨hl i zs H p,?_⟩;have qx:=hx i zs H hi p
 by_cases hlt:i < xs.length
 ·refine .inr ⟨⟨xs,xs[i],qx,by simp[hlt]⟩,fun v H' z=>?_⟩;obtain⟨T,x,rfl,hT,rfl,hh⟩:=z;exact hs i zs x H T (hh xs qx) p hT (fun j zs Hz=>∃m',m' < xs.length - i/\m'=xs.length - j/\j<=xs.length/\Pv j zs Hz) fun zs Hz z=>⟨xs.length - (i+1),by omega,rfl,hlt,z⟩
 ·have e:i=xs.length:=by omega
  subst e;exact .inl ⟨⟨xs,qx,Nat.le_refl _⟩,hd zs H p⟩
end
end L2
set_option maxHeartbeats 4000000
namespace Mq
abbrev Mat:=Nat->Nat->Rat
end Mq
set_option maxHeartbeats 1000000
set_option maxHeartbeats 2000000
namespace PySem
open Sem (wp)
section
variable {prog:Program} {w:World} {A:Around} {E:Value->Shared->Prop} {h:Heap} {g:Array GenState} {d:Drawn} {t:Nat} {os:OsState}
variable {nm q:Str} {C N f:Addr} {bs bm bmB:List Value} {hdct:Bool} {sn:List Str} {sub:List Value} {ab:Bool} {col:Option Bool} {dd:Option Addr} {k0 k1 k2 k3 k5:Option Value} {B Bn newId nid initId inN:String} {bmN:List Value}
abbrev Dc (h:Heap)(C:Addr)(rest:List Value):Heap:=(h.push { cls:=.type "tuple",data:=.seq rest.toArray }).push { cls:=.ref C,data:=.fields #[.ref h.objs.size,.none,.none,.none,.bool false,.none] }
end
end PySem
set_option maxHeartbeats 4000000
set_option maxHeartbeats 2000000
set_option maxHeartbeats 4000000
set_option maxHeartbeats 1000000
set_option maxHeartbeats 4000000
set_option maxHeartbeats 1000000
set_option maxHeartbeats 4000000
namespace Shp
open PySem L2
abbrev bq (n m:Nat):Nat:=(n+4)*(m+1)+7
end Shp
namespace L2
open PySem PyProof.Rows
theorem aK.calm {P:Program}{w:World}{K:PySem.W.Frag}{mg:Str->Option Value}{base:Heap}{k:Nat}{f:Addr}{fd:FuncData}{ps:List Str}{sp:Sp}(F:aK P w K mg base (CX1 P w) k f fd ps sp) :
  aK P w K mg base CX0 k f fd ps (fun vs H Q _=>sp vs H Q (fun _ _ _=>False)):=
 ⟨fun vs H Q E q=>F.len vs H Q _ q,fun A outer s H args us vs Q E hr he hb hv hs=>codeAny_mono (F.run A outer s H args us vs Q _ hr he hb hv hs) fun r s' h=>by
  cases r with
  |ok fl=>cases fl<;>exact h
  |error e=>
   obtain⟨a,C,d,H',_,_,_,_,_,_,z⟩:=h;exact z.elim⟩
end L2
set_option maxHeartbeats 2000000
namespace L2
open PySem PySem.Spec PyProof.Rows
theorem aK.weak {P:Program}{w:World}{K:PySem.W.Frag}{mg:Str->Option Value}{base:Heap}{CX:CXT}{k:Nat}{f:Addr}{fd:FuncData}{ps:List Str}{sp sp':Sp}(F:aK P w K mg base CX k f fd ps sp)(h:∀vs H Q E,sp' vs H Q E->sp vs H Q E):aK P w K mg base CX k f fd ps sp':=
 ⟨fun vs H Q E q=>F.len vs H Q E (h _ _ _ _ q),fun A outer s H args us vs Q E hr he hb hv hs=>F.run A outer s H args us vs Q E hr he hb hv (h _ _ _ _ hs)⟩
abbrev Hm (m i j:Int):Prop:=0<=i/\i < m/\0<=j/\j < m
inductive Zv (K:PySem.W.Frag) (H:Hp):V->Option Mq.Q2->Prop where
 |fr {u:Addr} {p:Mq.Q2} (h:Fq K H u p) (l:Mq.Low p):Zv K H (.ref u) (some p)
 |ty {v:V} {t:Value} (h:TyQ K H v t) (n:PySem.W.kitOne K t (.type "tuple")=some false):Zv K H v none
 |len {u:Addr} {x y z:V} (h:SqT K H u [x,y,z]):Zv K H (.ref u) none
 |n0 {u:Addr} {x y:V} {t:Value} (h:SqT K H u [x,y]) (ty:hJ K H x t) (n:lT t):Zv K H (.ref u) none
 |n1 {u:Addr} {i:Int} {y:V} {t:Value} (h:SqT K H u [.int i,y]) (ty:hJ K H y t) (n:lT t):Zv K H (.ref u) none
 |fb {u:Addr} {p:Mq.Q2} (h:Fq K H u p) (c:p.2 < 1\/(1<=p.2/\Mq.gc p.1 p.2≠1)):Zv K H (.ref u) none
abbrev Bz (o:Option Mq.Q2):Prop:=∀p,o=some p->Mq.Bd 1000 p
def yG (K:PySem.W.Frag):Sp:=fun vs H Q _=>∃(v:V) (o:Option Mq.Q2),vs=[v]/\Zv K H v o/\Q (.bl o.isSome) H
inductive dP (CK:Kd->Addr) (K:PySem.W.Frag) (H:Hp):List V->List RD->Prop where
 |nil:dP CK K H [] []
 |cons {x z:Addr} {k:Kd} {i j:Int} {p:Mq.Q2} {xs:List V} {ds:List RD} (h:Rw CK H x k (.int i) (.int j) (.ref z)) (f:Fq K H z p) (q:dP CK K H xs ds):dP CK K H (.ref x :: xs) ((k,i,j,p) :: ds)
section
variable {CK:Kd->Addr} {K:PySem.W.Frag} {H H':Hp}
theorem dP.same (e:bA H H'):∀{xs:List V} {ds:List RD},dP CK K H xs ds->dP CK K H' xs ds
 |_,_,.nil=>.nil
 |_,_,.cons h f q=>.cons (h.same e) (e.fq f) (dP.same e q)
theorem dP.length:∀{xs:List V} {ds:List RD},dP CK K H xs ds->xs.length=ds.length
 |_,_,.nil=>rfl
 |_,_,.cons _ _ q=>by simp[dP.length q]
theorem dP.app:∀{xs ys:List V} {ds es:List RD},dP CK K H xs ds->dP CK K H ys es->dP CK K H (xs++ys) (ds++es)
 |_,_,_,_,.nil,r=>r
 |_,_,_,_,.cons h f q,r=>.cons h f (dP.app q r)
theorem dP.at:∀{xs:List V} {ds:List RD} {q:Nat} {d:RD},dP CK K H xs ds->ds[q]?=some d->∃x z,xs[q]?=some (.ref x)/\Rw CK H x d.1 (.int d.2.1) (.int d.2.2.1) (.ref z)/\Fq K H z d.2.2.2
 |_,_,_,_,.nil,h=>by simp at h
 |_,_,0,_,.cons h f _,e=>by simp at e;subst e;exact⟨_,_,rfl,h,f⟩
 |_,_,i+1,_,.cons _ _ q,e=>by simpa using dP.at q (by simpa using e)
theorem dP.upd {l:Addr}{ys:List V}{o:HO}(hl:H l=some (.lst ys)):∀{xs:List V} {ds:List RD},dP CK K H xs ds->dP CK K (L2.upd H l o) xs ds
 |_,_,.nil=>.nil
 |_,_,.cons (h:=h) f q=>by
  obtain⟨dx,e⟩:=h;exact .cons ⟨dx,by rw[aU (fY e hl (fun z=>by cases z))];exact e⟩ (f.upd hl) (dP.upd hl q)
end
def rL (CN:Addr)(K:PySem.W.Frag)(CK:Kd->Addr):Sp:=fun vs H Q _=>∃(n l:Addr) (m:Int) (ds:List RD),vs=[.ref n]/\dB CN K H n l m ds/\ds.length<=100/\∀a xs H',bA H H'->H a=none->H' a=some (.lst xs)->dP CK K H' xs ds->Q (.ref a) H'
end L2
set_option maxHeartbeats 1000000
namespace L2
open PySem PySem.Spec PyProof.Rows
theorem uC:∀{m:Nat} {S:List Nat},S.Nodup->(∀p∈S,p < m)->S.length<=m
 |0,[],_,_=>Nat.le_refl _
 |0,p :: S,_,h=>absurd (h p (List.mem_cons_self ..)) (Nat.not_lt_zero _)
 |m+1,S,nd,h=>by
  have e:=uC (m:=m) (S:=S.erase m) (nd.erase m) (fun p hp=>by
   have h1:=h p (List.mem_of_mem_erase hp);have h2:p≠m:=fun z=>by rw[z] at hp;exact(List.Nodup.not_mem_erase nd) hp
   omega)
  have:=List.length_erase_le (a:=m) (l:=S);have h3:S.length<=(S.erase m).length+1:=by
   rw[List.length_erase];split<;>omega
  omega
end L2
set_option maxHeartbeats 2000000
namespace L2
open PySem PySem.Spec PyProof.Rows
abbrev Stp:=Nat × Int
abbrev Br:=Nat × Nat × Nat
def stF (es:List Br)(p:Nat):List (Stp × Nat):=es.filterMap fun e=>if e.2.1=p then some ((e.1,1),e.2.2) else if e.2.2=p then some ((e.1,-1),e.2.1) else none
abbrev WS:=List (Nat × List Stp)
abbrev Sk:=Kd × Nat × Nat
abbrev RS:=List Br × List (Nat × List Stp)
inductive Sts (K:PySem.W.Frag) (H:Hp):List V->List Stp->Prop where
 |nil:Sts K H [] []
 |cons {t:Addr} {n:Nat} {w:Int} {xs:List V} {st:List Stp} (h:SqT K H t [.int (n:Int),.int w]) (q:Sts K H xs st):Sts K H (.ref t :: xs) ((n,w) :: st)
section
variable {K:PySem.W.Frag} {H H':Hp}
theorem Sts.same (e:bA H H'):∀{xs:List V} {st:List Stp},Sts K H xs st->Sts K H' xs st
 |_,_,.nil=>.nil
 |_,_,.cons h q=>.cons (e.seqT h) (Sts.same e q)
theorem Sts.length:∀{xs:List V} {st:List Stp},Sts K H xs st->xs.length=st.length
 |_,_,.nil=>rfl
 |_,_,.cons _ q=>by simp[Sts.length q]
theorem Sts.app:∀{xs ys:List V} {st su:List Stp},Sts K H xs st->Sts K H ys su->Sts K H (xs++ys) (st++su)
 |_,_,_,_,.nil,r=>r
 |_,_,_,_,.cons h q,r=>.cons h (Sts.app q r)
theorem Sts.get:∀{xs:List V} {st:List Stp} {i:Nat} {x:V},Sts K H xs st->xs[i]?=some x->∃t s,x=.ref t/\st[i]?=some s/\SqT K H t [.int (s.1:Int),.int s.2]
 |_,_,_,_,.nil,h=>by simp at h
 |_,_,0,_,.cons h _,e=>by simp at e;subst e;exact⟨_,_,rfl,rfl,h⟩
 |_,_,i+1,_,.cons _ q,e=>by simpa using Sts.get q (by simpa using e)
theorem Sts.upd {l:Addr}{ys:List V}{o:HO}(hl:H l=some (.lst ys)):∀{xs:List V} {st:List Stp},Sts K H xs st->Sts K (L2.upd H l o) xs st
 |_,_,.nil=>.nil
 |_,_,.cons h q=>.cons (SqT.upd h hl) (Sts.upd hl q)
end
inductive Sds (K:PySem.W.Frag) (H:Hp):List V->List (Stp × Nat)->Prop where
 |nil:Sds K H [] []
 |cons {t s:Addr} {n x:Nat} {w:Int} {xs:List V} {st:List (Stp × Nat)} (h:SqT K H t [.ref s,.int (x:Int)]) (g:SqT K H s [.int (n:Int),.int w]) (q:Sds K H xs st):Sds K H (.ref t :: xs) (((n,w),x) :: st)
section
variable {K:PySem.W.Frag} {H H':Hp}
theorem Sds.same (e:bA H H'):∀{xs:List V} {st:List (Stp × Nat)},Sds K H xs st->Sds K H' xs st
 |_,_,.nil=>.nil
 |_,_,.cons h g q=>.cons (e.seqT h) (e.seqT g) (Sds.same e q)
theorem Sds.length:∀{xs:List V} {st:List (Stp × Nat)},Sds K H xs st->xs.length=st.length
 |_,_,.nil=>rfl
 |_,_,.cons _ _ q=>by simp[Sds.length q]
theorem Sds.app:∀{xs ys:List V} {st su:List (Stp × Nat)},Sds K H xs st->Sds K H ys su->Sds K H (xs++ys) (st++su)
 |_,_,_,_,.nil,r=>r
 |_,_,_,_,.cons h g q,r=>.cons h g (Sds.app q r)
theorem Sds.get:∀{xs:List V} {st:List (Stp × Nat)} {i:Nat} {x:V},Sds K H xs st->xs[i]?=some x->∃t u s,x=.ref t/\st[i]?=some s/\SqT K H t [.ref u,.int (s.2:Int)]/\SqT K H u [.int (s.1.1:Int),.int s.1.2]
 |_,_,_,_,.nil,h=>by simp at h
 |_,_,0,_,.cons h g _,e=>by simp at e;subst e;exact⟨_,_,_,rfl,rfl,h,g⟩
 |_,_,i+1,_,.cons _ _ q,e=>by simpa using Sds.get q (by simpa using e)
theorem Sds.upd {l:Addr}{ys:List V}{o:HO}(hl:H l=some (.lst ys)):∀{xs:List V} {st:List (Stp × Nat)},Sds K H xs st->Sds K (L2.upd H l o) xs st
 |_,_,.nil=>.nil
 |_,_,.cons h g q=>.cons (SqT.upd h hl) (SqT.upd g hl) (Sds.upd hl q)
end
def Ge (ds:List RD)(es:List Br):Prop:=∀e∈es,∃d,ds[e.1]?=some d/\d.2.1=(e.2.1:Int)/\d.2.2.1=(e.2.2:Int)
def uD (K:PySem.W.Frag)(CK:Kd->Addr):Sp:=fun vs H Q _=>∃(a b:Addr) (xs:List V) (ds:List RD) (es:List Br) (p:Nat),vs=[.ref a,.ref b,.int (p:Int)]/\SqL K H a xs/\dP CK K H xs ds/\SqL K H b (es.map fun e=>V.int (e.1:Int))/\Ge ds es/\es.length<=100/\∀l ys H',bA H H'->H l=none->H' l=some (.lst ys)->Sds K H' ys (stF es p)->Q (.ref l) H'
end L2
set_option maxHeartbeats 1000000
namespace Mq
inductive Wt:List Q2->Nat->Prop where
 |nil:Wt [] 0
 |cons {p:Q2} {ps:List Q2} {n w:Nat} (h:Bd n p) (q:Wt ps w):Wt (p :: ps) (n+1+w)
theorem Wt.at:∀{ps:List Q2} {w i:Nat} {p:Q2},Wt ps w->ps[i]?=some p->∃w' n,Wt (ps.take i) w'/\Bd n p/\w' + n+1<=w
 |_,_,_,_,.nil,h=>by simp at h
 |_,_,0,_,.cons (n:=n) h q,e=>by
  simp at e;subst e;exact⟨0,n,.nil,h,by omega⟩
 |_,_,i+1,_,.cons (n:=n) h q,e=>by
  obtain⟨w',n',a,b,c⟩:=Wt.at q (by simpa using e);exact⟨n+1+w',n',.cons h a,b,by omega⟩
theorem Wt.fold:∀{ps:List Q2} {w k:Nat} {p:Q2},Wt ps w->Pos ps->1<=p.2->Bd k p->Bd (k+w) (ps.foldl dQ p)
 |_,_,_,_,.nil,_,_,h=>h
 |_,_,k,p,.cons (p:=q) (n:=n) (w:=w) h r,hp,p1,b=>by
  have q1:=hp q (by simp);have:=Wt.fold r (fun x hx=>hp x (List.mem_cons_of_mem _ hx)) (gK p1 q1).pos (oY b h p1 q1);exact this.mono (by omega)
theorem Wt.tot {ps:List Q2}{w:Nat}(h:Wt ps w)(hp:Pos ps):Bd (1+w) (tot ps):=h.fold hp (by decide) ⟨show (0:Nat) < 2 ^ 1 by decide,show (1:Nat) < 2 ^ 1 by decide⟩
theorem mH (ps:List Q2)(p:Q2):tot (ps++[p])=dQ (tot ps) p:=by unfold tot;rw[List.foldl_append];rfl
end Mq
namespace L2
open PySem PySem.Spec PyProof.Rows
abbrev RE:=RD × Mq.Q2
def zC (K:PySem.W.Frag):Sp:=fun vs H Q _=>∃(a:Addr) (xs:List V) (ps:List Mq.Q2) (w:Nat),vs=[.ref a]/\SqL K H a xs/\Fqs K H xs ps/\Mq.Pos ps/\Mq.Wt ps w/\w+1<=9000/\∀r H',bA H H'->Fq K H' r (Mq.tot ps)->Q (.ref r) H'
end L2
set_option maxHeartbeats 4000000
namespace K62
open PySem L2
def top (i:Nat):Stmt:=PySem.Challenge.pw_ohmyard_k62_least_roads.main.body.getD i (.Pass ⟨0,0,0,0⟩)
section
variable {P:Program} {w:World} {K:PySem.W.Frag} {mg:Str->Option Value} {base:Heap} {f g1 g2 g3 g4 g5 g6 g7 g8:Addr} {fd gd1 gd2 gd3 gd4 gd5 gd6 gd7 gd8:FuncData} {CX:CXT}
abbrev jJ:Stmt:=top 12
theorem Aa:aS ["thing"] ["thing"] (aE jJ):=⟨rfl,rfl,rfl,by decide +kernel,rfl,by decide +kernel,by decide +kernel⟩
theorem yL {dV:Value}(F:bS K "is_whole" "is_whole" jJ dV f fd)(b:Bl mg):aK P w K mg base CX 1 f fd ["thing"] (jD K):=by
 refine F.ok Aa (fun vs H Q E h=>?_) (fun cdv A outer s H vs Q E hr h=>?_)
 ·obtain⟨x,rfl,_⟩:=h;rfl
 obtain⟨x,rfl,h⟩:=h;refine⟨_,aG (aQ (iE (cT (i:=0) rfl (Or.inl rfl) b.isi b.int rfl rfl PyProof.Rows.boot_int) (jU (El (cT (i:=0) rfl (Or.inl rfl) b.isi b.bool rfl rfl PyProof.Rows.boot_bool))))),?_⟩;rcases h with ⟨i,rfl,q⟩ | ⟨t,ty,nw,q⟩
 ·exact⟨_,_,_,rfl,.of (.int i),rfl,_,rfl,dF ⟨_,_,false,rfl,.of (.int i),(by with_unfolding_all rfl),_,rfl,q⟩⟩
 ·rcases nw with rfl | rfl | rfl | rfl | rfl
  ·exact⟨_,_,true,rfl,.of ty,(by with_unfolding_all rfl),_,rfl,dF ⟨_,_,_,rfl,.of ty,rfl,_,rfl,q⟩⟩
  all_goals exact⟨_,_,false,rfl,.of ty,(by with_unfolding_all rfl),_,rfl,bX q⟩
abbrev sGc:Stmt:=top 14
theorem Bq:aS ["one","other","rest"] ["one","other"] (aE sGc):=⟨rfl,rfl,rfl,by decide +kernel,rfl,by decide +kernel,by decide +kernel⟩
theorem Fv {dV:Value}(F:bS K "greatest_common" "greatest_common" sGc dV f fd)(b:Bl mg):aK P w K mg base CX 1 f fd ["one","other"] Dt:=by
 refine F.ok Bq (fun vs H Q E h=>?_) (fun cdv A outer s H vs Q E hr h=>?_)
 ·obtain⟨x,y,rfl,_⟩:=h;rfl
 obtain⟨x,y,rfl,q⟩:=h;refine⟨_,aC (kZ PassesOwn.never (aZ kN (pv 1) aB (bC _)) (aC (aT (i:=2) Bq.nd rfl (Or.inl rfl) (aY iS (pv 0) (pv 1)))
  (aC (aT (i:=0) Bq.nd rfl (Or.inl rfl) (pv 1)) (aG (aT (i:=1) Bq.nd rfl (Or.inl rfl) (pv 2))))))
  (aG (aQ (bQ lG rfl b.abs PyProof.Rows.boot_abs (aA (pv 0) aD)))),?_⟩
 refine qT (fun σ H'=>H'=H/\∃u v z,σ=[some (.int u),some (.int v),z]/\Mq.gc u v=Mq.gc x y) (fun σ _=>match σ with | [_,some (.int v),_]=>v.natAbs | _=>0) ⟨rfl,x,y,none,rfl,rfl⟩ ?_ ?_
 ·rintro σ H' ⟨rfl,u,v,z,rfl,e⟩;refine⟨_,rfl,rfl,_,rfl,?_⟩;refine pL (fun c=>?_) (fun c=>?_)
  ·have hv:v≠0:=by intro q;subst q;simp at c
   refine⟨_,rfl,_,rfl,_,_,rfl,rfl,hv,_,rfl,_,rfl,⟨rfl,v,Int.fmod u v,_,rfl,(Mq.vE u v).trans e⟩,Mq.nM hv⟩
  ·have hv:v=0:=by
    simp at c;exact c
   subst hv;refine⟨_,rfl,_,rfl,?_⟩;rw[<- Mq.uT,e];exact q
 ·rintro σ H Q Q' m ⟨v,h1,h2,k,h3,h4⟩;exact⟨v,h1,h2,k,h3,m _ _ h4⟩
abbrev jY:Stmt:=top 17
theorem Ag:aS ["one","other"] ["one","other"] (aE jY):=⟨rfl,rfl,rfl,by decide +kernel,rfl,by decide +kernel,by decide +kernel⟩
theorem wY {dV:Value}(F:bS K "under" "under" jY dV f fd):aK P w K mg base CX 1 f fd ["one","other"] (kU K):=by
 refine F.ok Ag (fun vs H Q E h=>?_) (fun cdv A outer s H vs Q E hr h=>?_)
 ·obtain⟨a,b,p,q,n,m,rfl,_⟩:=h;rfl
 obtain⟨a,b,p,q,n,m,rfl,ha,hb,bp,bq,hn,z⟩:=h;refine⟨_,aG (aQ (dM oG (aY cJ (aL aM (pv 0) aB (fun _ _=>rfl)) (aL aM (pv 1) aB (fun _ _=>rfl))) (aY cJ (aL aM (pv 1) aB (fun _ _=>rfl)) (aL aM (pv 0) aB (fun _ _=>rfl))) (bC _))),?_⟩;exact dJ rfl ha (cD rfl hb (cK bp.a bq.b (by omega) (by omega) (dJ rfl hb (cD rfl ha (cK bq.a bp.b (by omega) (by omega) ⟨_,_,rfl,rfl,z⟩)))))
abbrev fQ:Stmt:=top 15
theorem sX:aS ["top","bottom","shared"] ["top","bottom"] (aE fQ):=⟨rfl,rfl,rfl,by decide +kernel,rfl,by decide +kernel,by decide +kernel⟩
theorem Bg {dV:Value}(F:bS K "fraction" "fraction" fQ dV f fd)(G1:aK P w K mg base CX0 1 g1 gd1 ["thing"] (jD K))(b1:aR K gd1 ["thing"] [])(k1:PySem.W.keepIn K (.ref g1)=true)(m1:mg "is_whole"=some (.ref g1))(G2:aK P w K mg base CX0 1 g2 gd2 ["one","other"] Dt)(b2:aR K gd2 ["one","other"] [])(k2:PySem.W.keepIn K (.ref g2)=true)(m2:mg "greatest_common"=some (.ref g2)) :
  aK P w K mg base CX 2 f fd ["top","bottom"] jH:=by
 refine F.ok sX (fun vs H Q E h=>?_) (fun cdv A outer s H vs Q E hr h=>?_)
 ·obtain⟨t,b,n,rfl,_⟩:=h;rfl
 obtain⟨t,b,n,rfl,hb,hB,hn,q⟩:=h;refine⟨_,aC (bH (PW.pt (cW (cC (bN (aI G1 hr rfl m1 k1 b1 .nil aO (aA (pv 0) aD)))) (cW (cC (bN (aI G1 hr rfl m1 k1 b1 .nil aO (aA (pv 1) aD)))) (cR (aZ dE (pv 1) aB (bC _)))))) wM aV)
  (aC (aT (i:=2) sX.nd rfl (Or.inl rfl) (aI G2 hr rfl m2 k2 b2 .nil aO (aA (pv 0) (aA (pv 1) aD))))
  (aC (bH (aZ oG (pv 1) aB (bC _)) (aG (aT (i:=2) sX.nd rfl (Or.inl rfl) (oH kM (pv 2)))) aV)
  (aG (aQ (bV (aA (aY jA (pv 0) (pv 2)) (aA (aY jA (pv 1) (pv 2)) aD))))))),?_⟩
 have hd:=Mq.jM (t:=t) hb;have hdB:Mq.B n (Mq.dvr t b):=hB.le (Mq.zL hb);have c0:decide (V.int b=V.int 0)=false:=decide_eq_false (fun z=>hb (by cases z;rfl));refine⟨_,rfl,_,rfl,.inl ⟨t,rfl,_,rfl,bX ⟨_,rfl,_,rfl,.inl ⟨b,rfl,_,rfl,bX ⟨_,rfl,rfl,_,rfl,?_⟩⟩⟩⟩⟩;rw[c0];refine bX ⟨_,rfl,_,rfl,t,b,rfl,?_⟩;refine⟨_,rfl,_,_,rfl,rfl,_,rfl,?_⟩;refine pL (fun c=>?_) (fun c=>?_)
 ·have hlt:b < 0:=of_decide_eq_true c;have e:Mq.dvr t b=-Mq.gc t b:=by unfold Mq.dvr;rw[if_pos hlt]
  rw[e] at hd hdB;have q':vX H Q (t.fdiv (-Mq.gc t b),b.fdiv (-Mq.gc t b)):=by
   have z:=q;unfold Mq.red at z;rw[e] at z;exact z
  refine⟨_,rfl,_,rfl,?_⟩;refine⟨_,rfl,_,rfl,?_⟩;refine dR hd hdB hn ⟨_,rfl,_,rfl,dR hd hdB hn ⟨by show 2<=sizeLine;decide,fun p hp=>?_⟩⟩;exact q' p _ (aH hp _) aF
 ·have hlt:¬b < 0:=fun z=>c (decide_eq_true z);have e:Mq.dvr t b=Mq.gc t b:=by unfold Mq.dvr;rw[if_neg hlt]
  rw[e] at hd hdB;have q':vX H Q (t.fdiv (Mq.gc t b),b.fdiv (Mq.gc t b)):=by
   have z:=q;unfold Mq.red at z;rw[e] at z;exact z
  refine⟨_,rfl,_,rfl,?_⟩;refine dR hd hdB hn ⟨_,rfl,_,rfl,dR hd hdB hn ⟨by show 2<=sizeLine;decide,fun p hp=>?_⟩⟩;exact q' p _ (aH hp _) aF
abbrev oM:Stmt:=top 16
theorem Db:aS ["one","other"] ["one","other"] (aE oM):=⟨rfl,rfl,rfl,by decide +kernel,rfl,by decide +kernel,by decide +kernel⟩
theorem zR {dV:Value}(F:bS K "plus" "plus" oM dV f fd)(G1:aK P w K mg base CX0 2 g1 gd1 ["top","bottom"] jH)(b1:aR K gd1 ["top","bottom"] [])(k1:PySem.W.keepIn K (.ref g1)=true)(m1:mg "fraction"=some (.ref g1)) :
  aK P w K mg base CX 3 f fd ["one","other"] (nV K Mq.dQ):=by
 refine F.ok Db (fun vs H Q E h=>?_) (fun cdv A outer s H vs Q E hr h=>?_)
 ·obtain⟨a,b,p,q,n,m,rfl,_⟩:=h;rfl
 obtain⟨a,b,p,q,n,m,rfl,ha,hb,lp,lq,bp,bq,hn,z⟩:=h;refine⟨_,aG (aQ (aI G1 hr rfl m1 k1 b1 .nil aO (aA
  (aY cX (aY cJ (aL aM (pv 0) aB (fun _ _=>rfl)) (aL aM (pv 1) aB (fun _ _=>rfl))) (aY cJ (aL aM (pv 1) aB (fun _ _=>rfl)) (aL aM (pv 0) aB (fun _ _=>rfl))))
  (aA (aY cJ (aL aM (pv 0) aB (fun _ _=>rfl)) (aL aM (pv 1) aB (fun _ _=>rfl))) aD)))),?_⟩
 refine dJ rfl ha (cD rfl hb (cK bp.a bq.b (by omega) (by omega) (dJ rfl hb (cD rfl ha (cK bq.a bp.b (by omega) (by omega) ⟨_,_,rfl,rfl,?_⟩)))));refine cD rfl ha (cD rfl hb (cK bp.b bq.b (by omega) (by omega) ⟨_,_,n+m,rfl,Mq.lB lp lq,bp.b.mul bq.b,by omega,z⟩))
variable {CR:Addr} {CK:Kd->Addr} {fW fJ fT fS:Kd->Addr} {fdW fdJ fdT fdS:Kd->FuncData}
abbrev kC:Stmt:=cP (top 22) 0
theorem Aw:aS ["self","start","goal","size"] ["self","start","goal","size"] (aE kC):=⟨rfl,rfl,rfl,by decide +kernel,rfl,by decide +kernel,by decide +kernel⟩
theorem xG {dV:Value}(F:bS K "__init__" "Row.__init__" kC dV f fd)(T:RT K mg CR CK):aK P w K mg base CX 1 f fd ["self","start","goal","size"] (uP CK):=by
 refine F.ok Aw (fun vs H Q E h=>?_) (fun cdv A outer s H vs Q E hr h=>?_)
 ·obtain⟨x,dx,k,s,g,z,rfl,_⟩:=h;rfl
 obtain⟨x,dx,k,s,g,z,rfl,hx,q⟩:=h;refine⟨_,(aC (lC (pv 0) (pv 1) rfl) (aC (lC (pv 0) (pv 2) rfl) (aG (lC (pv 0) (pv 3) rfl)))),?_⟩;have l1:=dU ("start":Str) s [];have l2:=dU ("goal":Str) g (eS "start" s []);simp only[List.length_nil] at l1;refine⟨_,rfl,_,rfl,x,CK k,dx,[],rfl,hx,T.cl k,T.nS k,(by show 0 < 1000;decide),?_⟩;refine⟨_,rfl,_,rfl,x,CK k,dx,_,rfl,aF,T.cl k,T.nG k,by omega,?_⟩;refine⟨_,rfl,_,rfl,x,CK k,dx,_,rfl,aF,T.cl k,T.nZ k,by omega,?_⟩;rw[jC,jC];exact q
abbrev fC:Stmt:=cP (top 23) 0
theorem wH:aS ["self"] ["self"] (aE fC):=⟨rfl,rfl,rfl,by decide +kernel,rfl,by decide +kernel,by decide +kernel⟩
theorem rM {dV:Value}(F:bS K "word" "Piece.word" fC dV f fd):aK P w K mg base CX 1 f fd ["self"] (jX .pc):=by
 refine F.ok wH (fun vs H Q E h=>?_) (fun cdv A outer s H vs Q E hr h=>?_)
 ·obtain⟨x,rfl,_⟩:=h;rfl
 obtain⟨x,rfl,q⟩:=h;exact⟨_,(aG (aQ cN)),q⟩
abbrev fD:Stmt:=cP (top 24) 0
theorem wR:aS ["self"] ["self"] (aE fD):=⟨rfl,rfl,rfl,by decide +kernel,rfl,by decide +kernel,by decide +kernel⟩
theorem tE {dV:Value}(F:bS K "word" "Push.word" fD dV f fd):aK P w K mg base CX 1 f fd ["self"] (jX .pu):=by
 refine F.ok wR (fun vs H Q E h=>?_) (fun cdv A outer s H vs Q E hr h=>?_)
 ·obtain⟨x,rfl,_⟩:=h;rfl
 obtain⟨x,rfl,q⟩:=h;exact⟨_,(aG (aQ cN)),q⟩
abbrev fA:Stmt:=cP (top 25) 0
theorem wD:aS ["self"] ["self"] (aE fA):=⟨rfl,rfl,rfl,by decide +kernel,rfl,by decide +kernel,by decide +kernel⟩
theorem sR {dV:Value}(F:bS K "word" "Hold.word" fA dV f fd):aK P w K mg base CX 1 f fd ["self"] (jX .ho):=by
 refine F.ok wD (fun vs H Q E h=>?_) (fun cdv A outer s H vs Q E hr h=>?_)
 ·obtain⟨x,rfl,_⟩:=h;rfl
 obtain⟨x,rfl,q⟩:=h;exact⟨_,(aG (aQ cN)),q⟩
abbrev jL:Stmt:=cP (top 22) 1
theorem By:aS ["self"] ["self"] (aE jL):=⟨rfl,rfl,rfl,by decide +kernel,rfl,by decide +kernel,by decide +kernel⟩
theorem yU {dV:Value}(F:bS K "told" "Row.told" jL dV f fd)(T:RT K mg CR CK)(GW:∀k,aK P w K mg base CX0 1 (fW k) (fdW k) ["self"] (jX k))(bW:∀k,aR K (fdW k) ["self"] [])(mW:∀k,gE K (CK k) "word" (fW k)):aK P w K mg base CX 2 f fd ["self"] (pC CK):=by
 refine F.ok By (fun vs H Q E h=>?_) (fun cdv A outer s H vs Q E hr h=>?_)
 ·obtain⟨x,k,s,g,z,rfl,_⟩:=h;rfl
 obtain⟨x,k,s,g,z,rfl,⟨dx,hx⟩,q⟩:=h;refine⟨_,(aG (aQ (bV (aA (gU (pv 0) T.cl mW GW hr bW .nil aO) (aA (cU (pv 0) rfl) (aA (cU (pv 0) rfl) (aA (cU (pv 0) rfl) aD))))))),?_⟩;refine⟨_,rfl,k,x,dx,_,rfl,hx,(iQ _ _ _ (by decide +kernel) (by decide +kernel) (by decide +kernel)),_,rfl,?_⟩;refine⟨_,rfl,x,CK k,dx,_,_,rfl,hx,T.cl k,T.nS k,gA _ _ _,?_⟩;refine⟨_,rfl,x,CK k,dx,_,_,rfl,hx,T.cl k,T.nG k,iJ _ _ _,?_⟩;refine⟨_,rfl,x,CK k,dx,_,_,rfl,hx,T.cl k,T.nZ k,mC _ _ _,?_⟩;exact⟨by show 4<=sizeLine;decide,q⟩
abbrev jR:Stmt:=top 26
theorem tV:aS ["told","word"] ["told"] (aE jR):=⟨rfl,rfl,rfl,by decide +kernel,rfl,by decide +kernel,by decide +kernel⟩
theorem xX {dV:Value}{gI:Addr}{gdI:FuncData}(F:bS K "row_of" "row_of" jR dV f fd)(T:RT K mg CR CK)(b:Bl mg)(ms:mg "str"=none)(GI:aK P w K mg base CX0 1 gI gdI ["self","start","goal","size"] (uP CK))(bI:aR K gdI ["self","start","goal","size"] [])(MK:∀k,Mk K (CK k) gI):aK P w K mg base CX 3 f fd ["told"] (mL K CK):=by
 refine F.ok tV (fun vs H Q E h=>?_) (fun cdv A outer s H vs Q E hr h=>?_)
 ·obtain⟨t,v,s,g,z,rfl,_⟩:=h;rfl
 obtain⟨t,v,s,g,z,rfl,hT,k,rfl,q⟩:=h;refine⟨_,(aC (aT (i:=1) tV.nd rfl (Or.inl rfl) (aL aM (pv 0) aB (fun _ _=>rfl)))
  (aC (bH (PW.pt (kH (bN (cT (i:=1) rfl (Or.inl rfl) b.isi ms rfl rfl PyProof.Rows.boot_str)) (gX (aZ dE (pv 1) cN (bC _))))) (aG (aQ (kT (MK .pc) GI hr rfl (T.mK .pc) bI .nil aO (aA (aL aM (pv 0) aB (fun _ _=>rfl)) (aA (aL aM (pv 0) aB (fun _ _=>rfl)) (aA (aL aM (pv 0) aB (fun _ _=>rfl)) aD)))))) aV)
  (aC (bH (PW.pt (kH (bN (cT (i:=1) rfl (Or.inl rfl) b.isi ms rfl rfl PyProof.Rows.boot_str)) (gX (aZ dE (pv 1) cN (bC _))))) (aG (aQ (kT (MK .pu) GI hr rfl (T.mK .pu) bI .nil aO (aA (aL aM (pv 0) aB (fun _ _=>rfl)) (aA (aL aM (pv 0) aB (fun _ _=>rfl)) (aA (aL aM (pv 0) aB (fun _ _=>rfl)) aD)))))) aV)
  (aC (bH (PW.pt (kH (bN (cT (i:=1) rfl (Or.inl rfl) b.isi ms rfl rfl PyProof.Rows.boot_str)) (gX (aZ dE (pv 1) cN (bC _))))) (aG (aQ (kT (MK .ho) GI hr rfl (T.mK .ho) bI .nil aO (aA (aL aM (pv 0) aB (fun _ _=>rfl)) (aA (aL aM (pv 0) aB (fun _ _=>rfl)) (aA (aL aM (pv 0) aB (fun _ _=>rfl)) aD)))))) aV)
  (aG eT))))),?_⟩
 cases k
 ·refine yV (fun _ _=>False) (fun X _=>?_) (fun _ _ h=>h.elim);refine⟨_,rfl,t,_,0,_,rfl,rfl,hT,rfl,?_⟩;exact⟨_,_,true,rfl,.of (.str _),rfl,_,rfl,dF ⟨_,rfl,rfl,_,rfl,ifT (cM .pc .pc) ⟨_,rfl,t,_,1,s,rfl,rfl,hT,rfl,_,rfl,t,_,2,g,rfl,rfl,hT,rfl,_,rfl,t,_,3,z,rfl,rfl,hT,rfl,fun x dx h1 h2 ne=>⟨x,dx,.pc,s,g,z,rfl,aF,rfl,by rw[jC];exact q x _ (Rw.new h1 h2 ne) h1 ⟨dx,aF⟩⟩⟩⟩⟩
 ·refine Ec (fun _ _=>False) (fun X _=>?_) (fun _ _ h=>h.elim);refine⟨_,rfl,t,_,0,_,rfl,rfl,hT,rfl,?_⟩;exact⟨_,_,true,rfl,.of (.str _),rfl,_,rfl,dF ⟨_,rfl,rfl,_,rfl,ifF (cM .pu .pc) (⟨_,_,true,rfl,.of (.str _),rfl,_,rfl,dF ⟨_,rfl,rfl,_,rfl,ifT (cM .pu .pu) ⟨_,rfl,t,_,1,s,rfl,rfl,hT,rfl,_,rfl,t,_,2,g,rfl,rfl,hT,rfl,_,rfl,t,_,3,z,rfl,rfl,hT,rfl,fun x dx h1 h2 ne=>⟨x,dx,.pu,s,g,z,rfl,aF,rfl,by rw[jC];exact q x _ (Rw.new h1 h2 ne) h1 ⟨dx,aF⟩⟩⟩⟩⟩)⟩⟩
 ·refine Ia (fun _ _=>False) (fun X _=>?_) (fun _ _ h=>h.elim);refine⟨_,rfl,t,_,0,_,rfl,rfl,hT,rfl,?_⟩;exact⟨_,_,true,rfl,.of (.str _),rfl,_,rfl,dF ⟨_,rfl,rfl,_,rfl,ifF (cM .ho .pc) (⟨_,_,true,rfl,.of (.str _),rfl,_,rfl,dF ⟨_,rfl,rfl,_,rfl,ifF (cM .ho .pu) (⟨_,_,true,rfl,.of (.str _),rfl,_,rfl,dF ⟨_,rfl,rfl,_,rfl,ifT (cM .ho .ho) ⟨_,rfl,t,_,1,s,rfl,rfl,hT,rfl,_,rfl,t,_,2,g,rfl,rfl,hT,rfl,_,rfl,t,_,3,z,rfl,rfl,hT,rfl,fun x dx h1 h2 ne=>⟨x,dx,.ho,s,g,z,rfl,aF,rfl,by rw[jC];exact q x _ (Rw.new h1 h2 ne) h1 ⟨dx,aF⟩⟩⟩⟩⟩)⟩⟩)⟩⟩
abbrev wI:Stmt:=top 13
theorem Gd:aS ["thing"] ["thing"] (aE wI):=⟨rfl,rfl,rfl,by decide +kernel,rfl,by decide +kernel,by decide +kernel⟩
theorem Es {dV:Value}(F:bS K "is_fraction" "is_fraction" wI dV f fd)(b:Bl mg)(ml:mg "len"=none)(mt:mg "tuple"=none)(G1:aK P w K mg base CX0 1 g1 gd1 ["thing"] (jD K))(b1:aR K gd1 ["thing"] [])(k1:PySem.W.keepIn K (.ref g1)=true)(m1:mg "is_whole"=some (.ref g1))(G2:aK P w K mg base CX0 1 g2 gd2 ["one","other"] Dt)(b2:aR K gd2 ["one","other"] [])(k2:PySem.W.keepIn K (.ref g2)=true)(m2:mg "greatest_common"=some (.ref g2)) :
  aK P w K mg base CX 2 f fd ["thing"] (yG K):=by
 refine F.ok Gd (fun vs H Q E h=>?_) (fun cdv A outer s H vs Q E hr h=>?_)
 ·obtain⟨v,o,rfl,hz,q⟩:=h;rfl
 obtain⟨v,o,rfl,hz,q⟩:=h;refine⟨_,(aC (bH (PW.pt (cW (cC (bN (cT (i:=0) rfl (Or.inl rfl) b.isi mt rfl rfl PyProof.Rows.boot_tuple))) (cR (aZ kN (bQ bP rfl ml PySem.boot_len (aA (pv 0) aD)) aB (bC _))))) (aG (aQ dG)) aV)
  (aC (bH (PW.pt (cW (cC (bN (aI G1 hr rfl m1 k1 b1 .nil aO (aA (aL aM (pv 0) aB (fun _ _=>rfl)) aD)))) (cR (cC (bN (aI G1 hr rfl m1 k1 b1 .nil aO (aA (aL aM (pv 0) aB (fun _ _=>rfl)) aD))))))) (aG (aQ dG)) aV)
  (aG (aQ (iE (dM vC (aL aM (pv 0) aB (fun _ _=>rfl)) aB (bC _)) (jU (dM dE (aI G2 hr rfl m2 k2 b2 .nil aO (aA (aL aM (pv 0) aB (fun _ _=>rfl)) (aA (aL aM (pv 0) aB (fun _ _=>rfl)) aD))) aB (bC _)))))))),?_⟩
 cases hz with
 |fr fa hp=>
  refine⟨_,_,true,rfl,.tup fa,rfl,_,rfl,bX ⟨_,rfl,_,_,rfl,.inr fa,rfl,_,rfl,bX ?_⟩⟩;refine dJ rfl fa ⟨_,rfl,.inl ⟨_,rfl,_,rfl,bX (cD rfl fa ⟨_,rfl,.inl ⟨_,rfl,_,rfl,bX ?_⟩⟩)⟩⟩;have h1:=hp.pos;refine cD rfl fa ⟨_,_,rfl,rfl,_,rfl,ifT (decide_eq_true (by omega)) (dJ rfl fa (cD rfl fa ⟨_,_,rfl,rfl,?_⟩))⟩;rw[hp.one];exact q
 |ty h n=>exact⟨_,_,false,rfl,h,n,_,rfl,dF q⟩
 |len h=>exact⟨_,_,true,rfl,.tup h,rfl,_,rfl,bX ⟨_,rfl,_,_,rfl,.inr h,rfl,_,rfl,dF q⟩⟩
 |n0 h ty n=>
  refine⟨_,_,true,rfl,.tup h,rfl,_,rfl,bX ⟨_,rfl,_,_,rfl,.inr h,rfl,_,rfl,bX ?_⟩⟩;exact⟨_,rfl,_,_,0,_,rfl,rfl,h,rfl,_,rfl,.inr ⟨_,ty,n,_,rfl,dF q⟩⟩
 |n1 h ty n=>
  refine⟨_,_,true,rfl,.tup h,rfl,_,rfl,bX ⟨_,rfl,_,_,rfl,.inr h,rfl,_,rfl,bX ?_⟩⟩;exact⟨_,rfl,_,_,0,_,rfl,rfl,h,rfl,_,rfl,.inl ⟨_,rfl,_,rfl,bX ⟨_,rfl,_,_,1,_,rfl,rfl,h,rfl,_,rfl,.inr ⟨_,ty,n,_,rfl,dF q⟩⟩⟩⟩
 |fb fa c=>
  refine⟨_,_,true,rfl,.tup fa,rfl,_,rfl,bX ⟨_,rfl,_,_,rfl,.inr fa,rfl,_,rfl,bX ?_⟩⟩;refine dJ rfl fa ⟨_,rfl,.inl ⟨_,rfl,_,rfl,bX (cD rfl fa ⟨_,rfl,.inl ⟨_,rfl,_,rfl,bX ?_⟩⟩)⟩⟩;rcases c with c | ⟨c,d⟩
  ·exact cD rfl fa ⟨_,_,rfl,rfl,_,rfl,ifF (decide_eq_false (by omega)) q⟩
  ·refine cD rfl fa ⟨_,_,rfl,rfl,_,rfl,ifT (decide_eq_true c) (dJ rfl fa (cD rfl fa ⟨_,_,rfl,rfl,?_⟩))⟩;rw[decide_eq_false (fun e=>d (by injection e))];exact q
abbrev sPS:Stmt:=top 27
theorem Ii:aS ["thing"] ["thing"] (aE sPS):=⟨rfl,rfl,rfl,by decide +kernel,rfl,by decide +kernel,by decide +kernel⟩
theorem Hl {dV:Value}(F:bS K "is_piece_size" "is_piece_size" sPS dV f fd){aN:Addr}(fN:∀H,Fq K H aN (0,1))(mNO:mg "NOUGHT"=some (.ref aN))(G1:aK P w K mg base CX0 2 g1 gd1 ["thing"] (zD K))(b1:aR K gd1 ["thing"] [])(k1:PySem.W.keepIn K (.ref g1)=true)(m1:mg "is_fraction"=some (.ref g1))(G2:aK P w K mg base CX0 1 g2 gd2 ["one","other"] (kU K))(b2:aR K gd2 ["one","other"] [])(k2:PySem.W.keepIn K (.ref g2)=true)(m2:mg "under"=some (.ref g2)) :
  aK P w K mg base CX 3 f fd ["thing"] (Hk K):=by
 refine F.ok Ii (fun vs H Q E h=>?_) (fun cdv A outer s H vs Q E hr h=>?_)
 ·obtain⟨a,p,n,rfl,fa,hp,h0,hb,hn,q⟩:=h;rfl
 obtain⟨a,p,n,rfl,fa,hp,h0,hb,hn,q⟩:=h;have r1:=hr.mono (show 1<=2 by omega);refine⟨_,(aG (aQ (iE (aI G1 hr rfl m1 k1 b1 .nil aO (aA (pv 0) aD)) (jU (aI G2 r1 rfl m2 k2 b2 .nil aO (aA (gO (v:=.ref aN) rfl mNO rfl) (aA (pv 0) aD))))))),?_⟩;refine⟨_,rfl,a,p,rfl,fa,hp,_,rfl,dF ⟨_,rfl,aN,a,_,p,1,n,rfl,fN _,fa,⟨show (0:Nat) < 2 ^ 1 by decide,show (1:Nat) < 2 ^ 1 by decide⟩,hb,by omega,?_⟩⟩;rw[decide_eq_true (show (0:Int)*p.2 < p.1*1 by omega)];exact q
abbrev sNB:Stmt:=top 32
theorem Ib:aS ["thing","bound"] ["thing","bound"] (aE sNB):=⟨rfl,rfl,rfl,by decide +kernel,rfl,by decide +kernel,by decide +kernel⟩
theorem Fw {dV:Value}(F:bS K "is_number_below" "is_number_below" sNB dV f fd)(G1:aK P w K mg base CX0 1 g1 gd1 ["thing"] (jD K))(b1:aR K gd1 ["thing"] [])(k1:PySem.W.keepIn K (.ref g1)=true)(m1:mg "is_whole"=some (.ref g1)) :
  aK P w K mg base CX 2 f fd ["thing","bound"] Do:=by
 refine F.ok Ib (fun vs H Q E h=>?_) (fun cdv A outer s H vs Q E hr h=>?_)
 ·obtain⟨i,b',rfl,h0,h1,q⟩:=h;rfl
 obtain⟨i,b',rfl,h0,h1,q⟩:=h;refine⟨_,(aG (aQ (iE (aI G1 hr rfl m1 k1 b1 .nil aO (aA (pv 0) aD)) (iE (dM vC (pv 0) aB (bC _)) (jU (dM oG (pv 0) (pv 1) (bC _))))))),?_⟩;refine⟨_,rfl,_,rfl,.inl ⟨i,rfl,_,rfl,dF ⟨_,rfl,_,_,rfl,rfl,_,rfl,ifT (decide_eq_true h0) ⟨_,rfl,_,rfl,_,_,rfl,rfl,?_⟩⟩⟩⟩;show Q (.bl (decide (i < b'))) H;rw[decide_eq_true h1];exact q
abbrev sRS:Stmt:=top 35
theorem Ji:aS ["word","size"] ["word","size"] (aE sRS):=⟨rfl,rfl,rfl,by decide +kernel,rfl,by decide +kernel,by decide +kernel⟩
theorem Ga {dV:Value}(F:bS K "refuse_size" "refuse_size" sRS dV f fd)(G1:aK P w K mg base CX0 2 g1 gd1 ["thing"] (zD K))(b1:aR K gd1 ["thing"] [])(k1:PySem.W.keepIn K (.ref g1)=true)(m1:mg "is_fraction"=some (.ref g1))(G2:aK P w K mg base CX0 3 g2 gd2 ["thing"] (Hk K))(b2:aR K gd2 ["thing"] [])(k2:PySem.W.keepIn K (.ref g2)=true)(m2:mg "is_piece_size"=some (.ref g2)) :
  aK P w K mg base CX 4 f fd ["word","size"] (Cv K):=by
 refine F.ok Ji (fun vs H Q E h=>?_) (fun cdv A outer s H vs Q E hr h=>?_)
 ·obtain⟨k,z,p,rfl,fz,hp,h0,hb,q⟩:=h;rfl
 obtain⟨k,z,p,rfl,fz,hp,h0,hb,q⟩:=h;have r2:=hr.mono (show 2<=3 by omega);refine⟨_,(aC (bH (cC (bN (aI G1 r2 rfl m1 k1 b1 .nil aO (aA (pv 1) aD)))) (aG eT) aV)
  (aG (bH (PW.pt (kH (aZ dE (pv 0) cN (bC _)) (gX (cC (bN (aI G2 hr rfl m2 k2 b2 .nil aO (aA (pv 1) aD))))))) (aG eT) aV))),?_⟩
 refine⟨_,rfl,z,p,rfl,fz,hp,_,rfl,bX ?_⟩
 cases k
 ·exact⟨_,rfl,rfl,_,rfl,ifT (cM .pc .pc) ⟨_,rfl,z,p,_,rfl,fz,hp,h0 rfl,hb,by omega,_,rfl,bX q⟩⟩
 ·exact⟨_,rfl,rfl,_,rfl,ifF (cM .pu .pc) (bX q)⟩
 ·exact⟨_,rfl,rfl,_,rfl,ifF (cM .ho .pc) (bX q)⟩
theorem mQ:(["point","many"]:List Str).Nodup:=by decide +kernel
def Gr (K:PySem.W.Frag):Sp:=fun vs H Q _=>∃(l:Addr) (i j m:Int),vs=[.ref l,.int m]/\SqL K H l [.int i,.int j]/\0<=i/\i < m/\0<=j/\j < m/\∀H',bA H H'->Q .non H'
def Ha:Sp:=fun vs H Q _=>∃k c:Int,vs=[.int k,.int c]/\0<=k/\k < c/\Q .non H
abbrev sRP:Stmt:=top 33
theorem Ja:aS ["some","many"] ["some","many"] (aE sRP):=⟨rfl,rfl,rfl,by decide +kernel,rfl,by decide +kernel,by decide +kernel⟩
abbrev sRN:Stmt:=top 34
theorem Ih:aS ["k","count"] ["k","count"] (aE sRN):=⟨rfl,rfl,rfl,by decide +kernel,rfl,by decide +kernel,by decide +kernel⟩
theorem Gm {dV:Value}(F:bS K "refuse_number" "refuse_number" sRN dV f fd)(G1:aK P w K mg base CX0 2 g1 gd1 ["thing","bound"] Do)(b1:aR K gd1 ["thing","bound"] [])(k1:PySem.W.keepIn K (.ref g1)=true)(m1:mg "is_number_below"=some (.ref g1)) :
  aK P w K mg base CX 3 f fd ["k","count"] Ha:=by
 refine F.ok Ih (fun vs H Q E h=>?_) (fun cdv A outer s H vs Q E hr h=>?_)
 ·obtain⟨k,c,rfl,u0,u1,q⟩:=h;rfl
 obtain⟨k,c,rfl,u0,u1,q⟩:=h;refine⟨_,(aG (bH (cC (bN (aI G1 hr rfl m1 k1 b1 .nil aO (aA (pv 0) (aA (pv 1) aD))))) (aG eT) aV)),?_⟩;exact⟨_,rfl,_,rfl,k,c,rfl,u0,u1,_,rfl,bX q⟩
abbrev kD:Stmt:=cP (top 31) 0
theorem Cb:aS ["self","many"] ["self","many"] (aE kD):=⟨rfl,rfl,rfl,by decide +kernel,rfl,by decide +kernel,by decide +kernel⟩
theorem zA {dV:Value}{CN:Addr}(F:bS K "__init__" "Net.__init__" kD dV f fd)(NTx:NT K mg CN){tM:Tok}(mMP:mg "MOST_POINTS"=some (.int 20 tM))(G1:aK P w K mg base CX0 1 g1 gd1 ["thing"] (jD K))(b1:aR K gd1 ["thing"] [])(k1:PySem.W.keepIn K (.ref g1)=true)(m1:mg "is_whole"=some (.ref g1)):aK P w K mg base CX 2 f fd ["self","many"] (uS CN):=by
 refine F.ok Cb (fun vs H Q E h=>?_) (fun cdv A outer s H vs Q E hr h=>?_)
 ·obtain⟨n,dx,m,rfl,hn,h1,h20,q⟩:=h;rfl
 obtain⟨n,dx,m,rfl,hn,h1,h20,q⟩:=h;refine⟨_,(aC (bH (PW.pt (cW (cC (bN (aI G1 hr rfl m1 k1 b1 .nil aO (aA (pv 1) aD)))) (cW (aZ oG (pv 1) aB (bC _)) (cR (aZ zO (pv 1) (gO (v:=.int 20) rfl mMP ⟨_,rfl⟩) (bC _)))))) (aG eT) aV)
  (aC (lC (pv 0) (pv 1) rfl)
  (aG (lC (pv 0) (cL aD) rfl)))),?_⟩
 refine⟨_,rfl,_,rfl,.inl ⟨m,rfl,_,rfl,bX ⟨_,rfl,_,_,rfl,rfl,_,rfl,ifF (decide_eq_false (by omega)) ⟨_,rfl,_,_,rfl,rfl,_,rfl,ifF (decide_eq_false (by omega)) ?_⟩⟩⟩⟩;refine⟨_,rfl,_,rfl,n,CN,dx,[],rfl,hn,NTx.cl,NTx.nP,(by show 0 < 1000;decide),?_⟩;refine⟨by show 0<=sizeLine;decide,fun l hl=>?_⟩;have nl:n≠l:=fun z=>by subst z;rw[aF] at hl;cases hl
 have hl0:H l=none:=by rw[aU (Ne.symm nl)] at hl;exact hl
 have l1:=dU ("point_count":Str) (.int m) [];simp only[List.length_nil] at l1;refine⟨_,rfl,n,CN,dx,eS "point_count" (.int m) [],rfl,by rw[aU nl];exact aF,NTx.cl,NTx.nK,by omega,?_⟩;refine q l _ hl0 (fun b o e hb=>?_) aF (by rw[aU (Ne.symm nl)];exact aF);rw[aU hb,aU (bD e hl0),aU hb];exact e
abbrev nQ:Stmt:=cP (top 31) 1
theorem Cw:aS ["self"] ["self"] (aE nQ):=⟨rfl,rfl,rfl,by decide +kernel,rfl,by decide +kernel,by decide +kernel⟩
theorem Al {dV:Value}{CN:Addr}(F:bS K "many" "Net.many" nQ dV f fd)(NTx:NT K mg CN):aK P w K mg base CX 1 f fd ["self"] (rQ CN K):=by
 refine F.ok Cw (fun vs H Q E h=>?_) (fun cdv A outer s H vs Q E hr h=>?_)
 ·obtain⟨n,l,m,ds,rfl,⟨⟨dx,hn⟩,ts,hl,hr'⟩,q⟩:=h;rfl
 obtain⟨n,l,m,ds,rfl,⟨⟨dx,hn⟩,ts,hl,hr'⟩,q⟩:=h;exact⟨_,(aG (aQ (cU (pv 0) rfl))),_,rfl,n,CN,dx,_,_,rfl,hn,NTx.cl,NTx.nP,qS _ _,q⟩
abbrev Jc:Stmt:=cP (top 31) 2
abbrev Ip:Stmt:=cP (top 31) 6
abbrev vL:Stmt:=cP (top 31) 3
theorem Cl:aS ["self","row","told"] ["self","row"] (aE vL):=⟨rfl,rfl,rfl,by decide +kernel,rfl,by decide +kernel,by decide +kernel⟩
theorem Ff {dV:Value}{CN:Addr}(F:bS K "add" "Net.add" vL dV f fd)(NTx:NT K mg CN){tR:Tok}(mMR:mg "MOST_ROWS"=some (.int 40 tR))(ml:mg "len"=none){gT:Addr}{gdT:FuncData}(T:RT K mg CR CK)(GT:aK P w K mg base CX0 2 gT gdT ["self"] (pC CK))(bT:aR K gdT ["self"] [])(mT:∀k,gE K (CK k) "told" gT)(G1:aK P w K mg base CX0 3 g1 gd1 ["some","many"] (Gr K))(b1:aR K gd1 ["some","many"] [])(k1:PySem.W.keepIn K (.ref g1)=true)(m1:mg "refuse_points"=some (.ref g1))(G2:aK P w K mg base CX0 4 g2 gd2 ["word","size"] (Cv K))(b2:aR K gd2 ["word","size"] [])(k2:PySem.W.keepIn K (.ref g2)=true)(m2:mg "refuse_size"=some (.ref g2)):aK P w K mg base CX 5 f fd ["self","row"] (Cg CN K CK):=by
 refine F.ok Cl (fun vs H Q E h=>?_) (fun cdv A outer s H vs Q E hr h=>?_)
 ·obtain⟨n,l,x,z,m,ds,k,i,j,p,rfl,⟨⟨dx,hn⟩,ts,hl,hR⟩,rw,fz,⟨i0,i1,j0,j1,lp,h0,bp⟩,h40,q⟩:=h;rfl
 obtain⟨n,l,x,z,m,ds,k,i,j,p,rfl,⟨⟨dx,hn⟩,ts,hl,hR⟩,rw,fz,⟨i0,i1,j0,j1,lp,h0,bp⟩,h40,q⟩:=h;have r2:=hr.mono (show 2<=4 by omega);have r3:=hr.mono (show 3<=4 by omega);refine⟨_,(aC (aT (i:=2) Cl.nd rfl (Or.inl rfl) (gU (f:=fun _=>gT) (fd:=fun _=>gdT) (sp:=fun _=>pC CK) (pv 1) T.cl mT (fun _=>GT) r2 (fun _=>bT) .nil aO))
  (aC (cQ (aI G1 r3 rfl m1 k1 b1 .nil aO (aA (cL (aA (aL aM (pv 2) aB (fun _ _=>rfl)) (aA (aL aM (pv 2) aB (fun _ _=>rfl)) aD))) (aA (cU (pv 0) rfl) aD))))
  (aC (cQ (aI G2 hr rfl m2 k2 b2 .nil aO (aA (aL aM (pv 2) aB (fun _ _=>rfl)) (aA (aL aM (pv 2) aB (fun _ _=>rfl)) aD))))
  (aC (bH (aZ vC (bQ bP rfl ml PySem.boot_len (aA (cU (pv 0) rfl) aD)) (gO (v:=.int 40) rfl mMR ⟨_,rfl⟩) (bC _)) (aG eT) aV)
  (aC (cQ (lP PySem.F.plainAttrs_list PySem.F.slot_list_append PySem.F.type_list_append dD (cU (pv 0) rfl) (aA (pv 2) aD)))
  (aG (aQ (aY lR (bQ bP rfl ml PySem.boot_len (aA (cU (pv 0) rfl) aD)) aB)))))))),?_⟩
 obtain⟨dr,hx⟩:=id rw;have len:=hR.length;refine⟨_,rfl,k,x,dr,_,rfl,hx,(iQ _ _ _ (by decide +kernel) (by decide +kernel) (by decide +kernel)),x,k,_,_,_,rfl,rw,fun t ht=>?_⟩;have st:=aH ht (.tup [.str k.wd,.int i,.int j,.ref z]);have et:SqT K (upd H t (.tup [.str k.wd,.int i,.int j,.ref z])) t [.str k.wd,.int i,.int j,.ref z]:=SqT.of aF;generalize upd H t (.tup [.str k.wd,.int i,.int j,.ref z])=H1a at st et ⊢;have hn1:=st _ _ hn;have hl1:=st _ _ hl;refine⟨_,rfl,t,_,1,_,rfl,rfl,et,rfl,_,rfl,t,_,2,_,rfl,rfl,et,rfl,by show 2<=sizeLine;decide,fun lq hlq=>?_⟩;have sq:=aH hlq (.lst [.int i,.int j]);have eq:upd H1a lq (.lst [.int i,.int j]) lq=some (.lst [.int i,.int j]):=aF;generalize upd H1a lq (.lst [.int i,.int j])=H1b at sq eq ⊢;have hnb:=sq _ _ hn1;refine⟨_,rfl,n,CN,dx,_,_,rfl,hnb,NTx.cl,NTx.nP,qS _ _,lq,i,j,m,rfl,SqL.of eq,i0,i1,j0,j1,fun H1 sc=>?_⟩;have sqc:=sq.trans sc;have st:=st.trans sqc;have et:=sqc.seqT et;have hn1:=sqc _ _ hn1;have hl1:=sqc _ _ hl1;refine⟨_,rfl,t,_,0,_,rfl,rfl,et,rfl,_,rfl,t,_,3,_,rfl,rfl,et,rfl,k,z,p,rfl,st.fq fz,lp,h0,bp,?_⟩;refine⟨_,rfl,n,CN,dx,_,_,rfl,hn1,NTx.cl,NTx.nK,dC _ _,l,ts,rfl,.inl (SqL.of hl1),_,_,rfl,rfl,_,rfl,ifF (decide_eq_false (by omega)) ?_⟩;refine⟨_,rfl,n,CN,dx,_,_,rfl,hn1,NTx.cl,NTx.nK,dC _ _,.inl ⟨rfl,_,SqL.of hl1⟩,_,rfl,l,ts,.ref t,rfl,rfl,hl1,bF (by omega),?_⟩;have nn:n≠l:=fY hn1 hl1 (fun z=>by cases z);have hn2:upd H1 l (.lst (ts++[.ref t])) n=some (.ins CN dx (jB m l)):=by rw[aU nn];exact hn1
 have hl2:upd H1 l (.lst (ts++[.ref t])) l=some (.lst (ts++[.ref t])):=aF;refine⟨_,rfl,n,CN,dx,_,_,rfl,hn2,NTx.cl,NTx.nK,dC _ _,l,_,rfl,.inl (SqL.of hl2),_,_,rfl,rfl,?_⟩;show Q (.int (((ts++[V.ref t]).length:Int) - 1)) _;rw[List.length_append,List.length_singleton,len,show (((ds.length+1:Nat):Int) - 1)=(ds.length:Int) by omega];refine q _ (st.x.write) ⟨⟨dx,hn2⟩,_,hl2,Rts.upd hl1 ((hR.same st).app (.cons et (st.fq fz) .nil))⟩
abbrev gZ:Stmt:=cP (top 31) 4
theorem qZ:aS ["self","k","size","old"] ["self","k","size"] (aE gZ):=⟨rfl,rfl,rfl,by decide +kernel,rfl,by decide +kernel,by decide +kernel⟩
theorem vY {dV:Value}{CN:Addr}(F:bS K "change" "Net.change" gZ dV f fd)(NTx:NT K mg CN)(ml:mg "len"=none)(G1:aK P w K mg base CX0 3 g1 gd1 ["k","count"] Ha)(b1:aR K gd1 ["k","count"] [])(k1:PySem.W.keepIn K (.ref g1)=true)(m1:mg "refuse_number"=some (.ref g1))(G2:aK P w K mg base CX0 4 g2 gd2 ["word","size"] (Cv K))(b2:aR K gd2 ["word","size"] [])(k2:PySem.W.keepIn K (.ref g2)=true)(m2:mg "refuse_size"=some (.ref g2)):aK P w K mg base CX 5 f fd ["self","k","size"] (qW CN K):=by
 refine F.ok qZ (fun vs H Q E h=>?_) (fun cdv A outer s H vs Q E hr h=>?_)
 ·obtain⟨n,l,z,m,q',ds,k,i,j,p0,p,rfl,⟨⟨dx,hn⟩,ts,hl,hR⟩,q0,hq,fz,lp,h0,bp,q⟩:=h;rfl
 obtain⟨n,l,z,m,q',ds,k,i,j,p0,p,rfl,⟨⟨dx,hn⟩,ts,hl,hR⟩,q0,hq,fz,lp,h0,bp,q⟩:=h;have r2:=hr.mono (show 3<=4 by omega);refine⟨_,(aC (cQ (aI G1 r2 rfl m1 k1 b1 .nil aO (aA (pv 1) (aA (bQ bP rfl ml PySem.boot_len (aA (cU (pv 0) rfl) aD)) aD))))
  (aC (aT (i:=3) qZ.nd rfl (Or.inl rfl) (aL bM (cU (pv 0) rfl) (pv 1) (fun _ _=>rfl)))
  (aC (cQ (aI G2 hr rfl m2 k2 b2 .nil aO (aA (aL aM (pv 3) aB (fun _ _=>rfl)) (aA (pv 2) aD))))
  (aG (pT (bV (aA (aL aM (pv 3) aB (fun _ _=>rfl)) (aA (aL aM (pv 3) aB (fun _ _=>rfl)) (aA (aL aM (pv 3) aB (fun _ _=>rfl)) (aA (pv 2) aD))))) (yP (cU (pv 0) rfl) (pv 1) rA)))))),?_⟩
 have len:=hR.length;have lt:q'.toNat < ds.length:=(List.getElem?_eq_some_iff.mp hq).1;obtain⟨t,z0,et,ht,_⟩:=hR.at hq;have at_:atI ts q'=some (.ref t):=by
  have:=bO et
  rwa [show ((q'.toNat:Nat):Int)=q' by omega] at this
 have ix_:ixN ts.length q'=some q'.toNat:=by
  have:=uK (n:=ts.length) (k:=q'.toNat) (by omega)
  rwa [show ((q'.toNat:Nat):Int)=q' by omega] at this
 refine⟨_,rfl,_,rfl,n,CN,dx,_,_,rfl,hn,NTx.cl,NTx.nK,dC _ _,l,ts,rfl,.inl (SqL.of hl),q',_,rfl,q0,by omega,?_⟩;refine⟨_,rfl,n,CN,dx,_,_,rfl,hn,NTx.cl,NTx.nK,dC _ _,_,rfl,l,ts,q',_,rfl,rfl,SqL.of hl,at_,?_⟩;refine⟨_,rfl,t,_,0,_,rfl,rfl,ht,rfl,_,rfl,k,z,p,rfl,fz,lp,h0,bp,?_⟩;refine⟨_,rfl,t,_,0,_,rfl,rfl,ht,rfl,_,rfl,t,_,1,_,rfl,rfl,ht,rfl,_,rfl,t,_,2,_,rfl,rfl,ht,rfl,_,rfl,by show 4<=sizeLine;decide,fun u hu=>?_⟩;have su:=aH hu (.tup [.str k.wd,.int i,.int j,.ref z]);have eu:SqT K (upd H u (.tup [.str k.wd,.int i,.int j,.ref z])) u [.str k.wd,.int i,.int j,.ref z]:=SqT.of aF;generalize upd H u (.tup [.str k.wd,.int i,.int j,.ref z])=H1 at su eu ⊢;have hn1:=su _ _ hn;have hl1:=su _ _ hl;refine⟨_,rfl,n,CN,dx,_,_,rfl,hn1,NTx.cl,NTx.nK,dC _ _,_,rfl,l,ts,q',q'.toNat,rfl,rfl,hl1,ix_,?_⟩;have nn:n≠l:=fY hn1 hl1 (fun z=>by cases z);refine q _ (su.x.write) ⟨⟨dx,by rw[aU nn];exact hn1⟩,_,aF,Rts.upd hl1 (Rts.set eu (su.fq fz) _ (hR.same su))⟩
theorem Bs:(["told"]:List Str).Nodup:=by decide +kernel
abbrev oI:Stmt:=cP (top 31) 5
theorem Dm:aS ["self"] ["self"] (aE oI):=⟨rfl,rfl,rfl,by decide +kernel,rfl,by decide +kernel,by decide +kernel⟩
theorem Ae {dV:Value}{CN:Addr}(F:bS K "rows" "Net.rows" oI dV f fd)(NTx:NT K mg CN)(G1:aK P w K mg base CX0 3 g1 gd1 ["told"] (mL K CK))(b1:aR K gd1 ["told"] [])(k1:PySem.W.keepIn K (.ref g1)=true)(m1:mg "row_of"=some (.ref g1)):aK P w K mg base CX 4 f fd ["self"] (rL CN K CK):=by
 refine F.ok Dm (fun vs H Q E h=>?_) (fun cdv A outer s H vs Q E hr h=>?_)
 ·obtain⟨n,l,m,ds,rfl,⟨⟨dx,hn⟩,ts,hl,hR⟩,h100,q⟩:=h;rfl
 obtain⟨n,l,m,ds,rfl,⟨⟨dx,hn⟩,ts,hl,hR⟩,h100,q⟩:=h;refine⟨_,(aG (aQ (iY (nl:=1) (fr:=[]) (Nc:=["told"]) (cl:=[]) rfl ⟨rfl,rfl,by decide +kernel,by decide +kernel,fun x c h=>(by cases h),iH rfl,rfl,fun i n h=>(by simp at h)⟩
    (cY (cU (pv 0) rfl)) (fun C s3 H3 fp pins=>(bE (i:=0) Bs rfl (Or.inl rfl))) (fun C s3 H3 fp pins=>iX)
    (fun C s3 H3 fp pins=>(aI G1 hr rfl m1 k1 b1 .nil aO (aA (pv 0) aD)))))),?_⟩
 have len:=hR.length;refine⟨_,rfl,n,CN,dx,_,_,rfl,hn,NTx.cl,NTx.nK,dC _ _,l,rfl,⟨_,SqL.of hl⟩,fun D hD=>?_⟩;have sD:=aH hD (.lst []);refine gW (xs:=ts) (fun i zs H'=>bA H H'/\H' D=some (.lst zs)/\dP CK K H' zs (ds.take i)) ⟨sD,aF,.nil⟩ (fun i zs H' h=>h.2.1) (fun i zs H' _ h=>h.1.seq (SqL.of hl)) ?_ ?_
 ·rintro i zs x H1 hx ⟨s1,e1,R1⟩ C hC;have hi:i < ds.length:=by
   have:=(List.getElem?_eq_some_iff.mp hx).1;omega
  obtain⟨⟨k,u,v,p⟩,hd⟩:∃d,ds[i]?=some d:=⟨_,List.getElem?_eq_getElem hi⟩
  obtain⟨t,z,et,ht,fz⟩:=hR.at hd;have ex:x=.ref t:=by rw[et] at hx;exact(Option.some.inj hx).symm
  subst ex;have lz:=R1.length;rw[List.length_take] at lz;refine⟨hZ.1,hZ.2,dF ?_⟩;refine⟨_,rfl,t,_,_,_,_,rfl,s1.seqT ht,k,rfl,fun y H2 s2 ny rw=>?_⟩;have e2:=s2 _ _ e1;refine⟨e2,bF (by omega),hC _ _ ⟨(s1.trans s2).change hD,aF,?_⟩⟩;rw[List.take_add_one,hd];exact dP.upd e2 ((R1.same s2).app (.cons rw ((s1.trans s2).fq fz) .nil))
 ·rintro zs H1 ⟨s1,e1,R1⟩;rw[len,List.take_length] at R1;exact q D zs H1 s1 hD e1 R1
theorem qL {g:Addr}{gd:FuncData}(F:aK P w K mg base CX0 2 g gd ["thing"] (yG K)):aK P w K mg base CX0 2 g gd ["thing"] (zD K):=
 F.weak fun vs H Q E h=>by
  obtain⟨a,p,rfl,f,l,q⟩:=h;exact⟨_,some p,rfl,.fr f l,q⟩
abbrev jT:Stmt:=top 18
theorem kW:aS ["some","so_far","one"] ["some"] (aE jT):=⟨rfl,rfl,rfl,by decide +kernel,rfl,by decide +kernel,by decide +kernel⟩
theorem yW {dV:Value}{aN:Addr}(F:bS K "total" "total" jT dV f fd)(fN:∀H,Fq K H aN (0,1))(mNO:mg "NOUGHT"=some (.ref aN))(G2:aK P w K mg base CX0 3 g2 gd2 ["one","other"] (nV K Mq.dQ))(b2:aR K gd2 ["one","other"] [])(k2:PySem.W.keepIn K (.ref g2)=true)(m2:mg "plus"=some (.ref g2)) :
  aK P w K mg base CX 4 f fd ["some"] (zC K):=by
 refine F.ok kW (fun vs H Q E h=>?_) (fun cdv A outer s H vs Q E hr h=>?_)
 ·obtain⟨a,xs,ps,w0,rfl,_⟩:=h;rfl
 obtain⟨a,xs,ps,w0,rfl,hS,hF,hP,hW,hn,z⟩:=h;refine⟨_,aC (aT (i:=1) kW.nd rfl (Or.inl rfl) (gO (v:=.ref aN) rfl mNO rfl))
  (aC (dA PassesOwn.never rfl (cY (pv 0)) (bE (i:=2) kW.nd rfl (Or.inl rfl)) (aG (aT (i:=1) kW.nd rfl (Or.inl rfl) (aI G2 hr rfl m2 k2 b2 .nil aO (aA (pv 1) (aA (pv 2) aD))))))
  (aG (aQ (pv 1)))),?_⟩
 have hl:=hF.length;refine⟨_,rfl,a,rfl,⟨_,hS⟩,?_⟩;refine dI (xs:=xs) (fun i σ H'=>bA H H'/\∃r y,σ=[some (.ref a),some (.ref r),y]/\Fq K H' r (Mq.tot (ps.take i))) ⟨bA.refl H,aN,none,rfl,fN H⟩ (fun i σ H' _ h=>h.1.seq hS) ?_ ?_
 ·rintro i x σ H' hx ⟨sH,r,y,rfl,er⟩;obtain⟨ap,p,rfl,hp,fp⟩:=hF.get hx;have hi:i < ps.length:=(List.getElem?_eq_some_iff.mp hp).1;have mem:p∈ps:=List.mem_of_getElem? hp;have pt:Mq.Pos (ps.take i):=fun f hf=>hP f (List.mem_of_mem_take hf);obtain⟨w',n,hw',bn,hle⟩:=hW.at hp;have bt:=hw'.tot pt;refine⟨_,rfl,_,rfl,r,ap,Mq.tot (ps.take i),p,_,n,rfl,er,sH.fq fp,(Mq.pR pt).pos,hP p mem,bt,bn,by omega,fun a1 H1 s1 e1=>?_⟩;refine⟨sH.trans s1,a1,_,rfl,?_⟩;have ee:ps.take (i+1)=ps.take i++[p]:=by rw[List.take_add_one,hp];rfl
  have et:Mq.tot (ps.take (i+1))=Mq.dQ (Mq.tot (ps.take i)) p:=by
   rw[ee];unfold Mq.tot;rw[List.foldl_append];rfl
  rw[et];exact Fq.of e1
 ·rintro σ H' ⟨sH,r,y,rfl,er⟩;refine⟨_,rfl,?_⟩;refine z r H' sH ?_;rw[hl,List.take_length] at er;exact er
end
section
variable {P:Program} {w:World} {K:PySem.W.Frag} {mg:Str->Option Value} {base:Heap} {f g1 g2 g3 g4 g5 g6 g7 g8:Addr} {fd gd1 gd2 gd3 gd4 gd5 gd6 gd7 gd8:FuncData} {CX:CXT}
variable {CR:Addr} {CK:Kd->Addr} {fW fJ fT fS:Kd->Addr} {fdW fdJ fdT fdS:Kd->FuncData}
theorem vA {X:Cx}{K:PySem.W.Frag}(h:X.K=K):IxR X (Ax K):=by subst h;exact aM
theorem qG {X:Cx}{K:PySem.W.Frag}(h:X.K=K):IxR X (Hh K):=by subst h;exact bM
abbrev kJ:Stmt:=top 20
theorem kS:aS ["rows","numbers","point","steps","number","row"] ["rows","numbers","point"] (aE kJ):=⟨rfl,rfl,rfl,by decide +kernel,rfl,by decide +kernel,by decide +kernel⟩
theorem zH {dV:Value}(F:bS K "steps_from" "steps_from" kJ dV f fd)(T:RT K mg CR CK) :
  aK P w K mg base CX 1 f fd ["rows","numbers","point"] (uD K CK):=by
 refine F.ok kS (fun vs H Q E h=>?_) (fun cdv A outer s H vs Q E hr h=>?_)
 ·obtain⟨a,b,xs,ds,es,p,rfl,hA,Rb,hB,hE,h100,q⟩:=h;rfl
 obtain⟨a,b,xs,ds,es,p,rfl,hA,Rb,hB,hE,h100,q⟩:=h;refine⟨_,(aC (aT (i:=3) kS.nd rfl (Or.inl rfl) (cL aD))
  (aC (dA PassesOwn.never rfl (cY (pv 1)) (bE (i:=4) kS.nd rfl (Or.inl rfl))
   (aC (aT (i:=5) kS.nd rfl (Or.inl rfl) (aL bM (pv 0) (pv 4) (fun _ _=>rfl)))
  (aG (bH (aZ dE (cU (pv 5) rfl) (pv 2) (bC _)) (aG (cQ (lP PySem.F.plainAttrs_list PySem.F.slot_list_append PySem.F.type_list_append dD (pv 3) (aA (bV (aA (bV (aA (pv 4) (aA aB aD))) (aA (cU (pv 5) rfl) aD))) aD)))) (aG (bH (aZ dE (cU (pv 5) rfl) (pv 2) (bC _)) (aG (cQ (lP PySem.F.plainAttrs_list PySem.F.slot_list_append PySem.F.type_list_append dD (pv 3) (aA (bV (aA (bV (aA (pv 4) (aA (oH kM aB) aD))) (aA (cU (pv 5) rfl) aD))) aD)))) aV))))))
  (aG (aQ (pv 3))))),?_⟩
 refine⟨by show 0<=sizeLine;decide,fun l hl=>?_⟩;have s1:=aH hl (.lst []);have e1:upd H l (.lst []) l=some (.lst []):=aF;generalize upd H l (.lst [])=H1 at s1 e1 ⊢;refine⟨_,rfl,b,rfl,⟨_,s1.seq hB⟩,?_⟩;refine dI (xs:=es.map fun (e:Br)=>V.int ((e.1:Nat):Int)) (fun i σ H'=>bA H H'/\∃(ys:List V) (z4 z5:Option V),σ=[some (.ref a),some (.ref b),some (.int (p:Int)),some (.ref l),z4,z5]/\H' l=some (.lst ys)/\Sds K H' ys (stF (es.take i) p)) ⟨s1,[],none,none,rfl,e1,.nil⟩ (fun i σ H' _ h=>h.1.seq hB) ?_ ?_
 ·rintro i x σ H2 hx ⟨s2,ys,z4,z5,rfl,e2,S2⟩;rw[List.getElem?_map] at hx;obtain⟨e,he,rfl⟩:=Option.map_eq_some_iff.mp hx;have hi:i < es.length:=(List.getElem?_eq_some_iff.mp he).1;obtain⟨⟨k,u,v,q'⟩,hd,eu,ev⟩:=hE e (List.mem_of_getElem? he);have eu:u=(e.2.1:Int):=eu;have ev:v=(e.2.2:Int):=ev;subst eu;subst ev;obtain⟨y,z,ey,rw0,fz⟩:=Rb.at hd;have rw2:=rw0.same s2;obtain⟨dx,hx2⟩:=id rw2;have at_:atI xs (e.1:Int)=some (.ref y):=bO ey;have ly:ys.length<=es.length:=by
   have h1:=S2.length;have h2:(stF (es.take i) p).length<=(es.take i).length:=List.length_filterMap_le _ _;rw[List.length_take] at h2;omega
  refine⟨_,rfl,_,rfl,a,xs,_,_,rfl,rfl,s2.seq hA,at_,?_⟩;refine⟨_,rfl,y,CK _,_,_,_,rfl,hx2,T.cl _,T.nS _,gA _ _ _,_,rfl,rfl,_,rfl,?_⟩
  by_cases c1:e.2.1=p
  ·have tk:stF (es.take (i+1)) p=stF (es.take i) p++[((e.1,1),e.2.2)]:=by
    unfold stF;rw[List.take_add_one,he,List.filterMap_append];show _++[e].filterMap _=_;rw[List.filterMap_cons,if_pos c1];rfl
   refine ifT (decide_eq_true (by rw[c1])) ?_;refine⟨_,rfl,.inl ⟨rfl,_,SqL.of e2⟩,_,rfl,by show 2<=sizeLine;decide,fun u hu'=>?_⟩;have su:=aH hu' (.tup [.int (e.1:Int),.int (1)]);have eu:SqT K (upd H2 u (.tup [.int (e.1:Int),.int (1)])) u [.int (e.1:Int),.int (1)]:=SqT.of aF;generalize upd H2 u (.tup [.int (e.1:Int),.int (1)])=H3 at su eu ⊢;obtain⟨dx3,hx3⟩:=id (rw2.same su);refine⟨_,rfl,y,CK _,_,_,_,rfl,hx3,T.cl _,T.nG _,iJ _ _ _,by show 2<=sizeLine;decide,fun t ht=>?_⟩;rw[show (k,(e.2.1:Int),(e.2.2:Int),q').2.2.1=(e.2.2:Int) from rfl];have st:=aH ht (.tup [.ref u,.int (e.2.2:Int)]);have et:SqT K (upd H3 t (.tup [.ref u,.int (e.2.2:Int)])) t [.ref u,.int (e.2.2:Int)]:=SqT.of aF;generalize upd H3 t (.tup [.ref u,.int (e.2.2:Int)])=H4 at st et ⊢;have s24:=su.trans st;have e4:=s24 _ _ e2;refine⟨l,_,_,rfl,rfl,e4,bF (by omega),⟨(s2.trans s24).change hl,_,_,_,rfl,aF,?_⟩⟩;rw[tk];exact Sds.upd e4 ((S2.same s24).app (.cons et (st.seqT eu) .nil))
  ·refine ifF (decide_eq_false (fun z=>c1 (by have:(e.2.1:Int)=(p:Int):=(by injection z);omega))) ?_;refine⟨_,rfl,y,CK _,_,_,_,rfl,hx2,T.cl _,T.nG _,iJ _ _ _,_,rfl,rfl,_,rfl,?_⟩
   by_cases c2:e.2.2=p
   ·have tk:stF (es.take (i+1)) p=stF (es.take i) p++[((e.1,-1),e.2.1)]:=by
     unfold stF;rw[List.take_add_one,he,List.filterMap_append];show _++[e].filterMap _=_;rw[List.filterMap_cons,if_neg c1,if_pos c2];rfl
    refine ifT (decide_eq_true (by rw[c2])) ?_;refine⟨_,rfl,.inl ⟨rfl,_,SqL.of e2⟩,_,rfl,_,rfl,by show 2<=sizeLine;decide,fun u hu'=>?_⟩;have su:=aH hu' (.tup [.int (e.1:Int),.int (-1)]);have eu:SqT K (upd H2 u (.tup [.int (e.1:Int),.int (-1)])) u [.int (e.1:Int),.int (-1)]:=SqT.of aF;generalize upd H2 u (.tup [.int (e.1:Int),.int (-1)])=H3 at su eu ⊢;obtain⟨dx3,hx3⟩:=id (rw2.same su);refine⟨_,rfl,y,CK _,_,_,_,rfl,hx3,T.cl _,T.nS _,gA _ _ _,by show 2<=sizeLine;decide,fun t ht=>?_⟩;rw[show (k,(e.2.1:Int),(e.2.2:Int),q').2.1=(e.2.1:Int) from rfl];have st:=aH ht (.tup [.ref u,.int (e.2.1:Int)]);have et:SqT K (upd H3 t (.tup [.ref u,.int (e.2.1:Int)])) t [.ref u,.int (e.2.1:Int)]:=SqT.of aF;generalize upd H3 t (.tup [.ref u,.int (e.2.1:Int)])=H4 at st et ⊢;have s24:=su.trans st;have e4:=s24 _ _ e2;refine⟨l,_,_,rfl,rfl,e4,bF (by omega),⟨(s2.trans s24).change hl,_,_,_,rfl,aF,?_⟩⟩;rw[tk];exact Sds.upd e4 ((S2.same s24).app (.cons et (st.seqT eu) .nil))
   ·have tk:stF (es.take (i+1)) p=stF (es.take i) p:=by
     unfold stF;rw[List.take_add_one,he,List.filterMap_append];show _++[e].filterMap _=_;rw[List.filterMap_cons,if_neg c1,if_neg c2];simp
    refine ifF (decide_eq_false (fun z=>c2 (by have:(e.2.2:Int)=(p:Int):=(by injection z);omega))) ⟨s2,ys,_,_,rfl,e2,?_⟩;rw[tk];exact S2
 rintro σ H2 ⟨s2,ys,z4,z5,rfl,e2,S2⟩;rw[List.length_map,List.take_length] at S2;exact⟨_,rfl,q l ys H2 s2 hl e2 S2⟩
abbrev eF:Stmt:=cP (top 23) 1
theorem rT:aS ["self"] ["self"] (aE eF):=⟨rfl,rfl,rfl,by decide +kernel,rfl,by decide +kernel,by decide +kernel⟩
theorem qC {dV:Value}(F:bS K "joins" "Piece.joins" eF dV f fd):aK P w K mg base CX 1 f fd ["self"] (iP .pc):=by
 refine F.ok rT (fun vs H Q E h=>?_) (fun cdv A outer s H vs Q E hr h=>?_)
 ·obtain⟨x,rfl,_⟩:=h;rfl
 obtain⟨x,rfl,q⟩:=h;exact⟨_,(aG (aQ dG)),q⟩
abbrev eI:Stmt:=cP (top 24) 1
theorem tD:aS ["self"] ["self"] (aE eI):=⟨rfl,rfl,rfl,by decide +kernel,rfl,by decide +kernel,by decide +kernel⟩
theorem rD {dV:Value}(F:bS K "joins" "Push.joins" eI dV f fd):aK P w K mg base CX 1 f fd ["self"] (iP .pu):=by
 refine F.ok tD (fun vs H Q E h=>?_) (fun cdv A outer s H vs Q E hr h=>?_)
 ·obtain⟨x,rfl,_⟩:=h;rfl
 obtain⟨x,rfl,q⟩:=h;exact⟨_,(aG (aQ dG)),q⟩
abbrev eN:Stmt:=cP (top 25) 1
theorem rV:aS ["self"] ["self"] (aE eN):=⟨rfl,rfl,rfl,by decide +kernel,rfl,by decide +kernel,by decide +kernel⟩
theorem rE {dV:Value}(F:bS K "joins" "Hold.joins" eN dV f fd):aK P w K mg base CX 1 f fd ["self"] (iP .ho):=by
 refine F.ok rV (fun vs H Q E h=>?_) (fun cdv A outer s H vs Q E hr h=>?_)
 ·obtain⟨x,rfl,_⟩:=h;rfl
 obtain⟨x,rfl,q⟩:=h;exact⟨_,(aG (aQ dG)),q⟩
end
end K62
set_option maxHeartbeats 1000000
namespace L2
open PySem PySem.Spec PyProof.Rows
theorem Ac {k:Key}{v:Value}(h:lM k v=true):bK (kV k) v:=by
 rcases cA h with ⟨i,t,rfl,rfl⟩ | ⟨x,t,rfl,rfl⟩
 ·exact⟨t,rfl⟩
 ·exact⟨t,rfl⟩
def Itk (a:Addr)(o:Obj)(kvs:List (Key × V)):It:=
 ⟨fun i H=>H a=some (.frz o (.dK kvs))/\i < kvs.length,fun i H x H'=>H'=H/\∃kv,kvs[i]?=some kv/\x=kV kv.1,fun i H=>H a=some (.frz o (.dK kvs))/\kvs.length<=i⟩
theorem xL {P:Program}{w:World}{H:Hp}{h:Heap}{a:Addr}{o:Obj}{kvs:List (Key × V)}{es:Array DictEntry}{ep:Nat}(ok:HOk P w H h)(e:H a=some (.frz o (.dK kvs)))(he:o.data=.dict es ep):∃vs,KV kvs vs/\h.DictAt (cG P w) a vs ep:=by
 obtain⟨eo,z,nd,vs,rel,dof⟩:=ok a _ e;obtain⟨ep',o',es',e',x,d,r⟩:=dof.dictAt;have:o'=o:=by rw[eo] at e';exact(Option.some.inj e').symm
 subst this;have:ep'=ep:=by rw[he] at d;injection d with _ d;exact d.symm
 subst this;exact⟨vs,rel,o',es',e',x,d,r⟩
theorem vQ {P:Program}{w:World}{K:PySem.W.Frag}{tg:Expr}(a it:Addr)(o:Obj)(kvs:List (Key × V)){es:Array DictEntry}{ep:Nat}(he:o.data=.dict es ep):vH P w K tg (Itk a o kvs) [it] it (fun i h=>h.IsKeyIter it a i kvs.length ep) where
 mem:=by simp
 obj:=fun i h st b hb=>by
  have e:b=it:=by simpa using hb
  subst e;obtain⟨o,e,c,d⟩:=st;exact⟨o,e,fun v z=>by rw[d] at z;cases z⟩
 keep:=fun i h h' st k=>by
  obtain⟨o,e,c,d⟩:=st;exact⟨o,k it (by simp) o e,c,d⟩
 item:=by
  intro X hP hw hK hc i pins s σ H E I hf st hg;subst hP hw hK;obtain⟨hq,hi⟩:=hg;obtain⟨vs,rel,da⟩:=xL I.hok hq he;have hl:=rel.length;have st:s.heap.IsKeyIter it a i vs.length ep:=by rw[<- hl];exact st
  have hk:kvs[i]?=some kvs[i]:=List.getElem?_eq_getElem hi;have hv:vs[i]?=some (vs[i]'(by omega)):=List.getElem?_eq_getElem (by omega);have ek:(kvs[i]).1=(vs[i]'(by omega)).1:=by
   have:=congrArg (·[i]?) rel.keys;rw[List.getElem?_map,List.getElem?_map,hk,hv] at this;exact Option.some.inj this
  obtain⟨f0,f1,f2,f3,f4,f5⟩:=hf it (by simp);refine wpAny_pyNext_dict_item st da (k:=(vs[i]'(by omega)).1) (v:=(vs[i]'(by omega)).2) hv fun key h' hk' st' sb=>?_;have I1:Inv X pins σ H { s with heap:=h' }:=I.turned (t':=s.toks) (fun b o hb e=>(sb.2 b hb).trans e) f0 f1 f3 f4 f5;obtain⟨o',e',c,d⟩:=id st';rw[<- ek] at hk';exact⟨key,rfl,uZ (s:={ s with heap:=h' }) e' c d (by decide) ⟨kV (kvs[i]).1,H,I1,Ac hk',⟨rfl,_,hk,rfl⟩,by rw[<- hl] at st';exact st',fun b hb=>(hf b hb).1⟩⟩
 done:=by
  intro X hP hw hK hc i pins s σ H E I hf st hg;subst hP hw hK;obtain⟨hq,hi⟩:=hg;obtain⟨vs,rel,da⟩:=xL I.hok hq he;have hl:=rel.length;have st:s.heap.IsKeyIter it a i vs.length ep:=by rw[<- hl];exact st
  obtain⟨f0,f1,f2,f3,f4,f5⟩:=hf it (by simp);exact wpAny_pyNext_dict_end (I.ok.hd hc) st da (List.getElem?_eq_none (by omega)) fun h' eb=>⟨rfl,I.turned (t':=s.toks) (fun b o hb e=>eb b o hb e) f0 f1 f3 f4 f5⟩
 self:=fun _ _ _ _ _ st h=>wpAny_pyIter_keyiter st h
theorem HOk.redo {P:Program}{w:World}{H:Hp}{h:Heap}{a:Addr}{u v:HO}(ok:HOk P w H h)(e:H a=some u)(nt:∀xs,u≠.tup xs)(no:∀y,u≠.own y)(new:cB P w H h a v):HOk P w (upd H a v) h:=fun b x q=>by
 have ho:∀c y,H c=some (.own y)->upd H a v c=some (.own y):=fun c y r=>by
  rw[aU (fun z=>by rw[z,e] at r;exact no y (Option.some.inj r))];exact r
 have ht:∀c xs,H c=some (.tup xs)->upd H a v c=some (.tup xs):=fun c xs r=>by
  rw[aU (fun z=>by rw[z,e] at r;exact nt xs (Option.some.inj r))];exact r
 by_cases hb:b=a
 ·subst hb;rw[aF] at q
  cases q
  exact new.stay (fun _ _ _ r=>r) (fun c r=>ho c _ r) ht
 ·rw[aU hb] at q;exact(ok b x q).stay (fun _ _ _ r=>r) (fun c r=>ho c _ r) ht
theorem Inv.freeze {X:Cx}{pins:List (Addr × Obj)}{σ:St}{H:Hp}{s:Shared}{a:Addr}{o:Obj}{kvs:List (Key × V)}(I:Inv X pins σ H s)(e:H a=some (.dK kvs))(eo:s.heap.get? a=some o):Inv X pins σ (upd H a (.frz o (.dK kvs))) s:=by
 have nn:∀{b:Addr},H b=none->upd H a (.frz o (.dK kvs)) b=none:=fun {b} r=>by
  rw[aU (fun z=>by rw[z,e] at r;cases r)];exact r
 refine⟨I.ok,I.os,I.bare,⟨I.base.keep,I.base.slot,fun b ob q n hx=>nn (I.base.free b ob q n hx),I.base.there,fun b xs q=>?_,fun b ob u q=>?_,fun b ps q=>?_⟩,I.loc,I.cell,nn I.free,fun x c q=>nn (I.freeC x c q),fun p hp=>?_,HOk.redo I.hok e (fun _ z=>by cases z) (fun _ z=>by cases z) ⟨eo,I.hok a _ e⟩,I.len⟩
 ·have r:=I.base.tups b xs q;rw[aU (fun z=>by rw[z,e] at r;cases r)];exact r
 ·have r:=I.base.frzs b ob u q;rw[aU (fun z=>by rw[z,e] at r;cases r)];exact r
 ·obtain⟨m,r⟩:=I.base.tbls b ps q;exact⟨m,by rw[aU (fun z=>by rw[z,e] at r;cases r)];exact r⟩
 ·obtain⟨h1,h2,h3⟩:=I.pin p hp;exact⟨h1,nn h2,h3⟩
def Hd (tl:TE):TI:=fun σ H R=>tl σ H fun x H1=>∃a kvs,x=.ref a/\H1 a=some (.dK kvs)/\∀o,R (Itk a o kvs) (upd H1 a (.frz o (.dK kvs)))
theorem Bc {X:Cx}{tg l:Expr}{tl:TE}(hl:PE X l tl):PI X tg l (Hd tl):=by
 intro pins s σ H R I h;refine thn (hl pins s σ H _ I h) fun v s1 ⟨x,H1,I1,r1,q1⟩=>?_;obtain⟨a,kvs,e,hd,q⟩:=q1;subst e
 cases r1
 obtain⟨z,nd,vs,rel,dof⟩:=uO I1.hok hd;obtain⟨ep,da⟩:=dof.dictAt;obtain⟨o,es,eo,x,ed,r⟩:=id da;refine wpAny_pyIter_dict nd da ?_;have I2:=I1.freeze hd eo;refine⟨s1.heap.objs.size,[s1.heap.objs.size],_,_,_,rfl,I2.kept (t':=s1.toks) fun b o e=>Heap.get?_push_of_some _ e,vQ a _ o kvs ed,⟨_,Heap.get?_push_size _ rfl,rfl,by rw[rel.length];rfl⟩,fun b hb=>?_,q o⟩;have e:b=s1.heap.objs.size:=by simpa using hb
 subst e;exact I2.fpOk (Nat.le_refl _) (I2.hok.fresh (Nat.le_refl _))
theorem yY {a:Addr}{o:Obj}{kvs:List (Key × V)}{g:TG}{tb:TS}{D:fF}{σ:St}{H:Hp}(Pv:Nat->St->Hp->Prop)(h0:Pv 0 σ H)(hl:∀i σ H,Pv i σ H->H a=some (.frz o (.dK kvs)))(hs:∀i kv σ H,kvs[i]?=some kv->Pv i σ H->g (kV kv.1) σ H fun σ2 H2=>tb { D with nx:=Pv (i+1),ct:=Pv (i+1),bk:=D.nx } σ2 H2)(hd:∀σ H,Pv kvs.length σ H->D.nx σ H) :
  ∃W:Nat->Nat->St->Hp->Prop,(∃m,W 0 m σ H)/\∀i m σ H,W i m σ H->
   ((Itk a o kvs).stop i H/\D.nx σ H)\/((Itk a o kvs).go i H/\∃N:St->Hp->Prop,(∀σ' H',N σ' H'->∃m',m' < m/\W (i+1) m' σ' H')/\∀x H',(Itk a o kvs).yld i H x H'->g x σ H' fun σ2 H2=>tb { D with nx:=N,ct:=N,bk:=D.nx } σ2 H2):=by
 refine⟨fun i m σ H=>m=kvs.length - i/\i<=kvs.length/\Pv i σ H,⟨kvs.length,by simp,Nat.zero_le _,h0⟩,?_⟩;rintro i m σ H ⟨rfl,hi,p⟩;have q:=hl i σ H p
 by_cases hlt:i < kvs.length
 ·refine .inr ⟨⟨q,hlt⟩,Pv (i+1),fun σ' H' p'=>⟨kvs.length - (i+1),by omega,rfl,hlt,p'⟩,fun x H' y=>?_⟩;obtain⟨e,kv,hk,ex⟩:=y;subst e ex;exact hs i kv σ _ hk p
 ·have e:i=kvs.length:=by omega
  subst e;exact .inl ⟨⟨q,Nat.le_refl _⟩,hd σ H p⟩
theorem aK.thaw {P:Program}{w:World}{K:PySem.W.Frag}{mg:Str->Option Value}{base:Heap}{CX:CXT}{k:Nat}{f:Addr}{fd:FuncData}{ps:List Str}{sp sp':Sp}(F:aK P w K mg base CX k f fd ps sp)(h:∀vs H Q E,sp' vs H Q E->∃a kvs,H a=some (.dK kvs)/\sp vs H (fun v H'=>∃o,H' a=some (.frz o (.dK kvs))/\Q v (upd H' a (.dK kvs))) E):aK P w K mg base CX k f fd ps sp':=by
 refine⟨fun vs H Q E q=>?_,fun A outer s H args us vs Q E hr he hb hv hs=>?_⟩
 ·obtain⟨a,kvs,_,z⟩:=h vs H Q E q;exact F.len _ _ _ _ z
 ·obtain⟨a,kvs,ea,z⟩:=h vs H Q E hs;refine codeAny_mono (F.run A outer s H args us vs _ E hr he hb hv z) fun r s' hq=>?_
  cases r with
  |error e=>exact hq
  |ok fl=>
   cases fl with
   |next=>exact hq
   |brk=>exact hq
   |cont=>exact hq
   |ret u=>
    obtain⟨v,H',os,bare,un,hok,rv,o,ef,q⟩:=hq;refine⟨v,upd H' a (.dK kvs),os,bare,⟨un.keep,un.slot,fun b ob q n hx=>?_,un.there,fun b xs q=>?_,fun b ob u q=>?_,fun b ps q=>?_⟩,HOk.redo hok ef (fun _ z=>by cases z) (fun _ z=>by cases z) (hok a _ ef).2,rv,q⟩
    ·rw[aU (fun z=>by rw[z,ea] at n;cases n)];exact un.free b ob q n hx
    ·rw[aU (fun z=>by rw[z,ea] at q;cases q)];exact un.tups b xs q
    ·rw[aU (fun z=>by rw[z,ea] at q;cases q)];exact un.frzs b ob u q
    ·rw[aU (fun z=>by rw[z,ea] at q;cases q)];exact un.tbls b ps q
end L2
set_option maxHeartbeats 4000000
namespace Shp
open PySem L2
end Shp
set_option maxHeartbeats 1000000
set_option maxHeartbeats 4000000
namespace Shp
open PySem L2
abbrev bw (n m:Nat):Nat:=(n+5)*(m+1)+8
end Shp
set_option maxHeartbeats 1000000
set_option maxHeartbeats 4000000
set_option maxHeartbeats 2000000
namespace Mq
section
variable {L K:Int} {M N:Nat} {x y:Rat}
theorem tU (h:1<=L):((L:Int):Rat)≠0:=by exact_mod_cast (show L≠0 by omega)
end
end Mq
set_option maxHeartbeats 1000000
namespace L2
open PySem PySem.Spec PyProof.Rows Shp
abbrev Ent:=Option Nat × RD × Mq.Q2
abbrev Jm (E:List Ent):List Nat:=E.filterMap (·.1)
section
variable {m u j:Nat} {hs:List Mq.Q2} {par:Nat->Nat} {E:List Ent}
abbrev Jk (E:List Ent)(C:List RD):List RD:=E.map (·.2.1)++C
end
end L2
set_option maxHeartbeats 2000000
set_option maxHeartbeats 4000000
set_option maxHeartbeats 1000000
namespace L2
open PySem PySem.Spec PyProof.Rows Shp
abbrev Hn:=Option (Nat × Nat) × RD
abbrev tgs (E:List Hn):List (Nat × Nat):=E.filterMap (·.1)
section
variable {m t J:Nat} {E:List Hn}
abbrev rwH (E:List Hn):List RD:=E.map (·.2)
end
abbrev Pr2:=RD × Mq.Q2
abbrev prE (E:List Ent):List Pr2:=E.map (·.2)
section
variable {m u:Nat} {hs:List Mq.Q2} {par:Nat->Nat} {E:List Ent}
abbrev M0 (u:Nat):Nat:=(2 ^ u+2 ^ u)*2 ^ u
end
abbrev sk3 (d:RD):Kd × Int × Int:=(d.1,d.2.1,d.2.2.1)
def dX (d:RD):Rat:=if d.1=.pc then Mq.val d.2.2.2 else 0
structure Nsq (u:HO):Prop where
 l:∀xs,u≠.lst xs
 fl:∀o xs,u≠.frz o (.lst xs)
 t:∀xs,u≠.tup xs
 ft:∀o xs,u≠.frz o (.tup xs)
theorem Nsq.dk (kvs:List (Key × V)):Nsq (.dK kvs):=⟨(fun _ z=>by cases z),(fun _ _ z=>by cases z),(fun _ z=>by cases z),(fun _ _ z=>by cases z)⟩
section
variable {K:PySem.W.Frag} {H H':Hp} {d:Addr} {u:HO}
theorem bU.sqT (hd:H d=some u)(n:Nsq u)(e:bU d H H'){a:Addr}{xs:List V}(h:SqT K H a xs):SqT K H' a xs:=by
 rcases h with (h | ⟨o,h⟩) | h
 ·exact .inl (.inl (e _ _ h fun z=>by rw[z,hd] at h;exact n.t _ (Option.some.inj h)))
 ·exact .inl (.inr ⟨o,e _ _ h fun z=>by rw[z,hd] at h;exact n.ft _ _ (Option.some.inj h)⟩)
 ·exact .inr h
theorem Sts.x (hd:H d=some u)(n:Nsq u)(e:bU d H H'):∀{xs:List V} {st:List Stp},Sts K H xs st->Sts K H' xs st
 |_,_,.nil=>.nil
 |_,_,.cons h q=>.cons (bU.sqT hd n e h) (Sts.x hd n e q)
theorem Sds.x (hd:H d=some u)(n:Nsq u)(e:bU d H H'):∀{xs:List V} {st:List (Stp × Nat)},Sds K H xs st->Sds K H' xs st
 |_,_,.nil=>.nil
 |_,_,.cons h g q=>.cons (bU.sqT hd n e h) (bU.sqT hd n e g) (Sds.x hd n e q)
end
abbrev En:=Nat × Mq.Q2 × List Stp
inductive bZ (K:PySem.W.Frag) (H:Hp):List (Key × V)->List En->Prop where
 |nil:bZ K H [] []
 |cons {t lr rr:Addr} {e:En} {ws:List V} {kvs:List (Key × V)} {es:List En} (ht:SqT K H t [.ref lr,.ref rr]) (fl:Fq K H lr e.2.1) (hr:H rr=some (.lst ws)) (sw:Sts K H ws e.2.2) (q:bZ K H kvs es):bZ K H ((.inl (e.1:Int),.ref t) :: kvs) (e :: es)
def jS (K:PySem.W.Frag)(H:Hp)(v:V)(e:En):Prop:=∃t lr rr ws,v=.ref t/\SqT K H t [.ref lr,.ref rr]/\Fq K H lr e.2.1/\H rr=some (.lst ws)/\Sts K H ws e.2.2
abbrev eks (es:List En):List Nat:=es.map (·.1)
section
variable {K:PySem.W.Frag} {H H':Hp} {d:Addr} {u:HO}
theorem jS.same (s:bA H H'){v:V}{e:En}(h:jS K H v e):jS K H' v e:=by
 obtain⟨t,lr,rr,ws,a,b,c,f,g⟩:=h;exact⟨t,lr,rr,ws,a,s.seqT b,s.fq c,s _ _ f,g.same s⟩
theorem jS.x (hd:H d=some u)(n:Nsq u)(s:bU d H H'){v:V}{e:En}(h:jS K H v e):jS K H' v e:=by
 obtain⟨t,lr,rr,ws,a,b,c,f,g⟩:=h;exact⟨t,lr,rr,ws,a,bU.sqT hd n s b,bU.sqT hd n s c,s _ _ f (fun z=>by rw[z,hd] at f;exact n.l _ (Option.some.inj f)),g.x hd n s⟩
theorem bZ.snoc:∀{kvs:List (Key × V)} {es:List En} {v:V} {e:En},bZ K H kvs es->jS K H v e->bZ K H (kvs++[(.inl (e.1:Int),v)]) (es++[e])
 |_,_,_,_,.nil,⟨_,_,_,_,rfl,b,c,f,g⟩=>.cons b c f g .nil
 |_,_,_,_,.cons ht fl hr sw q,h=>.cons ht fl hr sw (q.snoc h)
theorem bZ.same (s:bA H H'):∀{kvs:List (Key × V)} {es:List En},bZ K H kvs es->bZ K H' kvs es
 |_,_,.nil=>.nil
 |_,_,.cons ht fl hr sw q=>.cons (s.seqT ht) (s.fq fl) (s _ _ hr) (sw.same s) (bZ.same s q)
theorem bZ.x (hd:H d=some u)(n:Nsq u)(s:bU d H H'):∀{kvs:List (Key × V)} {es:List En},bZ K H kvs es->bZ K H' kvs es
 |_,_,.nil=>.nil
 |_,_,.cons ht fl hr sw q=>.cons (bU.sqT hd n s ht) (bU.sqT hd n s fl) (s _ _ hr (fun z=>by rw[z,hd] at hr;exact n.l _ (Option.some.inj hr))) (sw.x hd n s) (bZ.x hd n s q)
theorem bZ.length:∀{kvs:List (Key × V)} {es:List En},bZ K H kvs es->kvs.length=es.length
 |_,_,.nil=>rfl
 |_,_,.cons _ _ _ _ q=>congrArg (· + 1) q.length
theorem bZ.at:∀{kvs:List (Key × V)} {es:List En} {i:Nat} {kv:Key × V},bZ K H kvs es->kvs[i]?=some kv->∃e,es[i]?=some e/\kv.1=.inl (e.1:Int)
 |_,_,0,_,.cons (e:=e) _ _ _ _ _,h=>by cases h;exact⟨e,rfl,rfl⟩
 |_,_,i+1,_,.cons _ _ _ _ q,h=>q.at (i:=i) h
theorem nO {k:Key}{kv:Key × V}{kvs:List (Key × V)}:fU (kv :: kvs) k=if kv.1=k then some kv.2 else fU kvs k:=by
 unfold fU;rw[List.find?_cons]
 by_cases c:kv.1=k
 ·rw[decide_eq_true c,if_pos c];rfl
 ·rw[decide_eq_false c,if_neg c]
theorem dL {a b:Nat}:((.inl (a:Int):Key)=.inl (b:Int))↔a=b:=⟨fun h=>by injection h with h;omega,fun h=>by rw[h]⟩
theorem bZ.find:∀{kvs:List (Key × V)} {es:List En} {k:Nat},bZ K H kvs es->k∈eks es->∃v e,e∈es/\e.1=k/\fU kvs (.inl (k:Int))=some v/\jS K H v e
 |_,_,k,.cons (t:=t) (e:=e) ht fl hr sw q,h=>by
  rw[nO]
  by_cases c:e.1=k
  ·exact⟨.ref t,e,List.mem_cons_self ..,c,by rw[if_pos (dL.mpr c)],t,_,_,_,rfl,ht,fl,hr,sw⟩
  ·rcases List.mem_cons.mp h with z | z
   ·exact absurd z.symm c
   ·obtain⟨v,e',m,a,b,f⟩:=q.find z;exact⟨v,e',List.mem_cons_of_mem _ m,a,by rw[if_neg (fun z=>c (dL.mp z))];exact b,f⟩
theorem bZ.lack:∀{kvs:List (Key × V)} {es:List En} {k:Nat},bZ K H kvs es->k∉eks es->fU kvs (.inl (k:Int))=none
 |_,_,_,.nil,_=>rfl
 |_,_,k,.cons (e:=e) ht fl hr sw q,h=>by
  rw[nO,if_neg (fun z=>h (by rw[<- dL.mp z];exact List.mem_cons_self ..))];exact q.lack fun z=>h (List.mem_cons_of_mem _ z)
theorem bZ.one:∀{es:List En} {e e':En},(eks es).Nodup->e∈es->e'∈es->e.1=e'.1->e=e'
 |x :: es,e,e',nd,h,h',ee=>by
  obtain⟨n1,n2⟩:=List.nodup_cons.mp (show (x.1 :: eks es).Nodup from nd);rcases List.mem_cons.mp h with z | z<;>rcases List.mem_cons.mp h' with z' | z'
  ·rw[z,z']
  ·exact absurd (List.mem_map.mpr ⟨e',z',by rw[<- ee,z]⟩) n1
  ·exact absurd (List.mem_map.mpr ⟨e,z,by rw[ee,z']⟩) n1
  ·exact bZ.one n2 z z' ee
def iV (es:List En)(k:Nat):List En:=es.filter fun e=>decide (e.1≠k)
theorem bZ.drop {k:Nat}:∀{kvs:List (Key × V)} {es:List En},bZ K H kvs es->bZ K H (fE kvs (.inl (k:Int))) (iV es k)
 |_,_,.nil=>.nil
 |_,_,.cons (e:=e) ht fl hr sw q=>by
  unfold fE iV
  by_cases c:e.1=k
  ·rw[List.filter_cons_of_neg (by simpa using dL.mpr c),List.filter_cons_of_neg (by simpa using c)];exact q.drop
  ·rw[List.filter_cons_of_pos (by simpa using fun z=>c (dL.mp z)),List.filter_cons_of_pos (by simpa using c)];exact .cons ht fl hr sw q.drop
def hV (es:List En)(e:En):List En:=if e.1∈eks es then es.map (fun x=>if x.1=e.1 then e else x) else es++[e]
theorem bZ.put {kvs:List (Key × V)}{es:List En}{v:V}{e:En}(h:bZ K H kvs es)(w:jS K H v e):bZ K H (dY kvs (.inl (e.1:Int)) v) (hV es e):=by
 have an:∀{kvs:List (Key × V)} {es:List En},bZ K H kvs es->(kvs.any fun kv=>decide (kv.1=.inl (e.1:Int)))=decide (e.1∈eks es):=fun {kvs es} h=>by
  induction h with
  |nil=>rfl
  |cons ht fl hr sw q ih=>
   rename_i x ws kvs es
   rw[List.any_cons,ih];show _=decide (e.1∈x.1 :: eks es)
   by_cases c:x.1=e.1
   ·rw[decide_eq_true (dL.mpr c),Bool.true_or,decide_eq_true (show e.1∈x.1 :: eks es from by rw[c];exact List.mem_cons_self ..)]
   ·rw[decide_eq_false (fun z=>c (dL.mp z)),Bool.false_or]
    by_cases m:e.1∈eks es
    ·rw[decide_eq_true m,decide_eq_true (List.mem_cons_of_mem _ m)]
    ·rw[decide_eq_false m,decide_eq_false (fun z=>(List.mem_cons.mp z).elim (fun z=>c z.symm) m)]
 unfold dY hV;rw[an h]
 by_cases m:e.1∈eks es
 ·rw[if_pos (decide_eq_true m),if_pos m];clear m an
  induction h with
  |nil=>exact .nil
  |cons ht fl hr sw q ih=>
   rename_i t lr rr x ws kvs es
   rw[List.map_cons,List.map_cons]
   by_cases c:x.1=e.1
   ·rw[if_pos (dL.mpr c),if_pos c];obtain⟨t,lr,rr,ws,rfl,b,c',f,g⟩:=w;dsimp only;rw[dL.mpr c];exact .cons b c' f g ih
   ·rw[if_neg (fun z=>c (dL.mp z)),if_neg c];exact .cons ht fl hr sw ih
 ·rw[if_neg (by rw[decide_eq_false m];decide),if_neg m];exact h.snoc w
end
theorem sU {p q:Mq.Q2}(hp:1<=p.2)(hq:1<=q.2):p.1*q.2 < q.1*p.2↔Mq.val p < Mq.val q:=by
 have a:=Mq.tU hp;have b:=Mq.tU hq;have a0:(0:Rat) < (p.2:Rat):=by exact_mod_cast (show 0 < p.2 by omega)
 have b0:(0:Rat) < (q.2:Rat):=by exact_mod_cast (show 0 < q.2 by omega)
 have e:(Mq.val q - Mq.val p)*((p.2:Rat)*(q.2:Rat))=((q.1*p.2 - p.1*q.2:Int):Rat):=by
  unfold Mq.val;rw[Rat.intCast_sub,Rat.intCast_mul,Rat.intCast_mul];grind
 have m0:=Rat.mul_pos a0 b0;constructor
 ·intro h;have h0:(0:Rat) < ((q.1*p.2 - p.1*q.2:Int):Rat):=by exact_mod_cast (show 0 < q.1*p.2 - p.1*q.2 by omega)
  rw[<- e] at h0;rcases Rat.le_total (a:=Mq.val q) (b:=Mq.val p) with c | c
  ·exfalso
   have:=Rat.mul_nonneg (show 0<=Mq.val p - Mq.val q by grind) (Rat.le_of_lt m0);grind
  ·refine Rat.lt_of_le_of_ne c fun z=>?_;rw[z] at h0;grind
 ·intro h;have h1:(0:Rat) < (Mq.val q - Mq.val p)*((p.2:Rat)*(q.2:Rat)):=Rat.mul_pos (by grind) m0;rw[e] at h1;have:0 < q.1*p.2 - p.1*q.2:=by exact_mod_cast h1
  omega
def uJ (K:PySem.W.Frag):Sp:=fun vs H Q _=>∃(d:Addr) (kvs:List (Key × V)) (es:List En),vs=[.ref d]/\H d=some (.dK kvs)/\bZ K H kvs es/\es≠[]/\(eks es).Nodup/\(∀e∈es,Mq.Low e.2.1/\Mq.Bd 4000 e.2.1)/\
 ∀(e:En) (o:Obj) (H':Hp),e∈es->(∀x∈es,Mq.val e.2.1<=Mq.val x.2.1)->bU d H H'->H' d=some (.frz o (.dK kvs))->Q (.int (e.1:Int)) H'
def xQ (K:PySem.W.Frag):Sp:=fun vs H Q _=>∃(d:Addr) (kvs:List (Key × V)) (es:List En),vs=[.ref d]/\H d=some (.dK kvs)/\bZ K H kvs es/\es≠[]/\(eks es).Nodup/\(∀e∈es,Mq.Low e.2.1/\Mq.Bd 4000 e.2.1)/\
 ∀(e:En) (H':Hp),e∈es->(∀x∈es,Mq.val e.2.1<=Mq.val x.2.1)->bA H H'->Q (.int (e.1:Int)) H'
theorem vR {P:Program}{w:World}{K:PySem.W.Frag}{mg:Str->Option Value}{base:Heap}{CX:CXT}{k:Nat}{f:Addr}{fd:FuncData}{ps:List Str}(F:aK P w K mg base CX k f fd ps (uJ K)):aK P w K mg base CX k f fd ps (xQ K):=
 F.thaw fun vs H Q E ⟨d,kvs,es,hv,hd,he,h0,nd,hb,q⟩=>⟨d,kvs,hd,d,kvs,es,hv,hd,he,h0,nd,hb,fun e o H' me mi sx ef=>⟨o,ef,q e _ me mi fun b u hb=>by
  by_cases c:b=d
  ·rw[c,aF,<- hd,<- c,hb]
  ·rw[aU c];exact sx b u hb c⟩⟩
def rH (K:PySem.W.Frag)(CK:Kd->Addr):Sp:=fun vs H Q _=>∃(x z:Addr) (k:Kd) (i j:Int) (p:Mq.Q2),vs=[.ref x]/\Rw CK H x k (.int i) (.int j) (.ref z)/\Fq K H z p/\∀r,Fq K H r (if k=.pc then p else (0,1))->Q (.ref r) H
end L2
set_option maxHeartbeats 4000000
namespace K62
open PySem L2 Shp
section
variable {P:Program} {w:World} {K:PySem.W.Frag} {mg:Str->Option Value} {base:Heap} {f g1 g2 g3 g4 g5 g6 g7 g8:Addr} {fd gd1 gd2 gd3 gd4 gd5 gd6 gd7 gd8:FuncData} {CX:CXT}
variable {CR:Addr} {CK:Kd->Addr} {fW fJ fT fS:Kd->Addr} {fdW fdJ fdT fdS:Kd->FuncData}
abbrev mY:Stmt:=top 42
theorem pV:aS ["waiting","best","point"] ["waiting"] (aE mY):=⟨rfl,rfl,rfl,by decide +kernel,rfl,by decide +kernel,by decide +kernel⟩
theorem Am {dV:Value}(F:bS K "nearest" "nearest" mY dV f fd)(G1:aK P w K mg base CX0 1 g1 gd1 ["one","other"] (kU K))(b1:aR K gd1 ["one","other"] [])(k1:PySem.W.keepIn K (.ref g1)=true)(m1:mg "under"=some (.ref g1)) :
  aK P w K mg base CX 2 f fd ["waiting"] (uJ K):=by
 refine F.ok pV (fun vs H Q E h=>?_) (fun cdv A outer s H vs Q E hr h=>?_)
 ·obtain⟨d,kvs,es,rfl,hd,HE,h0,nd,hb,q⟩:=h;rfl
 obtain⟨d,kvs,es,rfl,hd,HE,h0,nd,hb,q⟩:=h;have hu:=hr.units;refine⟨_,(aC (aT (i:=1) pV.nd rfl (Or.inl rfl) iI)
  (aC (dA PassesOwn.never rfl (Bc (pv 0)) (bE (i:=2) pV.nd rfl (Or.inl rfl))
   (aG (bH (PW.pt (cW (dZ (jV (pv 1))) (cR (bN (aI G1 hr rfl m1 k1 b1 .nil aO (aA (aL aM (iZ (fX hr) (pv 0) (pv 2) (fun _ _=>rfl)) aB (fun _ _=>rfl)) (aA (aL aM (iZ (fX hr) (pv 0) (pv 1) (fun _ _=>rfl)) aB (fun _ _=>rfl)) aD))))))) (aG (aT (i:=1) pV.nd rfl (Or.inl rfl) (pv 2))) aV)))
  (aG (aQ (pv 1))))),?_⟩
 refine⟨_,rfl,d,kvs,rfl,hd,fun o=>?_⟩;have sx:bU d H (upd H d (.frz o (.dK kvs))):=fun b u h n=>by rw[aU n];exact h
 have HF:=HE.x hd (Nsq.dk kvs) sx;have ef:upd H d (.frz o (.dK kvs)) d=some (.frz o (.dK kvs)):=aF;generalize upd H d (.frz o (.dK kvs))=Hf at sx HF ef ⊢;have ll:=HF.length;refine yY (fun i σ H'=>H'=Hf/\((i=0/\∃z,σ=[some (.ref d),some .non,z])\/∃(e:En) (z:Option V),e∈es/\(∀x∈es.take i,Mq.val e.2.1<=Mq.val x.2.1)/\σ=[some (.ref d),some (.int (e.1:Int)),z])) ⟨rfl,.inl ⟨rfl,none,rfl⟩⟩ (fun i σ H' h=>by rw[h.1];exact ef) ?_ ?_
 ·rintro i ⟨k,v⟩ σ H' hk ⟨rfl,h⟩;obtain⟨e,he,ek⟩:=HF.at hk;have ek:k=.inl (e.1:Int):=ek;subst ek;have me:=List.mem_of_getElem? he;have tk:es.take (i+1)=es.take i++[e]:=by rw[List.take_add_one,he];rfl
  rw[tk];rcases h with ⟨rfl,z,rfl⟩ | ⟨e0,z,me0,mi,rfl⟩
  ·refine⟨_,rfl,_,rfl,dF (dF ⟨_,rfl,rfl,.inr ⟨e,_,me,fun x hx=>?_,rfl⟩⟩)⟩;have:x=e:=by simpa using hx
   rw[this];exact Rat.le_refl
  ·obtain⟨v1,e1,m1',k1',hv1,t1,lr1,rr1,ws1,rfl,ht1,fl1,_⟩:=HF.find (k:=e.1) (List.mem_map.mpr ⟨e,me,rfl⟩);obtain⟨v2,e2,m2,k2,hv2,t2,lr2,rr2,ws2,rfl,ht2,fl2,_⟩:=HF.find (k:=e0.1) (List.mem_map.mpr ⟨e0,me0,rfl⟩);have x1:=bZ.one nd m1' me k1';have x2:=bZ.one nd m2 me0 k2;subst x1 x2;have l1:=hb e1 me;have l2:=hb e2 me0;refine⟨_,rfl,_,rfl,bX ⟨_,rfl,_,rfl,d,_,rfl,.inl ⟨kvs,_,.inr ⟨o,ef⟩,rfl,hv1.symm⟩,t1,_,_,_,rfl,rfl,ht1,rfl,_,rfl,_,rfl,d,_,rfl,.inl ⟨kvs,_,.inr ⟨o,ef⟩,rfl,hv2.symm⟩,t2,_,_,_,rfl,rfl,ht2,rfl,?_⟩⟩;refine⟨lr1,lr2,_,_,4000,4000,rfl,fl1,fl2,l1.2,l2.2,by omega,_,rfl,?_⟩;have vl:=sU l1.1.pos l2.1.pos
   by_cases c:e1.2.1.1*e2.2.1.2 < e2.2.1.1*e1.2.1.2
   ·rw[decide_eq_true c];refine dF ⟨_,rfl,rfl,.inr ⟨e1,_,me,fun x hx=>?_,rfl⟩⟩;have lt:=vl.mp c;rcases List.mem_append.mp hx with y | y
    ·have:=mi x y;grind
    ·have:x=e1:=by simpa using y
     rw[this];exact Rat.le_refl
   ·rw[decide_eq_false c];refine bX ⟨rfl,.inr ⟨e2,_,me0,fun x hx=>?_,rfl⟩⟩;rcases List.mem_append.mp hx with y | y
    ·exact mi x y
    ·have:x=e1:=by simpa using y
     rw[this];have nlt:=fun z=>c (vl.mpr z);rcases Rat.le_total (a:=Mq.val e2.2.1) (b:=Mq.val e1.2.1) with q1 | q1
     ·exact q1
     ·by_cases q2:Mq.val e1.2.1=Mq.val e2.2.1
      ·rw[q2];exact Rat.le_refl
      ·exact absurd (Rat.lt_of_le_of_ne q1 q2) nlt
 ·rintro σ H' ⟨rfl,h⟩;rcases h with ⟨z,_⟩ | ⟨e0,z,me0,mi,rfl⟩
  ·exact absurd (List.eq_nil_of_length_eq_zero (by omega)) h0
  ·rw[ll,List.take_length] at mi;exact⟨_,rfl,q e0 o _ me0 mi sx ef⟩
abbrev nF:Stmt:=top 40
theorem Dx:aS ["row"] ["row"] (aE nF):=⟨rfl,rfl,rfl,by decide +kernel,rfl,by decide +kernel,by decide +kernel⟩
theorem zP {dV:Value}(F:bS K "length_of" "length_of" nF dV f fd)(T:RT K mg CR CK){aN:Addr}(fN:∀H,Fq K H aN (0,1))(mNO:mg "NOUGHT"=some (.ref aN))(GW:∀k,aK P w K mg base CX0 1 (fW k) (fdW k) ["self"] (jX k))(bW:∀k,aR K (fdW k) ["self"] [])(mW:∀k,gE K (CK k) "word" (fW k)) :
  aK P w K mg base CX 2 f fd ["row"] (rH K CK):=by
 refine F.ok Dx (fun vs H Q E h=>?_) (fun cdv A outer s H vs Q E hr h=>?_)
 ·obtain⟨x,z,k,i,j,p,rfl,rw,fz,q⟩:=h;rfl
 obtain⟨x,z,k,i,j,p,rfl,rw,fz,q⟩:=h;refine⟨_,(aG (aQ (mG (aZ dE (gU (pv 0) T.cl mW GW hr bW .nil aO) cN (bC _)) (cU (pv 0) rfl) (gO (v:=.ref aN) rfl mNO rfl)))),?_⟩;obtain⟨dx,hx⟩:=id rw;refine⟨_,rfl,k,x,dx,_,rfl,hx,(iQ _ _ _ (by decide +kernel) (by decide +kernel) (by decide +kernel)),_,rfl,rfl,_,rfl,?_⟩
 by_cases hk:k=.pc
 ·refine L2.ifT (by show decide (V.str k.wd=V.str Kd.pc.wd)=true;rw[cM];exact decide_eq_true hk) ?_;refine⟨_,rfl,x,CK _,_,_,_,rfl,hx,T.cl _,T.nZ _,mC _ _ _,?_⟩;rw[if_pos hk] at q;exact q z fz
 ·refine L2.ifF (by show decide (V.str k.wd=V.str Kd.pc.wd)=false;rw[cM];exact decide_eq_false hk) ?_;rw[if_neg hk] at q;exact q aN (fN _)
end
end K62
set_option maxHeartbeats 1000000
namespace L2
open PySem PySem.Spec PyProof.Rows Shp
inductive Rds (ds:List RD) (a:Nat):Nat->Rat->List Stp->Prop where
 |here:Rds ds a a 0 []
 |go {x:Rat} {st:List Stp} {i:Nat} {d:RD} {p q:Nat} (r:Rds ds a p x st) (hd:ds[i]?=some d) (hk:d.1≠.pu) (e:d.2.1.toNat=p) (f:d.2.2.1.toNat=q):Rds ds a q (x+dX d) (st++[(i,1)])
 |back {x:Rat} {st:List Stp} {i:Nat} {d:RD} {p q:Nat} (r:Rds ds a p x st) (hd:ds[i]?=some d) (hk:d.1≠.pu) (e:d.2.2.1.toNat=p) (f:d.2.1.toNat=q):Rds ds a q (x+dX d) (st++[(i,-1)])
def brF (ds:List RD):List Br:=(List.range ds.length).filterMap fun i=>match ds[i]? with
 |some d=>if d.1=.pu then none else some (i,d.2.1.toNat,d.2.2.1.toNat)
 |none=>none
theorem tK {ds:List RD}{e:Br}(h:e∈brF ds):∃d,ds[e.1]?=some d/\d.1≠.pu/\e.2.1=d.2.1.toNat/\e.2.2=d.2.2.1.toNat:=by
 obtain⟨i,hi,he⟩:=List.mem_filterMap.mp h
 cases hd:ds[i]? with
 |none=>rw[hd] at he;cases he
 |some d=>
  rw[hd] at he;dsimp only at he;split at he
  ·cases he
  ·rename_i c
   cases he
   exact⟨d,hd,c,rfl,rfl⟩
theorem uN {ds:List RD}{i:Nat}{d:RD}(h:ds[i]?=some d)(hk:d.1≠.pu):(i,d.2.1.toNat,d.2.2.1.toNat)∈brF ds:=
 List.mem_filterMap.mpr ⟨i,List.mem_range.mpr (List.getElem?_eq_some_iff.mp h).1,by rw[h];dsimp only;rw[if_neg hk]⟩
theorem Em {m:Nat}{ds:List RD}(pt:∀d∈ds,Hm (m:Int) d.2.1 d.2.2.1):Ge ds (brF ds):=fun e he=>by
 obtain⟨d,hd,_,a,b⟩:=tK he;obtain⟨p1,p2,p3,p4⟩:=pt d (List.mem_of_getElem? hd);exact⟨d,hd,by rw[a];omega,by rw[b];omega⟩
theorem tT (ds:List RD):(brF ds).length<=ds.length:=by
 unfold brF;refine Nat.le_trans (List.length_filterMap_le _ _) ?_;rw[List.length_range];exact Nat.le_refl _
theorem zQ {ds:List RD}{p:Nat}{x:Stp × Nat}(h:x∈stF (brF ds) p):∃d,ds[x.1.1]?=some d/\d.1≠.pu/\((x.1.2=1/\d.2.1.toNat=p/\d.2.2.1.toNat=x.2)\/(x.1.2=-1/\d.2.2.1.toNat=p/\d.2.1.toNat=x.2)):=by
 obtain⟨e,he,hx⟩:=List.mem_filterMap.mp h;obtain⟨d,hd,hk,a,b⟩:=tK he;split at hx
 ·rename_i c
  cases hx
  exact⟨d,hd,hk,.inl ⟨rfl,by rw[<- a];exact c,b.symm⟩⟩
 ·split at hx
  ·rename_i c
   cases hx
   exact⟨d,hd,hk,.inr ⟨rfl,by rw[<- b];exact c,a.symm⟩⟩
  ·cases hx
theorem Bv {ds:List RD}{p i:Nat}{d:RD}(h:ds[i]?=some d)(hk:d.1≠.pu):(d.2.1.toNat=p->((i,1),d.2.2.1.toNat)∈stF (brF ds) p)/\(d.2.2.1.toNat=p->d.2.1.toNat≠p->((i,-1),d.2.1.toNat)∈stF (brF ds) p):=by
 constructor
 ·intro e;exact List.mem_filterMap.mpr ⟨_,uN h hk,by dsimp only;rw[if_pos e]⟩
 ·intro e n;exact List.mem_filterMap.mpr ⟨_,uN h hk,by dsimp only;rw[if_neg n,if_pos e]⟩
structure qQ (m kb:Nat) (ds:List RD) (a n:Nat) (e:En):Prop where
 lt:e.1 < m
 lo:Mq.Low e.2.1
 bd:Mq.Bd (1+(kb+2)*e.2.2.length) e.2.1
 st:e.2.2.length<=n
 rd:Rds ds a e.1 (Mq.val e.2.1) e.2.2
theorem qQ.mono {m kb a n n':Nat}{ds:List RD}{e:En}(h:qQ m kb ds a n e)(l:n<=n'):qQ m kb ds a n' e:=⟨h.lt,h.lo,h.bd,Nat.le_trans h.st l,h.rd⟩
def Kn (L:List En)(q:Nat)(x:Rat):Prop:=∃e∈L,e.1=q/\Mq.val e.2.1<=x
def Adj (ds:List RD)(L:List En)(e:En):Prop:=∀d∈ds,d.1≠.pu->(d.2.1.toNat=e.1->Kn L d.2.2.1.toNat (Mq.val e.2.1+dX d))/\(d.2.2.1.toNat=e.1->Kn L d.2.1.toNat (Mq.val e.2.1+dX d))
structure Dj (m kb:Nat) (ds:List RD) (a:Nat) (W S:List En):Prop where
 nd:(eks W++eks S).Nodup
 ia:∃e∈W++S,e.1=a
 en:∀e∈W++S,qQ m kb ds a S.length e
 or:∀s∈S,∀w∈W,Mq.val s.2.1<=Mq.val w.2.1
 cm:∀e∈S,Adj ds (W++S) e
structure cV (m kb:Nat) (ds:List RD):Prop where
 pt:∀d∈ds,Hm (m:Int) d.2.1 d.2.2.1
 pos:∀d∈ds,d.1=.pc->0 < Mq.val d.2.2.2
 low:∀d∈ds,Mq.Low d.2.2.2
 bd:∀d∈ds,Mq.Bd kb d.2.2.2
 k1:1<=kb
 k100:kb<=100
 m20:m<=20
 len:ds.length<=100
def cZ (d:RD):Mq.Q2:=if d.1=.pc then d.2.2.2 else (0,1)
theorem eB {m kb:Nat}{ds:List RD}(h:cV m kb ds){d:RD}(hd:d∈ds):Mq.Low (cZ d)/\Mq.Bd kb (cZ d)/\Mq.val (cZ d)=dX d/\0<=dX d:=by
 unfold cZ dX
 by_cases c:d.1=.pc
 ·rw[if_pos c,if_pos c];exact⟨h.low d hd,h.bd d hd,rfl,Rat.le_of_lt (h.pos d hd c)⟩
 ·rw[if_neg c,if_neg c];have k1:=h.k1;exact⟨⟨by decide,by decide⟩,⟨Nat.two_pow_pos _,Nat.one_lt_two_pow (by omega)⟩,Mq.uB,Rat.le_refl⟩
section
variable {m kb a:Nat} {ds:List RD} {W S:List En}
theorem xP (es:List En)(k:Nat):eks (iV es k)=(eks es).filter fun x=>decide (x≠k):=by
 unfold eks iV;rw[List.filter_map];rfl
theorem Dj.start (h:cV m kb ds)(ha:a < m):Dj m kb ds a [(a,(0,1),[])] []:=by
 refine⟨by simp,⟨_,List.mem_cons_self ..,rfl⟩,fun e he=>?_,(fun s hs=>by cases hs),(fun e he=>by cases he)⟩;have:e=(a,(0,1),[]):=by simpa using he
 subst this;exact⟨ha,(⟨by decide,by decide⟩:Mq.Low (0,1)),⟨Nat.two_pow_pos _,Nat.one_lt_two_pow (by omega)⟩,Nat.le_refl _,by rw[Mq.uB];exact .here⟩
structure Dk (m kb:Nat) (ds:List RD) (a:Nat) (W S:List En) (h:En) (L:List (Stp × Nat)):Prop where
 nd:(eks W++eks (S++[h])).Nodup
 ia:∃e∈W++(S++[h]),e.1=a
 en:∀e∈W++(S++[h]),qQ m kb ds a (S++[h]).length e
 hs:h.2.2.length<=S.length
 sh:∀s∈S,Mq.val s.2.1<=Mq.val h.2.1
 or:∀s∈S++[h],∀w∈W,Mq.val s.2.1<=Mq.val w.2.1
 cm:∀e∈S,Adj ds (W++(S++[h])) e
 mi:∀x∈L,∀d,ds[x.1.1]?=some d->Kn (W++(S++[h])) x.2 (Mq.val h.2.1+dX d)
theorem Dj.take (j:Dj m kb ds a W S){h:En}(hm:h∈W)(mi:∀x∈W,Mq.val h.2.1<=Mq.val x.2.1):Dk m kb ds a (iV W h.1) S h []:=by
 have nW:(eks W).Nodup:=(List.nodup_append.mp j.nd).1;have sub:∀{e:En},e∈W++S->e∈iV W h.1++(S++[h]):=fun {e} he=>by
  rcases List.mem_append.mp he with z | z
  ·by_cases c:e.1=h.1
   ·rw[bZ.one nW z hm c];simp
   ·exact List.mem_append_left _ (List.mem_filter.mpr ⟨z,decide_eq_true c⟩)
  ·exact List.mem_append_right _ (List.mem_append_left _ z)
 have sup:∀{e:En},e∈iV W h.1++(S++[h])->e∈W++S:=fun {e} he=>by
  rcases List.mem_append.mp he with z | z
  ·exact List.mem_append_left _ (List.mem_filter.mp z).1
  ·rcases List.mem_append.mp z with z | z
   ·exact List.mem_append_right _ z
   ·have:e=h:=by simpa using z
    rw[this];exact List.mem_append_left _ hm
 refine⟨?_,?_,fun e he=>(j.en e (sup he)).mono (by simp),(j.en h (List.mem_append_left _ hm)).st,(fun s hs=>j.or s hs h hm),fun s hs w hw=>?_,fun e he d hd hk=>?_,(fun x hx=>by cases hx)⟩
 ·obtain⟨n1,n2,n3⟩:=List.nodup_append.mp j.nd;rw[xP,show eks (S++[h])=eks S++[h.1] from by unfold eks;rw[List.map_append];rfl];refine List.nodup_append.mpr ⟨n1.filter _,List.nodup_append.mpr ⟨n2,by simp,fun x hx y hy=>?_⟩,fun x hx y hy=>?_⟩
  ·have:y=h.1:=by simpa using hy
   rw[this];exact fun z=>n3 h.1 (List.mem_map.mpr ⟨h,hm,rfl⟩) x hx z.symm
  ·obtain⟨hx1,hx2⟩:=List.mem_filter.mp hx;rcases List.mem_append.mp hy with z | z
   ·exact n3 x hx1 y z
   ·have:y=h.1:=by simpa using z
    rw[this];simpa using hx2
 ·obtain⟨e,he,ea⟩:=j.ia;exact⟨e,sub he,ea⟩
 ·have hw:=(List.mem_filter.mp hw).1;rcases List.mem_append.mp hs with z | z
  ·exact j.or s z w hw
  ·have:s=h:=by simpa using z
   rw[this];exact mi w hw
 ·obtain⟨c1,c2⟩:=j.cm e he d hd hk;exact⟨fun q=>by obtain⟨x,hx,r⟩:=c1 q;exact⟨x,sub hx,r⟩,fun q=>by obtain⟨x,hx,r⟩:=c2 q;exact⟨x,sub hx,r⟩⟩
theorem Dk.done {h:En}(k:Dk m kb ds a W S h (stF (brF ds) h.1))(ok:cV m kb ds):Dj m kb ds a W (S++[h]):=by
 refine⟨k.nd,k.ia,k.en,k.or,fun e he d hd hk=>?_⟩;rcases List.mem_append.mp he with z | z
 ·exact k.cm e z d hd hk
 ·have:e=h:=by simpa using z
  subst this;obtain⟨i,hi⟩:=List.getElem?_of_mem hd;obtain⟨s1,s2⟩:=Bv (p:=e.1) hi hk;refine⟨fun q=>k.mi _ (s1 q) d hi,fun q=>?_⟩
  by_cases c:d.2.1.toNat=e.1
  ·refine⟨e,by simp,c.symm,?_⟩;have:=(eB ok hd).2.2.2;grind
  ·exact k.mi _ (s2 q c) d hi
theorem Kn.mono {L L':List En}{q:Nat}{x:Rat}(h:Kn L q x)(s:∀e∈L,∃e'∈L',e'.1=e.1/\Mq.val e'.2.1<=Mq.val e.2.1):Kn L' q x:=by
 obtain⟨e,he,a,b⟩:=h;obtain⟨e',he',a',b'⟩:=s e he;exact⟨e',he',by rw[a',a],Rat.le_trans b' b⟩
theorem Dk.skip {h:En}{L:List (Stp × Nat)}{x:Stp × Nat}(k:Dk m kb ds a W S h L)(kn:∀d,ds[x.1.1]?=some d->Kn (W++(S++[h])) x.2 (Mq.val h.2.1+dX d)):Dk m kb ds a W S h (L++[x]):=by
 refine⟨k.nd,k.ia,k.en,k.hs,k.sh,k.or,k.cm,fun y hy d hd=>?_⟩;rcases List.mem_append.mp hy with z | z
 ·exact k.mi y z d hd
 ·have:y=x:=by simpa using z
  subst this;exact kn d hd
theorem lL {es:List En}{e y:En}(h:y∈hV es e):y=e\/(y∈es/\y.1≠e.1):=by
 unfold hV at h;split at h
 ·obtain⟨x,hx,ex⟩:=List.mem_map.mp h;split at ex
  ·exact .inl ex.symm
  ·rename_i c
   subst ex;exact .inr ⟨hx,c⟩
 ·rename_i c
  rcases List.mem_append.mp h with z | z
  ·exact .inr ⟨z,fun q=>c (by rw[<- q];exact List.mem_map.mpr ⟨y,z,rfl⟩)⟩
  ·exact .inl (by simpa using z)
theorem qF (es:List En)(e:En):e∈hV es e:=by
 unfold hV;split
 ·rename_i c
  obtain⟨x,hx,ex⟩:=List.mem_map.mp c;exact List.mem_map.mpr ⟨x,hx,if_pos ex⟩
 ·simp
theorem vP {es:List En}{e y:En}(h:y∈es)(n:y.1≠e.1):y∈hV es e:=by
 unfold hV;split
 ·exact List.mem_map.mpr ⟨y,h,if_neg n⟩
 ·exact List.mem_append_left _ h
theorem zY (es:List En)(e:En):eks (hV es e)=if e.1∈eks es then eks es else eks es++[e.1]:=by
 unfold hV
 by_cases c:e.1∈eks es
 ·rw[if_pos c,if_pos c];unfold eks;rw[List.map_map];refine List.map_congr_left fun x _=>?_;show (if x.1=e.1 then e else x).1=x.1;split
  ·rename_i q;exact q.symm
  ·rfl
 ·rw[if_neg c,if_neg c];unfold eks;rw[List.map_append];rfl
theorem Dk.more {h:En}{L:List (Stp × Nat)}{x:Stp × Nat}{d:RD}(k:Dk m kb ds a W S h L)(ok:cV m kb ds)(hd:ds[x.1.1]?=some d)(hk:d.1≠.pu)(wy:(x.1.2=1/\d.2.1.toNat=h.1/\d.2.2.1.toNat=x.2)\/(x.1.2=-1/\d.2.2.1.toNat=h.1/\d.2.1.toNat=x.2))(ns:x.2∉eks (S++[h]))(nw:∀e∈W,e.1=x.2->Mq.val h.2.1+dX d<=Mq.val e.2.1):Dk m kb ds a (hV W (x.2,Mq.dQ h.2.1 (cZ d),h.2.2++[x.1])) S h (L++[x]):=by
 obtain⟨e0,he0⟩:∃e0:En,e0=(x.2,Mq.dQ h.2.1 (cZ d),h.2.2++[x.1]):=⟨_,rfl⟩
 rw[<- he0];have f1:e0.1=x.2:=by rw[he0]
 have f2:e0.2.1=Mq.dQ h.2.1 (cZ d):=by rw[he0]
 have f3:e0.2.2=h.2.2++[x.1]:=by rw[he0]
 clear he0;have hh:h∈W++(S++[h]):=by simp
 have oh:=k.en h hh;have md:=List.mem_of_getElem? hd;obtain⟨lq,bq,vq,nn⟩:=eB ok md;obtain⟨p1,p2,p3,p4⟩:=ok.pt d md;have ve:Mq.val e0.2.1=Mq.val h.2.1+dX d:=by rw[f2,Mq.lI oh.lo.pos lq.pos,vq]
 have oe:qQ m kb ds a (S++[h]).length e0:=by
  refine⟨?_,by rw[f2];exact Mq.gK oh.lo.pos lq.pos,?_,?_,?_⟩
  ·rw[f1];rcases wy with ⟨_,_,q⟩ | ⟨_,_,q⟩<;>omega
  ·rw[f2,f3,List.length_append];refine(Mq.oY oh.bd bq oh.lo.pos lq.pos).mono ?_;show _<=1+(kb+2)*(h.2.2.length+1)
   rw[Nat.mul_succ];omega
  ·rw[f3,List.length_append,List.length_append];have:=k.hs;simp only[List.length_cons,List.length_nil];omega
  ·rw[ve,f1,f3];rcases wy with ⟨w,b,c⟩ | ⟨w,b,c⟩
   ·have:=Rds.go oh.rd hd hk b c;rw[show x.1=(x.1.1,(1:Int)) from by rw[<- w]];exact this
   ·have:=Rds.back oh.rd hd hk b c;rw[show x.1=(x.1.1,(-1:Int)) from by rw[<- w]];exact this
 have up:∀e∈W++(S++[h]),∃e'∈hV W e0++(S++[h]),e'.1=e.1/\Mq.val e'.2.1<=Mq.val e.2.1:=fun e he=>by
  rcases List.mem_append.mp he with z | z
  ·by_cases c:e.1=x.2
   ·exact⟨e0,List.mem_append_left _ (qF W e0),by rw[f1,c],by rw[ve];exact nw e z c⟩
   ·exact⟨e,List.mem_append_left _ (vP z (by rw[f1];exact c)),rfl,Rat.le_refl⟩
  ·exact⟨e,List.mem_append_right _ z,rfl,Rat.le_refl⟩
 refine⟨?_,?_,fun e he=>?_,k.hs,k.sh,fun s hs w hw=>?_,fun e he d' hd' hk'=>?_,fun y hy d' hd'=>?_⟩
 ·rw[zY,f1];split
  ·exact k.nd
  ·rename_i c
   obtain⟨n1,n2,n3⟩:=List.nodup_append.mp k.nd;refine List.nodup_append.mpr ⟨List.nodup_append.mpr ⟨n1,by simp,fun u hu v hv=>?_⟩,n2,fun u hu v hv=>?_⟩
   ·have:v=x.2:=by simpa using hv
    rw[this];exact fun z=>c (by rw[<- z];exact hu)
   ·rcases List.mem_append.mp hu with z | z
    ·exact n3 u z v hv
    ·have:u=x.2:=by simpa using z
     rw[this];exact fun z=>ns (by rw[z];exact hv)
 ·obtain⟨e,he,ea⟩:=k.ia;obtain⟨e',he',b,_⟩:=up e he;exact⟨e',he',by rw[b,ea]⟩
 ·rcases List.mem_append.mp he with z | z
  ·rcases lL z with z | z
   ·rw[z];exact oe
   ·exact k.en e (List.mem_append_left _ z.1)
  ·exact k.en e (List.mem_append_right _ z)
 ·rcases lL hw with z | z
  ·rw[z,ve];rcases List.mem_append.mp hs with y | y
   ·have:=k.sh s y;grind
   ·have:s=h:=by simpa using y
    rw[this];grind
  ·exact k.or s hs w z.1
 ·obtain⟨c1,c2⟩:=k.cm e he d' hd' hk';exact⟨fun q=>(c1 q).mono up,fun q=>(c2 q).mono up⟩
 ·rcases List.mem_append.mp hy with z | z
  ·exact(k.mi y z d' hd').mono up
  ·have:y=x:=by simpa using z
   subst this;have:d'=d:=by rw[hd] at hd';exact(Option.some.inj hd').symm
   subst this;exact⟨e0,List.mem_append_left _ (qF W e0),f1,by rw[ve];exact Rat.le_refl⟩
end
inductive Rdv (ds:List RD) (a:Nat):Nat->List Stp->List Nat->Prop where
 |here:Rdv ds a a [] [a]
 |go {st:List Stp} {vs:List Nat} {i:Nat} {d:RD} {p q:Nat} (r:Rdv ds a p st vs) (hd:ds[i]?=some d) (hk:d.1≠.pu) (e:d.2.1.toNat=p) (f:d.2.2.1.toNat=q) (n:q∉vs):Rdv ds a q (st++[(i,1)]) (vs++[q])
 |back {st:List Stp} {vs:List Nat} {i:Nat} {d:RD} {p q:Nat} (r:Rdv ds a p st vs) (hd:ds[i]?=some d) (hk:d.1≠.pu) (e:d.2.2.1.toNat=p) (f:d.2.1.toNat=q) (n:q∉vs):Rdv ds a q (st++[(i,-1)]) (vs++[q])
theorem Rdv.last {ds:List RD}{a b:Nat}{st:List Stp}{vs:List Nat}(h:Rdv ds a b st vs):b∈vs/\a∈vs:=by
 induction h with
 |here=>simp
 |go r hd hk e f n ih=>exact⟨by simp,List.mem_append_left _ ih.2⟩
 |back r hd hk e f n ih=>exact⟨by simp,List.mem_append_left _ ih.2⟩
theorem Rdv.none {ds:List RD}{a:Nat}{st:List Stp}{vs:List Nat}(h:Rdv ds a a st vs):st=[]:=by
 obtain⟨b,e⟩:∃b,b=a:=⟨_,rfl⟩
 rw[<- e] at h;have key:∀{c:Nat},Rdv ds b c st vs->c=b->st=[]:=fun {c} h=>by
  cases h with
  |here=>exact fun _=>rfl
  |go r hd hk e f n=>exact fun z=>absurd (by rw[z];exact r.last.2) n
  |back r hd hk e f n=>exact fun z=>absurd (by rw[z];exact r.last.2) n
 exact key h rfl
def Sm (ds:List RD)(a:Nat)(S:List En)(e:En):Prop:=∃vs,Rdv ds a e.1 e.2.2 vs/\∀v∈vs,v≠e.1->v∈eks S
theorem Sm.mono {ds:List RD}{a:Nat}{S:List En}{e:En}(h:Sm ds a S e)(T:List En):Sm ds a (S++T) e:=by
 obtain⟨vs,r,k⟩:=h;exact⟨vs,r,fun v hv n=>by unfold eks;rw[List.map_append];exact List.mem_append_left _ (k v hv n)⟩
structure DjS (m kb:Nat) (ds:List RD) (a:Nat) (W S:List En):Prop extends Dj m kb ds a W S where
 sm:∀e∈W++S,Sm ds a S e
structure DkS (m kb:Nat) (ds:List RD) (a:Nat) (W S:List En) (h:En) (L:List (Stp × Nat)):Prop extends Dk m kb ds a W S h L where
 sm:∀e∈W++(S++[h]),Sm ds a (S++[h]) e
section
variable {m kb a:Nat} {ds:List RD} {W S:List En}
theorem DjS.start (h:cV m kb ds)(ha:a < m):DjS m kb ds a [(a,(0,1),[])] []:=by
 refine⟨Dj.start h ha,fun e he=>?_⟩;have:e=(a,(0,1),[]):=by simpa using he
 subst this;exact⟨[a],.here,fun v hv n=>absurd (by simpa using hv) n⟩
theorem DjS.take (j:DjS m kb ds a W S){h:En}(hm:h∈W)(mi:∀x∈W,Mq.val h.2.1<=Mq.val x.2.1):DkS m kb ds a (iV W h.1) S h []:=by
 refine⟨j.toDj.take hm mi,fun e he=>(j.sm e ?_).mono [h]⟩;rcases List.mem_append.mp he with z | z
 ·exact List.mem_append_left _ (List.mem_filter.mp z).1
 ·rcases List.mem_append.mp z with z | z
  ·exact List.mem_append_right _ z
  ·have:e=h:=by simpa using z
   rw[this];exact List.mem_append_left _ hm
theorem DkS.done {h:En}(k:DkS m kb ds a W S h (stF (brF ds) h.1))(ok:cV m kb ds):DjS m kb ds a W (S++[h]):=⟨k.toDk.done ok,k.sm⟩
theorem DkS.skip {h:En}{L:List (Stp × Nat)}{x:Stp × Nat}(k:DkS m kb ds a W S h L)(kn:∀d,ds[x.1.1]?=some d->Kn (W++(S++[h])) x.2 (Mq.val h.2.1+dX d)):DkS m kb ds a W S h (L++[x]):=⟨k.toDk.skip kn,k.sm⟩
theorem DkS.more {h:En}{L:List (Stp × Nat)}{x:Stp × Nat}{d:RD}(k:DkS m kb ds a W S h L)(ok:cV m kb ds)(hd:ds[x.1.1]?=some d)(hk:d.1≠.pu)(wy:(x.1.2=1/\d.2.1.toNat=h.1/\d.2.2.1.toNat=x.2)\/(x.1.2=-1/\d.2.2.1.toNat=h.1/\d.2.1.toNat=x.2))(ns:x.2∉eks (S++[h]))(nw:∀e∈W,e.1=x.2->Mq.val h.2.1+dX d<=Mq.val e.2.1):DkS m kb ds a (hV W (x.2,Mq.dQ h.2.1 (cZ d),h.2.2++[x.1])) S h (L++[x]):=by
 refine⟨k.toDk.more ok hd hk wy ns nw,fun e he=>?_⟩;rcases List.mem_append.mp he with z | z
 ·rcases lL z with z | ⟨z,_⟩
  ·subst z;obtain⟨vs,r,q⟩:=k.sm h (by simp);have hm:h.1∈eks (S++[h]):=List.mem_map.mpr ⟨h,by simp,rfl⟩;have al:∀v∈vs,v∈eks (S++[h]):=fun v hv=>by
    by_cases c:v=h.1
    ·rw[c];exact hm
    ·exact q v hv c
   have nx:x.2∉vs:=fun z=>ns (al _ z);obtain⟨⟨i,s⟩,b⟩:=x;refine⟨vs++[b],?_,fun v hv n=>?_⟩
   ·rcases wy with ⟨w1,w2,w3⟩ | ⟨w1,w2,w3⟩
    ·have w1:s=1:=w1;subst w1;exact .go r hd hk w2 w3 nx
    ·have w1:s=-1:=w1;subst w1;exact .back r hd hk w2 w3 nx
   ·rcases List.mem_append.mp hv with z | z
    ·exact al v z
    ·exact absurd (by simpa using z) n
  ·exact k.sm e (List.mem_append_left _ z)
 ·exact k.sm e (List.mem_append_right _ z)
theorem DjS.low {S S':List En}(h:DjS m kb ds a [] S)(h':DjS m kb ds a [] S'){e e':En}(he:e∈S)(he':e'∈S')(ee:e.1=e'.1):Mq.val e.2.1<=Mq.val e'.2.1:=by
 have key:∀{b:Nat} {x:Rat} {st:List Stp},Rds ds a b x st->∀e∈S,e.1=b->Mq.val e.2.1<=x:=fun {b x st} r=>by
  have st:∀{p q:Nat} {x:Rat} {d:RD},d∈ds->(∀e∈S,e.1=p->Mq.val e.2.1<=x)->(∀e∈S,e.1=p->Kn ([]++S) q (Mq.val e.2.1+dX d))->p∈eks S->∀e∈S,e.1=q->Mq.val e.2.1<=x+dX d:=fun {p q x d} md ih kn hp e he eq=>by
   obtain⟨e1,h1,k1⟩:=List.mem_map.mp hp;obtain⟨e2,h2,k2,l2⟩:=kn e1 h1 k1;have:e=e2:=bZ.one (es:=S) (by have:=h.nd;simpa using this) he (by simpa using h2) (eq.trans k2.symm);rw[this];have:=ih e1 h1 k1;grind
  have im:∀{b:Nat} {x:Rat} {st:List Stp},Rds ds a b x st->b∈eks S:=fun {b x st} r=>by
   have cl:∀{q:Nat} {x:Rat},Kn ([]++S) q x->q∈eks S:=fun {q x} ⟨e,he,k,_⟩=>by rw[<- k];exact List.mem_map.mpr ⟨e,by simpa using he,rfl⟩
   induction r with
   |here=>
    obtain⟨e,he,ea⟩:=h.ia;exact List.mem_map.mpr ⟨e,by simpa using he,ea⟩
   |go r hd hk e f ih=>
    obtain⟨e1,h1,k1⟩:=List.mem_map.mp ih;rw[<- f];exact cl ((h.cm e1 h1 _ (List.mem_of_getElem? hd) hk).1 (by rw[e,k1]))
   |back r hd hk e f ih=>
    obtain⟨e1,h1,k1⟩:=List.mem_map.mp ih;rw[<- f];exact cl ((h.cm e1 h1 _ (List.mem_of_getElem? hd) hk).2 (by rw[e,k1]))
  induction r with
  |here=>
   intro e he ea;obtain⟨vs,r,_⟩:=h.sm e (by simpa using he);have o:=(h.en e (by simpa using he)).rd;rw[ea] at r o;have z:=r.none;rw[z] at o;have gen:∀{c:Nat} {x:Rat} {st:List Stp},Rds ds a c x st->st=[]->x=0:=fun {c x st} r z=>by
    cases r with
    |here=>rfl
    |go=>simp at z
    |back=>simp at z
   rw[gen o rfl];exact Rat.le_refl
  |go r hd hk e f ih=>
   exact st (List.mem_of_getElem? hd) ih (fun e1 h1 k1=>by rw[<- f];exact(h.cm e1 h1 _ (List.mem_of_getElem? hd) hk).1 (by rw[e,k1])) (im r)
  |back r hd hk e f ih=>
   exact st (List.mem_of_getElem? hd) ih (fun e1 h1 k1=>by rw[<- f];exact(h.cm e1 h1 _ (List.mem_of_getElem? hd) hk).2 (by rw[e,k1])) (im r)
 exact key (h'.en e' (by simpa using he')).rd e he ee
end
end L2
set_option maxHeartbeats 4000000
namespace K62
open PySem L2 Shp
section
variable {P:Program} {w:World} {K:PySem.W.Frag} {mg:Str->Option Value} {base:Heap} {f g1 g2 g3 g4 g5 g6 g7 g8:Addr} {fd gd1 gd2 gd3 gd4 gd5 gd6 gd7 gd8:FuncData} {CX:CXT}
variable {CR:Addr} {CK:Kd->Addr} {fW fJ fT fS:Kd->Addr} {fdW fdJ fdT fdS:Kd->FuncData}
def brT (ds:List RD)(i:Nat):List Br:=(List.range i).filterMap fun i=>match ds[i]? with
 |some d=>if d.1=.pu then none else some (i,d.2.1.toNat,d.2.2.1.toNat)
 |none=>none
theorem zG {ds:List RD}{i:Nat}{d:RD}(h:ds[i]?=some d):brT ds (i+1)=brT ds i++(if d.1=.pu then [] else [(i,d.2.1.toNat,d.2.2.1.toNat)]):=by
 unfold brT;rw[List.range_succ,List.filterMap_append];congr 1;rw[List.filterMap_cons,List.filterMap_nil,h]
 by_cases c:d.1=.pu
 ·dsimp only;rw[if_pos c,if_pos c]
 ·dsimp only;rw[if_neg c,if_neg c]
theorem Az (ds:List RD)(i:Nat):(brT ds i).length<=i:=by
 unfold brT;refine Nat.le_trans (List.length_filterMap_le _ _) ?_;rw[List.length_range];exact Nat.le_refl _
theorem pK {m kb a:Nat}{ds:List RD}{W S:List En}(h:DjS m kb ds a W S):S.length<=m:=by
 have:=uC (m:=m) (S:=eks S) (List.nodup_append.mp h.nd).2.1 fun p hp=>by
  obtain⟨e,he,rfl⟩:=List.mem_map.mp hp;exact(h.en e (List.mem_append_right _ he)).lt
 rwa [List.length_map] at this
theorem Fj {m kb a:Nat}{ds:List RD}{W S:List En}{h:En}{L:List (Stp × Nat)}(k:DkS m kb ds a W S h L):W.length<=m/\S.length < m:=by
 have n:=List.nodup_append.mp k.nd;have a1:=uC (m:=m) (S:=eks W) n.1 fun p hp=>by
  obtain⟨e,he,rfl⟩:=List.mem_map.mp hp;exact(k.en e (List.mem_append_left _ he)).lt
 have a2:=uC (m:=m) (S:=eks (S++[h])) n.2.1 fun p hp=>by
  obtain⟨e,he,rfl⟩:=List.mem_map.mp hp;exact(k.en e (List.mem_append_right _ he)).lt
 rw[List.length_map] at a1 a2;rw[List.length_append] at a2;simp only[List.length_cons,List.length_nil] at a2;exact⟨a1,by omega⟩
theorem pJ {kb n:Nat}(hk:kb<=100)(hn:n<=20):1+(kb+2)*n<=2041:=by
 have:(kb+2)*n<=102*20:=Nat.mul_le_mul (by omega) hn;omega
def pF (CN:Addr)(K:PySem.W.Frag):Sp:=fun vs H Q _=>∃(n l:Addr) (m kb a:Nat) (ds:List RD),vs=[.ref n,.int (a:Int)]/\dB CN K H n l (m:Int) ds/\cV m kb ds/\a < m/\
 ∀sd kvs S H',bA H H'->H sd=none->H' sd=some (.dK kvs)->bZ K H' kvs S->DjS m kb ds a [] S->Q (.ref sd) H'
theorem iC:(["number","row"]:List Str).Nodup:=by decide +kernel
abbrev kK:Stmt:=top 41
theorem dO:aS ["net","a","rows","joining","waiting","settled","point","here","step","end","length"] ["net","a"] (aE kK):=⟨rfl,rfl,rfl,by decide +kernel,rfl,by decide +kernel,by decide +kernel⟩
theorem yM {dV:Value}(F:bS K "least_from" "least_from" kK dV f fd){CN:Addr}(men:mg "enumerate"=none)(ml:mg "len"=none)(NTx:NT K mg CN)(T:RT K mg CR CK){aN:Addr}(fN:∀H,Fq K H aN (0,1))(mNO:mg "NOUGHT"=some (.ref aN))(GJ:∀k,aK P w K mg base CX0 1 (fJ k) (fdJ k) ["self"] (iP k))(bJ:∀k,aR K (fdJ k) ["self"] [])(mJ:∀k,gE K (CK k) "joins" (fJ k)){gRo:Addr}{gdRo:FuncData}(GRo:aK P w K mg base CX0 4 gRo gdRo ["self"] (rL CN K CK))(bRo:aR K gdRo ["self"] [])(mRo:gE K CN "rows" gRo)(G1:aK P w K mg base CX0 2 g1 gd1 ["waiting"] (xQ K))(b1:aR K gd1 ["waiting"] [])(k1:PySem.W.keepIn K (.ref g1)=true)(m1:mg "nearest"=some (.ref g1))(G2:aK P w K mg base CX0 1 g2 gd2 ["rows","numbers","point"] (uD K CK))(b2:aR K gd2 ["rows","numbers","point"] [])(k2:PySem.W.keepIn K (.ref g2)=true)(m2:mg "steps_from"=some (.ref g2))(G3:aK P w K mg base CX0 3 g3 gd3 ["one","other"] (nV K Mq.dQ))(b3:aR K gd3 ["one","other"] [])(k3:PySem.W.keepIn K (.ref g3)=true)(m3:mg "plus"=some (.ref g3))(G4:aK P w K mg base CX0 2 g4 gd4 ["row"] (rH K CK))(b4:aR K gd4 ["row"] [])(k4:PySem.W.keepIn K (.ref g4)=true)(m4:mg "length_of"=some (.ref g4))(G5:aK P w K mg base CX0 1 g5 gd5 ["one","other"] (kU K))(b5:aR K gd5 ["one","other"] [])(k5:PySem.W.keepIn K (.ref g5)=true)(m5:mg "under"=some (.ref g5)) :
  aK P w K mg base CX 5 f fd ["net","a"] (pF CN K):=by
 refine F.ok dO (fun vs H Q E h=>?_) (fun cdv A outer s H vs Q E hr h=>?_)
 ·obtain⟨n,l,m,kb,a,ds,rfl,nt,ok,ha,q⟩:=h;rfl
 obtain⟨n,l,m,kb,a,ds,rfl,nt,ok,ha,q⟩:=h;have r1:=hr.mono (show 1<=4 by omega);have r2:=hr.mono (show 2<=4 by omega);have r3:=hr.mono (show 3<=4 by omega);refine⟨_,(aC (aT (i:=2) dO.nd rfl (Or.inl rfl) (gH (pv 0) NTx.cl mRo GRo hr bRo .nil aO))
  (aC (uY (i:=3) (nl:=2) (fr:=[]) (Nc:=["number","row"]) (cl:=[]) (g:=(Df K 2 (qV (lV 0) (qV (lV 1) Ek)))) dO.nd rfl rfl rfl ⟨rfl,rfl,by decide +kernel,by decide +kernel,fun x c h=>(by cases h),iH rfl,rfl,fun i n h=>(by simp at h)⟩
    (zU rfl men rfl (aA (pv 2) aD)) (fun C s3 H3 fp pins=>(jP rfl (cI (bE (i:=0) iC rfl (Or.inl rfl)) (cI (bE (i:=1) iC rfl (Or.inl rfl)) gV)))) (fun C s3 H3 fp pins=>(uU (bN (gU (pv 1) T.cl mJ GJ r1 bJ .nil aO))))
    (fun C s3 H3 fp pins=>(pv 0)) rfl)
  (aC (aT (i:=4) dO.nd rfl (Or.inl rfl) (Bm (xV (pv 1) (bV (aA (gO (v:=.ref aN) rfl mNO rfl) (aA (cL aD) aD))) Aq) rfl rfl (by simp) (by decide)))
  (aC (aT (i:=5) dO.nd rfl (Or.inl rfl) yH)
  (aC (kZ PassesOwn.never (aZ zO (bQ wC rfl ml PySem.boot_len (aA (pv 4) aD)) aB (bC _)) (aC (aT (i:=6) dO.nd rfl (Or.inl rfl) (aI G1 r2 rfl m1 k1 b1 .nil aO (aA (pv 4) aD)))
  (aC (aT (i:=7) dO.nd rfl (Or.inl rfl) (zE (pv 4) (pv 6) ⟨rfl,rfl,rfl,rfl⟩))
  (aC (tY (fX hr) (pv 5) (pv 6) (pv 7) rfl)
  (aG (dA PassesOwn.never rfl (cY (aI G2 r1 rfl m2 k2 b2 .nil aO (aA (pv 2) (aA (pv 3) (aA (pv 6) aD))))) (jP rfl (cI (bE (i:=8) dO.nd rfl (Or.inl rfl)) (cI (bE (i:=9) dO.nd rfl (Or.inl rfl)) gV)))
   (aC (aT (i:=10) dO.nd rfl (Or.inl rfl) (aI G3 r3 rfl m3 k3 b3 .nil aO (aA (aL aM (pv 7) aB (fun _ _=>rfl)) (aA (aI G4 r2 rfl m4 k4 b4 .nil aO (aA (aL bM (pv 2) (aL aM (pv 8) aB (fun _ _=>rfl)) (fun _ _=>rfl)) aD)) aD))))
  (aG (bH (PW.pt (kH (dZ (jI (fX hr) (pv 9) (pv 5))) (gX (PW.pt (cW (dZ (jI (fX hr) (pv 9) (pv 4))) (cR (bN (aI G5 r1 rfl m5 k5 b5 .nil aO (aA (pv 10) (aA (aL aM (iZ (fX hr) (pv 4) (pv 9) (fun _ _=>rfl)) aB (fun _ _=>rfl)) aD)))))))))) (aG (tY (fX hr) (pv 4) (pv 9) (bV (aA (pv 10) (aA (aY Et (aL aM (pv 7) aB (fun _ _=>rfl)) (cL (aA (pv 8) aD))) aD))) rfl)) aV)))))))))
  (aG (aQ (pv 5)))))))),?_⟩
 have len:=ok.len;have m20:=ok.m20;have k100:=ok.k100;obtain⟨dx,hn⟩:=nt.ob;refine⟨_,rfl,n,dx,_,rfl,hn,eO _ _ (by decide +kernel) (by decide +kernel),n,l,_,ds,rfl,nt,len,fun ra xs H1 s1 na ea Rb=>?_⟩;have lxs:=Rb.length;refine⟨_,rfl,ra,rfl,⟨_,SqL.of ea⟩,fun D hD=>?_⟩;have sD:=aH hD (.lst []);refine wP (xs:=xs) (fun i zs H'=>bA H1 H'/\H' D=some (.lst zs)/\zs=(brT ds i).map fun e=>V.int (e.1:Int)) ⟨sD,aF,rfl⟩ (fun i zs H' h=>h.2.1) (fun i zs H' _ h=>h.1.seq (SqL.of ea)) ?_ ?_
 ·rintro i zs x H2 T2 hx ⟨s2,e2,ez⟩ hT C hC;have hi:i < ds.length:=by
   have:=(List.getElem?_eq_some_iff.mp hx).1;omega
  obtain⟨⟨k,u,v,p⟩,hd⟩:∃d,ds[i]?=some d:=⟨_,List.getElem?_eq_getElem hi⟩
  obtain⟨y,z',ey,rw,fz⟩:=Rb.at hd;have ex:x=.ref y:=by rw[ey] at hx;exact(Option.some.inj hx).symm
  subst ex;have lz:zs.length<=100:=by rw[ez,List.length_map];have:=Az ds i;omega
  have sT:=aH hT (.tup [.int (i:Int),.ref y]);refine⟨T2,_,rfl,SqT.of aF,rfl,_,_,rfl,_,_,rfl,rfl,uH.1,uH.2,?_⟩;generalize upd H2 T2 (.tup [.int (i:Int),.ref y])=H3 at sT ⊢;obtain⟨dr,hy⟩:=id (rw.same (s2.trans sT));have e3:=sT _ _ e2;have bs:=zG hd;refine⟨_,rfl,k,y,dr,_,rfl,hy,(iQ _ _ _ (by decide +kernel) (by decide +kernel) (by decide +kernel)),_,rfl,_,rfl,?_⟩
  by_cases hk:k=.pu
  ·rw[if_pos hk] at bs;refine L2.ifF (decide_eq_false (fun z=>z hk)) (hC _ _ ⟨s2.trans sT,e3,?_⟩);rw[ez,bs,List.append_nil]
  ·rw[if_neg hk] at bs;refine L2.ifT (decide_eq_true hk) ⟨_,rfl,e3,bF (by omega),hC _ _ ⟨(s2.trans sT).change hD,aF,?_⟩⟩;rw[ez,bs,List.map_append];rfl
 rintro zs H2 ⟨s2,eJ,rfl⟩;rw[lxs,show brT ds ds.length=brF ds from rfl] at eJ;have ea2:=s2 _ _ ea;have Rb2:=Rb.same s2;have s02:=s1.trans s2;refine fun Wd hWd=>?_;have nWd:=hWd;have s3:=aH hWd (.dK []);have e3:upd H2 Wd (.dK []) Wd=some (.dK []):=aF;generalize upd H2 Wd (.dK [])=H3 at s3 e3 ⊢;refine⟨_,rfl,by show 0<=sizeLine;decide,fun l4 hl4=>?_⟩;have s4:=aH hl4 (.lst []);have e4:upd H3 l4 (.lst []) l4=some (.lst []):=aF;generalize upd H3 l4 (.lst [])=H4 at s4 e4 ⊢;refine⟨by show 2<=sizeLine;decide,fun t5 ht5=>?_⟩;have s5:=aH ht5 (.tup [.ref aN,.ref l4]);have e5:upd H4 t5 (.tup [.ref aN,.ref l4]) t5=some (.tup [.ref aN,.ref l4]):=aF;generalize upd H4 t5 (.tup [.ref aN,.ref l4])=H5 at s5 e5 ⊢;have e3':=(s4.trans s5) _ _ e3;refine⟨e3',[(.inl (a:Int),.ref t5)],rfl,by show 1<=15;decide,?_⟩;have sx6:bU Wd H5 (upd H5 Wd (.dK (eY [] [(.inl (a:Int),.ref t5)]))):=fun b u h n=>by rw[aU n];exact h
 have e6:upd H5 Wd (.dK (eY [] [(.inl (a:Int),.ref t5)])) Wd=some (.dK [(.inl (a:Int),.ref t5)]):=aF;have s26:bA H2 (upd H5 Wd (.dK (eY [] [(.inl (a:Int),.ref t5)]))):=(s3.trans (s4.trans s5)).change nWd;have EW:bZ K (upd H5 Wd (.dK (eY [] [(.inl (a:Int),.ref t5)]))) [(.inl (a:Int),.ref t5)] [(a,(0,1),[])]:=bZ.x e3' (Nsq.dk _) sx6 (.cons (e:=(a,(0,1),[])) (SqT.of e5) (fN _) (s5 _ _ e4) .nil .nil);generalize upd H5 Wd (.dK (eY [] [(.inl (a:Int),.ref t5)]))=H6 at sx6 e6 s26 EW ⊢;refine fun Sd hSd=>?_;have nSd:=s26.free hSd;have nWS:Wd≠Sd:=bD e6 hSd;have s7:=aH hSd (.dK []);have e7:upd H6 Sd (.dK []) Sd=some (.dK []):=aF;generalize upd H6 Sd (.dK [])=H7 at s7 e7 ⊢;have s27:=s26.trans s7;refine⟨fun mm σ H'=>bA H2 H'/\∃(kvW kvS:List (Key × V)) (Wl Sl:List En) (z6 z7 z8 z9 z10:Option V),σ=[some (.ref n),some (.int (a:Int)),some (.ref ra),some (.ref D),some (.ref Wd),some (.ref Sd),z6,z7,z8,z9,z10]/\mm=m - Sl.length/\H' Wd=some (.dK kvW)/\H' Sd=some (.dK kvS)/\bZ K H' kvW Wl/\bZ K H' kvS Sl/\DjS m kb ds a Wl Sl,⟨m,s27,_,[],_,[],none,none,none,none,none,rfl,rfl,s7 _ _ e6,e7,EW.same s7,.nil,DjS.start ok ha⟩,?_⟩;rintro mm σ H8 ⟨s8,kvW,kvS,Wl,Sl,z6,z7,z8,z9,z10,rfl,rfl,hW,hS,EW,ES,DJ⟩;have lW:=EW.length;have lS:=ES.length;refine⟨_,rfl,Wd,kvW,rfl,hW,_,_,rfl,rfl,_,rfl,?_⟩
 by_cases c0:Wl=[]
 ·subst c0;refine L2.ifF (decide_eq_false (by show ¬((0:Int) < (kvW.length:Int));rw[lW];decide)) ?_;exact⟨_,rfl,q Sd kvS Sl H8 (s02.trans s8) (s02.free nSd) hS ES DJ⟩
 have l1:1<=Wl.length:=by cases Wl with | nil=>exact absurd rfl c0 | cons=>simp
 refine L2.ifT (decide_eq_true (by show (0:Int) < (kvW.length:Int);omega)) ?_;refine⟨fun σ' H'=>∃m',m' < m - Sl.length/\(bA H2 H'/\∃(kvW kvS:List (Key × V)) (Wl Sl:List En) (z6 z7 z8 z9 z10:Option V),σ'=[some (.ref n),some (.int (a:Int)),some (.ref ra),some (.ref D),some (.ref Wd),some (.ref Sd),z6,z7,z8,z9,z10]/\m'=m - Sl.length/\H' Wd=some (.dK kvW)/\H' Sd=some (.dK kvS)/\bZ K H' kvW Wl/\bZ K H' kvS Sl/\DjS m kb ds a Wl Sl),fun _ _ h=>h,?_⟩;have ndW:(eks Wl).Nodup:=(List.nodup_append.mp DJ.nd).1;have sl:=pK DJ;refine⟨_,rfl,Wd,kvW,Wl,rfl,hW,EW,c0,ndW,fun e he=>?_,fun h H9 mh mi s9=>?_⟩
 ·have oe:=DJ.en e (List.mem_append_left _ he);exact⟨oe.lo,oe.bd.mono (Nat.le_trans (pJ k100 (by have:=oe.st;omega)) (by decide))⟩
 have hW9:=s9 _ _ hW;have hS9:=s9 _ _ hS;obtain⟨v,e0,m0,k0,hv,EA⟩:=(EW.same s9).find (k:=h.1) (List.mem_map.mpr ⟨h,mh,rfl⟩);have:=bZ.one ndW m0 mh k0;subst this;refine⟨_,rfl,Wd,rfl,.inl ⟨kvW,.inl hW9⟩,_,rfl,kvW,.inl (e0.1:Int),v,hW9,rfl,hv,?_⟩;have sxA:bU Wd H9 (upd H9 Wd (.dK (fE kvW (.inl (e0.1:Int))))):=fun b u h n=>by rw[aU n];exact h
 have hWA:upd H9 Wd (.dK (fE kvW (.inl (e0.1:Int)))) Wd=some (.dK (fE kvW (.inl (e0.1:Int)))):=aF;have s2A:bA H2 (upd H9 Wd (.dK (fE kvW (.inl (e0.1:Int))))):=(s8.trans s9).change nWd;have hSA:=sxA _ _ hS9 (Ne.symm nWS);have EWA:=((EW.same s9).drop (k:=e0.1)).x hW9 (Nsq.dk _) sxA;have ESA:=(ES.same s9).x hW9 (Nsq.dk _) sxA;have EAA:=EA.x hW9 (Nsq.dk _) sxA;generalize upd H9 Wd (.dK (fE kvW (.inl (e0.1:Int))))=HA at sxA hWA s2A hSA EWA ESA EAA ⊢;have DK0:=DJ.take mh mi;have nS:e0.1∉eks Sl:=fun z=>(List.nodup_append.mp DJ.nd).2.2 e0.1 (List.mem_map.mpr ⟨e0,mh,rfl⟩) e0.1 z rfl;have pS:hV Sl e0=Sl++[e0]:=by unfold hV;rw[if_neg nS]
 refine⟨_,rfl,_,rfl,_,rfl,Sd,_,rfl,sY.k (k:=.inl (e0.1:Int)) hSA (bF (by omega)),?_⟩;have sxB:bU Sd HA (upd HA Sd (.dK (dY kvS (.inl (e0.1:Int)) v))):=fun b u h n=>by rw[aU n];exact h
 have hSB:upd HA Sd (.dK (dY kvS (.inl (e0.1:Int)) v)) Sd=some (.dK (dY kvS (.inl (e0.1:Int)) v)):=aF;have s2B:bA H2 (upd HA Sd (.dK (dY kvS (.inl (e0.1:Int)) v))):=s2A.change nSd;have hWB:=sxB _ _ hWA nWS;have EWB:=EWA.x hSA (Nsq.dk _) sxB;have ESB:=(ESA.put EAA).x hSA (Nsq.dk _) sxB;have EAB:=EAA.x hSA (Nsq.dk _) sxB;rw[pS] at ESB;generalize upd HA Sd (.dK (dY kvS (.inl (e0.1:Int)) v))=HB at sxB hSB s2B hWB EWB ESB EAB ⊢;generalize dY kvS (.inl (e0.1:Int)) v=kvS' at hSB ESB;generalize fE kvW (.inl (e0.1:Int))=kvW' at hWB EWB;generalize iV Wl e0.1=Wl' at EWB DK0;clear sxA hWA s2A hSA EWA ESA EAA sxB hS9 hW9 EA hv m0 k0 EW hW hS ES mi;have st0:=(DJ.en e0 (List.mem_append_left _ mh)).st;clear DJ mh ndW lW lS l1 c0 nS pS;obtain⟨h,eh⟩:∃h,h=e0:=⟨_,rfl⟩
 subst eh;refine⟨_,rfl,_,rfl,_,rfl,ra,D,xs,ds,brF ds,h.1,rfl,SqL.of (s2B _ _ ea2),Rb2.same s2B,SqL.of (s2B _ _ eJ),Em ok.pt,Nat.le_trans (tT ds) len,fun Lp ys HC sC nLp eLp SD=>?_⟩;have lys:=SD.length;have lsf:(stF (brF ds) h.1).length<=100:=Nat.le_trans (List.length_filterMap_le _ _) (Nat.le_trans (tT ds) len);have nLW:Lp≠Wd:=fun z=>by rw[z] at nLp;rw[nLp] at hWB;cases hWB
 refine⟨Lp,rfl,⟨_,SqL.of eLp⟩,?_⟩;refine dI (xs:=ys) (fun j σ H'=>bA H2 H'/\H' Lp=some (.lst ys)/\Sds K H' ys (stF (brF ds) h.1)/\∃(kvW:List (Key × V)) (Wl:List En) (z8 z9 z10:Option V),σ=[some (.ref n),some (.int (a:Int)),some (.ref ra),some (.ref D),some (.ref Wd),some (.ref Sd),some (.int (h.1:Int)),some v,z8,z9,z10]/\H' Wd=some (.dK kvW)/\H' Sd=some (.dK kvS')/\bZ K H' kvW Wl/\bZ K H' kvS' (Sl++[h])/\jS K H' v h/\DkS m kb ds a Wl Sl h ((stF (brF ds) h.1).take j)) ⟨s2B.trans sC,eLp,SD,kvW',Wl',z8,z9,z10,rfl,sC _ _ hWB,sC _ _ hSB,EWB.same sC,ESB.same sC,EAB.same sC,DK0⟩ (fun j σ H' _ h=>SqL.of h.2.1) ?_ ?_
 ·rintro j x σ HD hx ⟨sD2,eL,SD,kvW,Wl,z8,z9,z10,rfl,hW,hS,EW,ES,EA,DK⟩;obtain⟨t,u,y,rfl,hy,ht,hu'⟩:=SD.get hx;have tk:(stF (brF ds) h.1).take (j+1)=(stF (brF ds) h.1).take j++[y]:=by rw[List.take_add_one,hy];rfl
  rw[tk];have my:=List.mem_of_getElem? hy;obtain⟨d,hd,hk,wy⟩:=zQ my;have md:=List.mem_of_getElem? hd;obtain⟨lq,bq,vq,nn⟩:=eB ok md;obtain⟨dW,dS⟩:=Fj DK;have oh:=DK.en h (by simp);have bh:=oh.bd.mono (pJ k100 (by omega));obtain⟨t0,lr,rr,ws,rfl,ht0,fl,hr0,sw⟩:=EA;obtain⟨yr,zr,ey,rwr,fzr⟩:=(Rb2.same sD2).at hd;refine⟨t,_,rfl,ht,rfl,_,_,rfl,_,_,rfl,rfl,?_⟩;refine⟨_,rfl,t0,_,_,_,rfl,rfl,ht0,rfl,_,rfl,_,rfl,u,_,_,_,rfl,rfl,hu',rfl,ra,xs,_,_,rfl,rfl,SqL.of (sD2 _ _ ea2),bO ey,?_⟩;refine⟨yr,zr,_,_,_,_,rfl,rwr,fzr,fun rl frl=>?_⟩;have frl:Fq K HD rl (cZ d):=frl;refine⟨lr,rl,_,_,2041,100,rfl,fl,frl,oh.lo.pos,lq.pos,bh,bq.mono k100,by omega,fun pl HE sE eE=>?_⟩;have fpl:Fq K HE pl (Mq.dQ h.2.1 (cZ d)):=Fq.of eE;have lpl:=Mq.gK oh.lo.pos lq.pos;have bpl:Mq.Bd 2200 (Mq.dQ h.2.1 (cZ d)):=(Mq.oY bh (bq.mono k100) oh.lo.pos lq.pos).mono (by omega);have vpl:Mq.val (Mq.dQ h.2.1 (cZ d))=Mq.val h.2.1+dX d:=by rw[Mq.lI oh.lo.pos lq.pos,vq]
  have s2E:=sD2.trans sE;have hWE:=sE _ _ hW;have hSE:=sE _ _ hS;have EWE:=EW.same sE;have ESE:=ES.same sE;have lws:=sw.length;have hst:=oh.st;have lkw:=EW.length;have KEEP:jS K HE (.ref t0) h:=⟨t0,lr,rr,ws,rfl,sE.seqT ht0,sE.fq fl,sE _ _ hr0,sw.same sE⟩
  by_cases c1:y.2∈eks (Sl++[h])
  ·obtain⟨v1,e1,m1',k1',hv1,_⟩:=ESE.find c1;refine⟨_,rfl,_,rfl,Sd,_,rfl,hG.k (k:=.inl (y.2:Int)) hSE,?_⟩;rw[hv1];refine⟨_,rfl,bX (bX ⟨s2E,sE _ _ eL,SD.same sE,kvW,Wl,_,_,_,rfl,hWE,hSE,EWE,ESE,KEEP,DK.skip fun d' hd'=>?_⟩)⟩;have:d'=d:=by rw[hd] at hd';exact(Option.some.inj hd').symm
   subst this;refine⟨e1,List.mem_append_right _ m1',k1',?_⟩;rcases List.mem_append.mp m1' with z | z
   ·have:=DK.sh e1 z;grind
   ·have:e1=h:=by simpa using z
    rw[this];grind
  ·have hn1:=ESE.lack c1;refine⟨_,rfl,_,rfl,Sd,_,rfl,hG.k (k:=.inl (y.2:Int)) hSE,?_⟩;rw[hn1];refine⟨_,rfl,dF ?_⟩;have PUT:∀(nw:∀e∈Wl,e.1=y.2->Mq.val h.2.1+dX d<=Mq.val e.2.1) (X:St->Hp->Prop),(∀σ' H',(bA H2 H'/\H' Lp=some (.lst ys)/\Sds K H' ys (stF (brF ds) h.1)/\∃(kvW:List (Key × V)) (Wl:List En) (z8 z9 z10:Option V),σ'=[some (.ref n),some (.int (a:Int)),some (.ref ra),some (.ref D),some (.ref Wd),some (.ref Sd),some (.int (h.1:Int)),some (.ref t0),z8,z9,z10]/\H' Wd=some (.dK kvW)/\H' Sd=some (.dK kvS')/\bZ K H' kvW Wl/\bZ K H' kvS' (Sl++[h])/\jS K H' (.ref t0) h/\DkS m kb ds a Wl Sl h ((stF (brF ds) h.1).take j++[y]))->X σ' H')->∀(l1 l2 t9:Addr),HE l1=none->upd HE l1 (.lst [.ref u]) l2=none->upd (upd HE l1 (.lst [.ref u])) l2 (.lst (ws++[.ref u])) t9=none->X [some (.ref n),some (.int (a:Int)),some (.ref ra),some (.ref D),some (.ref Wd),some (.ref Sd),some (.int (h.1:Int)),some (.ref t0),some (.ref u),some (.int (y.2:Int)),some (.ref pl)] (upd (upd (upd (upd HE l1 (.lst [.ref u])) l2 (.lst (ws++[.ref u]))) t9 (.tup [.ref pl,.ref l2])) Wd (.dK (dY kvW (.inl (y.2:Int)) (.ref t9)))):=by
    intro nw X hX l1 l2 t9 hl1 hl2 ht9;have sF:=aH hl1 (.lst [.ref u]);have sG:=aH hl2 (.lst (ws++[.ref u]));have eG:upd (upd HE l1 (.lst [.ref u])) l2 (.lst (ws++[.ref u])) l2=some (.lst (ws++[.ref u])):=aF;have sH:=aH ht9 (.tup [.ref pl,.ref l2]);have eH:upd (upd (upd HE l1 (.lst [.ref u])) l2 (.lst (ws++[.ref u]))) t9 (.tup [.ref pl,.ref l2]) t9=some (.tup [.ref pl,.ref l2]):=aF;generalize upd HE l1 (.lst [.ref u])=HF at sF sG eG sH eH ⊢;generalize upd HF l2 (.lst (ws++[.ref u]))=HG at sG eG sH eH ⊢;generalize upd HG t9 (.tup [.ref pl,.ref l2])=HH at sH eH ⊢;have sEH:=sF.trans (sG.trans sH);have hWH:=sEH _ _ hWE;have sx:bU Wd HH (upd HH Wd (.dK (dY kvW (.inl (y.2:Int)) (.ref t9)))):=fun b u h n=>by rw[aU n];exact h
    have stu:Sts K HH [.ref u] [y.1]:=.cons (n:=y.1.1) (w:=y.1.2) ((sE.trans sEH).seqT hu') .nil;have EN:jS K HH (.ref t9) (y.2,Mq.dQ h.2.1 (cZ d),h.2.2++[y.1]):=⟨t9,pl,l2,_,rfl,SqT.of eH,sEH.fq fpl,sH _ _ eG,(sw.same (sE.trans sEH)).app stu⟩
    refine hX _ _ ⟨(s2E.trans sEH).change nWd,sx _ _ ((sE.trans sEH) _ _ eL) nLW,(SD.same (sE.trans sEH)).x hWH (Nsq.dk _) sx,_,hV Wl (y.2,Mq.dQ h.2.1 (cZ d),h.2.2++[y.1]),_,_,_,rfl,aF,sx _ _ (sEH _ _ hSE) (Ne.symm nWS),((EWE.same sEH).put EN).x hWH (Nsq.dk _) sx,(ESE.same sEH).x hWH (Nsq.dk _) sx,(KEEP.same sEH).x hWH (Nsq.dk _) sx,DK.more ok hd hk wy c1 nw⟩
   by_cases c2:y.2∈eks Wl
   ·obtain⟨v2,e2,m2',k2',hv2,t2,lr2,rr2,ws2,rfl,ht2,fl2,_⟩:=EWE.find c2;have o2:=DK.en e2 (List.mem_append_left _ m2');have b2:=o2.bd.mono (pJ k100 (by have:=o2.st;rw[List.length_append] at this;simp only[List.length_cons,List.length_nil] at this;omega));have vl:=sU lpl.pos o2.lo.pos;rw[vpl] at vl;refine⟨_,rfl,_,rfl,Wd,_,rfl,hG.k (k:=.inl (y.2:Int)) hWE,?_⟩;rw[hv2];refine⟨_,rfl,bX ⟨_,rfl,_,rfl,_,rfl,Wd,_,rfl,.inl ⟨kvW,_,.inl hWE,rfl,hv2.symm⟩,t2,_,_,_,rfl,rfl,ht2,rfl,?_⟩⟩;refine⟨pl,lr2,_,_,2200,2041,rfl,fpl,fl2,bpl,b2,by omega,_,rfl,?_⟩
    by_cases c3:(Mq.dQ h.2.1 (cZ d)).1*e2.2.1.2 < e2.2.1.1*(Mq.dQ h.2.1 (cZ d)).2
    ·rw[decide_eq_true c3];have lt:=vl.mp c3;have nw:∀e∈Wl,e.1=y.2->Mq.val h.2.1+dX d<=Mq.val e.2.1:=fun e he ke=>by
      rw[bZ.one (List.nodup_append.mp DK.nd).1 he m2' (ke.trans k2'.symm)];exact Rat.le_of_lt lt
     refine dF ?_;refine⟨_,rfl,_,rfl,t0,_,_,_,rfl,rfl,sE.seqT ht0,rfl,_,rfl,by show 1<=sizeLine;decide,fun l1 hl1=>?_⟩;refine⟨rr,l1,_,_,rfl,rfl,(sE.trans (aH hl1 _)) _ _ hr0,aF,Nat.le_of_lt (bF (by rw[lws];simp only[List.length_cons,List.length_nil];omega)),fun l2 hl2=>?_⟩;refine⟨by show 2<=sizeLine;decide,fun t9 ht9=>?_⟩;refine⟨_,rfl,_,rfl,Wd,_,rfl,sY.k (k:=.inl (y.2:Int)) (((aH hl1 _).trans ((aH hl2 _).trans (aH ht9 _))) _ _ hWE) (bF (by rw[lkw];omega)),?_⟩;exact PUT nw _ (fun _ _ h=>h) l1 l2 t9 hl1 hl2 ht9
    ·rw[decide_eq_false c3];refine bX ⟨s2E,sE _ _ eL,SD.same sE,kvW,Wl,_,_,_,rfl,hWE,hSE,EWE,ESE,KEEP,DK.skip fun d' hd'=>?_⟩;have:d'=d:=by rw[hd] at hd';exact(Option.some.inj hd').symm
     subst this;refine⟨e2,List.mem_append_left _ m2',k2',?_⟩;have nlt:=fun z=>c3 (vl.mpr z);rcases Rat.le_total (a:=Mq.val e2.2.1) (b:=Mq.val h.2.1+dX d') with q1 | q1
     ·exact q1
     ·by_cases q2:Mq.val h.2.1+dX d'=Mq.val e2.2.1
      ·rw[q2];exact Rat.le_refl
      ·exact absurd (Rat.lt_of_le_of_ne q1 q2) nlt
   ·have hn2:=EWE.lack c2;have nw:∀e∈Wl,e.1=y.2->Mq.val h.2.1+dX d<=Mq.val e.2.1:=fun e he ke=>absurd (by rw[<- ke];exact List.mem_map.mpr ⟨e,he,rfl⟩) c2;refine⟨_,rfl,_,rfl,Wd,_,rfl,hG.k (k:=.inl (y.2:Int)) hWE,?_⟩;rw[hn2];refine⟨_,rfl,dF (dF ?_)⟩;refine⟨_,rfl,_,rfl,t0,_,_,_,rfl,rfl,sE.seqT ht0,rfl,_,rfl,by show 1<=sizeLine;decide,fun l1 hl1=>?_⟩;refine⟨rr,l1,_,_,rfl,rfl,(sE.trans (aH hl1 _)) _ _ hr0,aF,Nat.le_of_lt (bF (by rw[lws];simp only[List.length_cons,List.length_nil];omega)),fun l2 hl2=>?_⟩;refine⟨by show 2<=sizeLine;decide,fun t9 ht9=>?_⟩;refine⟨_,rfl,_,rfl,Wd,_,rfl,sY.k (k:=.inl (y.2:Int)) (((aH hl1 _).trans ((aH hl2 _).trans (aH ht9 _))) _ _ hWE) (bF (by rw[lkw];omega)),?_⟩;exact PUT nw _ (fun _ _ h=>h) l1 l2 t9 hl1 hl2 ht9
 ·rintro σ HD ⟨sD2,eL,SD,kvW,Wl,z8,z9,z10,rfl,hW,hS,EW,ES,EA,DK⟩;rw[lys,List.take_length] at DK;have DJ':=DK.done ok;have:=pK DJ';rw[List.length_append] at this;simp only[List.length_cons,List.length_nil] at this;exact⟨m - (Sl++[h]).length,by rw[List.length_append];simp only[List.length_cons,List.length_nil];omega,sD2,kvW,kvS',Wl,Sl++[h],_,_,_,_,_,rfl,rfl,hW,hS,EW,ES,DJ'⟩
def tO (K:PySem.W.Frag):Sp:=fun vs H Q _=>∃(l:Addr) (ns:List Int) (m:Int),vs=[.ref l,.int m]/\SqL K H l (ns.map V.int)/\ns.length<=100/\(∀x∈ns,0<=x/\x < m)/\∀H',bA H H'->Q .non H'
theorem Ei {dV:Value}(F:bS K "refuse_points" "refuse_points" sRP dV f fd)(ma:mg "all"=none)(G1:aK P w K mg base CX0 2 g1 gd1 ["thing","bound"] Do)(b1:aR K gd1 ["thing","bound"] [])(k1:PySem.W.keepIn K (.ref g1)=true)(m1:mg "is_number_below"=some (.ref g1)) :
  aK P w K mg base CX 3 f fd ["some","many"] (tO K):=by
 refine F.ok Ja (fun vs H Q E h=>?_) (fun cdv A outer s H vs Q E hr h=>?_)
 ·obtain⟨l,ns,m,rfl,hl,h100,hn,q⟩:=h;rfl
 obtain⟨l,ns,m,rfl,hl,h100,hn,q⟩:=h;refine⟨_,(aG (bH (cC (bN (bQ (qR rfl) rfl ma PyProof.Rows.boot_all (aA (iY (nl:=1) (fr:=[1]) (Nc:=["point","many"]) (cl:=[("many",s.heap.objs.size+1)]) rfl ⟨rfl,rfl,by decide +kernel,by decide +kernel,fun x c h=>h,iH rfl,rfl,fun i n h=>match i,h with | 0,h=>by cases h;exact⟨1,rfl,rfl,rfl,rfl,.inl rfl⟩ | k+1,h=>by rw[show 1+(k+1)=k+2 by omega] at h;cases h⟩
    (cY (pv 0)) (fun C s3 H3 fp pins=>(bE (i:=0) mQ rfl (Or.inl rfl))) (fun C s3 H3 fp pins=>iX)
    (fun C s3 H3 fp pins=>(aI G1 hr rfl m1 k1 b1 .nil aO (aA (pv 0) (aA (pv 1) aD))))) aD)))) (aG eT) aV)),?_⟩
 refine⟨_,rfl,l,rfl,⟨_,hl⟩,fun D hD=>?_⟩;have sD:=aH hD (.lst []);refine gW (xs:=ns.map V.int) (fun k zs H'=>bA H H'/\H' D=some (.lst zs)/\zs=(List.replicate k true).map V.bl) ⟨sD,aF,rfl⟩ (fun k zs H' h=>h.2.1) (fun k zs H' _ h=>h.1.seq hl) ?_ ?_
 ·rintro k zs x H1 hx ⟨s1,e1,rfl⟩ C hC;have hk:k < ns.length:=by have:=(List.getElem?_eq_some_iff.mp hx).1;rwa [List.length_map] at this
  obtain⟨y,rfl,y0,y1⟩:∃y,x=.int y/\0<=y/\y < m:=by
   obtain⟨y,hy,ey⟩:=List.mem_map.mp (List.mem_of_getElem? hx);exact⟨y,ey.symm,hn y hy⟩
  refine⟨hZ.1,hZ.2,dF ?_⟩;refine⟨_,rfl,_,rfl,y,m,rfl,y0,y1,e1,bF (by rw[List.length_map,List.length_replicate];omega),hC _ _ ⟨s1.change hD,aF,?_⟩⟩;rw[List.replicate_succ',List.map_append];rfl
 ·rintro zs H1 ⟨s1,e1,rfl⟩;refine⟨D,_,rfl,SqL.of e1,_,rfl,L2.ifF ?_ ?_⟩
  ·simp
  ·exact q _ s1
theorem Ex {f:Addr}{fd:FuncData}(F:aK P w K mg base CX 3 f fd ["some","many"] (tO K)):aK P w K mg base CX 3 f fd ["some","many"] (Gr K):=
 F.imp fun vs H Q E ⟨l,i,j,m,hv,hl,i0,i1,j0,j1,q⟩=>⟨l,[i,j],m,hv,hl,by show 2<=100;decide,fun x hx=>by
  rcases List.mem_cons.mp hx with z | z
  ·rw[z];exact⟨i0,i1⟩
  ·have:x=j:=by simpa using z
   rw[this];exact⟨j0,j1⟩,q⟩
end
end K62
set_option maxHeartbeats 1000000
namespace L2
open PySem PySem.Spec PyProof.Rows Shp
inductive Oqs (K:PySem.W.Frag) (H:Hp):List V->List (Option Mq.Q2)->Prop where
 |nil:Oqs K H [] []
 |no {xs:List V} {ps:List (Option Mq.Q2)} (q:Oqs K H xs ps):Oqs K H (.non :: xs) (none :: ps)
 |so {a:Addr} {p:Mq.Q2} {xs:List V} {ps:List (Option Mq.Q2)} (h:Fq K H a p) (q:Oqs K H xs ps):Oqs K H (.ref a :: xs) (some p :: ps)
section
variable {K:PySem.W.Frag} {H H':Hp}
theorem Oqs.same (e:bA H H'):∀{xs:List V} {ps:List (Option Mq.Q2)},Oqs K H xs ps->Oqs K H' xs ps
 |_,_,.nil=>.nil
 |_,_,.no q=>.no (q.same e)
 |_,_,.so h q=>.so (e.fq h) (q.same e)
theorem Oqs.length:∀{xs:List V} {ps:List (Option Mq.Q2)},Oqs K H xs ps->xs.length=ps.length
 |_,_,.nil=>rfl
 |_,_,.no q=>congrArg (· + 1) q.length
 |_,_,.so _ q=>congrArg (· + 1) q.length
theorem Oqs.app:∀{xs ys:List V} {ps qs:List (Option Mq.Q2)},Oqs K H xs ps->Oqs K H ys qs->Oqs K H (xs++ys) (ps++qs)
 |_,_,_,_,.nil,h=>h
 |_,_,_,_,.no q,h=>.no (q.app h)
 |_,_,_,_,.so f q,h=>.so f (q.app h)
theorem Oqs.upd {l:Addr}{ys:List V}{o:HO}(hl:H l=some (.lst ys)):∀{xs:List V} {ps:List (Option Mq.Q2)},Oqs K H xs ps->Oqs K (L2.upd H l o) xs ps
 |_,_,.nil=>.nil
 |_,_,.no q=>.no (q.upd hl)
 |_,_,.so h q=>by
  cases Fqs.upd (o:=o) hl (.cons h .nil) with
  |cons g _=>exact .so g (q.upd hl)
theorem Oqs.at:∀{xs:List V} {ps:List (Option Mq.Q2)} {i:Nat} {o:Option Mq.Q2},Oqs K H xs ps->ps[i]?=some o->(o=none/\xs[i]?=some .non)\/∃a p,o=some p/\xs[i]?=some (.ref a)/\Fq K H a p
 |_,_,0,_,.no q,h=>by cases h;exact .inl ⟨rfl,rfl⟩
 |_,_,0,_,.so f q,h=>by cases h;exact .inr ⟨_,_,rfl,rfl,f⟩
 |_,_,i+1,_,.no q,h=>q.at (i:=i) h
 |_,_,i+1,_,.so f q,h=>q.at (i:=i) h
end
def dsO (S:List En)(p:Nat):Option Mq.Q2:=(S.find? fun e=>decide (e.1=p)).map (·.2.1)
theorem kA {S:List En}{p:Nat}(h:p∉eks S):dsO S p=none:=by
 unfold dsO;rw[List.find?_eq_none.mpr fun e he=>by simpa using fun z=>h (by rw[<- z];exact List.mem_map.mpr ⟨e,he,rfl⟩)];rfl
theorem gB {S:List En}{p:Nat}{q:Mq.Q2}(h:dsO S p=some q):∃e∈S,e.1=p/\e.2.1=q:=by
 unfold dsO at h
 cases f:S.find? fun e=>decide (e.1=p) with
 |none=>rw[f] at h;cases h
 |some e=>
  rw[f] at h;exact⟨e,List.mem_of_find?_eq_some f,by simpa using List.find?_some f,Option.some.inj h⟩
theorem gG {S:List En}(nd:(eks S).Nodup){e:En}(he:e∈S){p:Nat}(k:e.1=p):dsO S p=some e.2.1:=by
 cases f:dsO S p with
 |none=>
  unfold dsO at f;have:=List.find?_eq_none.mp (Option.map_eq_none_iff.mp f) e he;exact absurd (decide_eq_true k) this
 |some q=>
  obtain⟨e',h',k',v⟩:=gB f;rw[<- v,bZ.one nd h' he (k'.trans k.symm)]
section
variable {m kb a:Nat} {ds:List RD} {S S':List En}
theorem DjS.nds (h:DjS m kb ds a [] S):(eks S).Nodup:=by have:=h.nd;simpa using this
theorem DjS.ok (h:DjS m kb ds a [] S){e:En}(he:e∈S):qQ m kb ds a S.length e:=h.en e (by simpa using he)
theorem DjS.im (h:DjS m kb ds a [] S){b:Nat}{x:Rat}{st:List Stp}(r:Rds ds a b x st):b∈eks S:=by
 have cl:∀{q:Nat} {x:Rat},Kn ([]++S) q x->q∈eks S:=fun {q x} ⟨e,he,k,_⟩=>by rw[<- k];exact List.mem_map.mpr ⟨e,by simpa using he,rfl⟩
 induction r with
 |here=>
  obtain⟨e,he,ea⟩:=h.ia;exact List.mem_map.mpr ⟨e,by simpa using he,ea⟩
 |go r hd hk e f ih=>
  obtain⟨e1,h1,k1⟩:=List.mem_map.mp ih;rw[<- f];exact cl ((h.cm e1 h1 _ (List.mem_of_getElem? hd) hk).1 (by rw[e,k1]))
 |back r hd hk e f ih=>
  obtain⟨e1,h1,k1⟩:=List.mem_map.mp ih;rw[<- f];exact cl ((h.cm e1 h1 _ (List.mem_of_getElem? hd) hk).2 (by rw[e,k1]))
theorem DjS.dsO_eq (h:DjS m kb ds a [] S)(h':DjS m kb ds a [] S')(p:Nat):dsO S p=dsO S' p:=by
 have half:∀{S S':List En},DjS m kb ds a [] S->DjS m kb ds a [] S'->∀e∈S,dsO S' e.1=some e.2.1:=fun {S S'} h h' e he=>by
  obtain⟨e',he',k'⟩:=List.mem_map.mp (h'.im (h.ok he).rd);rw[gG h'.nds he' k'];exact congrArg some (Mq.pY (h'.ok he').lo (h.ok he).lo (Rat.le_antisymm (h'.low h he' he k') (h.low h' he he' k'.symm)))
 by_cases c:p∈eks S
 ·obtain⟨e,he,k⟩:=List.mem_map.mp c;rw[gG h.nds he k,<- k,half h h' e he]
 ·rw[kA c]
  by_cases c':p∈eks S'
  ·obtain⟨e,he,k⟩:=List.mem_map.mp c';have:=half h' h e he;rw[k,kA c] at this
   cases this
  ·rw[kA c']
theorem zZ {ds:List RD}{a c:Nat}{x:Rat}{st:List Stp}(r:Rds ds a c x st)(z:st=[]):x=0/\c=a:=by
 cases r with
 |here=>exact⟨rfl,rfl⟩
 |go=>simp at z
 |back=>simp at z
theorem DjS.self (h:DjS m kb ds a [] S){e:En}(he:e∈S)(k:e.1=a):e=(a,(0,1),[]):=by
 obtain⟨vs,r,_⟩:=h.sm e (by simpa using he);have o:=h.ok he;have q:=o.rd;have lo:=o.lo;obtain⟨b,x,st⟩:=e;have k:b=a:=k;subst k;have z:st=[]:=r.none;subst z;have x1:x=(0,1):=Mq.pY lo Mq.yX (by rw[Mq.uB];exact(zZ q rfl).1);rw[x1]
theorem DjS.selfO (h:DjS m kb ds a [] S):dsO S a=some (0,1):=by
 obtain⟨e,he,ea⟩:=h.ia;have he:e∈S:=by simpa using he
 rw[gG h.nds he ea,h.self he ea]
theorem DjS.row (h:DjS m kb ds a [] S){d:RD}(hd:d∈ds)(hk:d.1≠.pu):(dsO S d.2.1.toNat=none/\dsO S d.2.2.1.toNat=none)\/∃x y,dsO S d.2.1.toNat=some x/\dsO S d.2.2.1.toNat=some y/\Mq.val y<=Mq.val x+dX d/\Mq.val x<=Mq.val y+dX d:=by
 have half:∀{p q:Nat},p∈eks S->(∀e∈S,p=e.1->Kn ([]++S) q (Mq.val e.2.1+dX d))->∃x y,dsO S p=some x/\dsO S q=some y/\Mq.val y<=Mq.val x+dX d:=fun {p q} hp kn=>by
  obtain⟨e,he,k⟩:=List.mem_map.mp hp;obtain⟨e',he',k',l⟩:=kn e he k.symm;exact⟨_,_,gG h.nds he k,gG h.nds (by simpa using he') k',l⟩
 have c1:=fun z=>half (p:=d.2.1.toNat) (q:=d.2.2.1.toNat) z fun e he k=>(h.cm e he d hd hk).1 k;have c2:=fun z=>half (p:=d.2.2.1.toNat) (q:=d.2.1.toNat) z fun e he k=>(h.cm e he d hd hk).2 k;have im:∀{p:Nat} {x:Mq.Q2},dsO S p=some x->p∈eks S:=fun {p x} z=>by
  obtain⟨e,he,k,_⟩:=gB z;rw[<- k];exact List.mem_map.mpr ⟨e,he,rfl⟩
 by_cases u:d.2.1.toNat∈eks S
 ·obtain⟨x,y,ex,ey,l⟩:=c1 u;obtain⟨y',x',ey',ex',l'⟩:=c2 (im ey);rw[ex] at ex';rw[ey] at ey'
  cases ex';cases ey'
  exact .inr ⟨x,y,ex,ey,l,l'⟩
 ·by_cases v:d.2.2.1.toNat∈eks S
  ·obtain⟨y,x,ey,ex,_⟩:=c2 v;exact absurd (im ex) u
  ·exact .inl ⟨kA u,kA v⟩
end
end L2
set_option maxHeartbeats 4000000
namespace K62
open PySem L2 Shp
section
variable {P:Program} {w:World} {K:PySem.W.Frag} {mg:Str->Option Value} {base:Heap} {f g1 g2 g3 g4 g5 g6 g7 g8:Addr} {fd gd1 gd2 gd3 gd4 gd5 gd6 gd7 gd8:FuncData} {CX:CXT}
variable {CR:Addr} {CK:Kd->Addr} {fW fJ fT fS:Kd->Addr} {fdW fdJ fdT fdS:Kd->FuncData}
def zK (CN:Addr)(K:PySem.W.Frag):Sp:=fun vs H Q _=>∃(n l:Addr) (m kb a:Nat) (ds:List RD),vs=[.ref n,.int (a:Int)]/\dB CN K H n l (m:Int) ds/\cV m kb ds/\a < m/\
 ∀t zs S H',bA H H'->H t=none->H' t=some (.lst zs)->Oqs K H' zs ((List.range m).map (dsO S))->DjS m kb ds a [] S->Q (.ref t) H'
theorem kE:(["point","reached"]:List Str).Nodup:=by decide +kernel
abbrev oO:Stmt:=top 37
theorem xI:aS ["net","a","reached"] ["net","a"] (aE oO):=⟨rfl,rfl,rfl,by decide +kernel,rfl,by decide +kernel,by decide +kernel⟩
theorem Ar {dV:Value}(F:bS K "distances" "distances" oO dV f fd){CN:Addr}(NTx:NT K mg CN)(mr:mg "range"=none){gMa:Addr}{gdMa:FuncData}(GMa:aK P w K mg base CX0 1 gMa gdMa ["self"] (rQ CN K))(bMa:aR K gdMa ["self"] [])(mMa:gE K CN "many" gMa)(G1:aK P w K mg base CX0 3 g1 gd1 ["some","many"] (tO K))(b1:aR K gd1 ["some","many"] [])(k1:PySem.W.keepIn K (.ref g1)=true)(m1:mg "refuse_points"=some (.ref g1))(G2:aK P w K mg base CX0 5 g2 gd2 ["net","a"] (pF CN K))(b2:aR K gd2 ["net","a"] [])(k2:PySem.W.keepIn K (.ref g2)=true)(m2:mg "least_from"=some (.ref g2)) :
  aK P w K mg base CX 6 f fd ["net","a"] (zK CN K):=by
 refine F.ok xI (fun vs H Q E h=>?_) (fun cdv A outer s H vs Q E hr h=>?_)
 ·obtain⟨n,l,m,kb,a,ds,rfl,nt,ok,ha,q⟩:=h;rfl
 obtain⟨n,l,m,kb,a,ds,rfl,nt,ok,ha,q⟩:=h;have r1:=hr.mono (show 1<=5 by omega);have r3:=hr.mono (show 3<=5 by omega);refine⟨_,(aC (cQ (aI G1 r3 rfl m1 k1 b1 .nil aO (aA (cL (aA (pv 1) aD)) (aA (gH (pv 0) NTx.cl mMa GMa r1 bMa .nil aO) aD))))
  (aC (aT (i:=2) xI.nd rfl (Or.inr rfl) (aI G2 hr rfl m2 k2 b2 .nil aO (aA (pv 0) (aA (pv 1) aD))))
  (aG (aQ (iY (nl:=1) (fr:=[2]) (Nc:=["point","reached"]) (cl:=[("reached",s.heap.objs.size+1)]) rfl ⟨rfl,rfl,by decide +kernel,by decide +kernel,fun x c h=>h,iH rfl,rfl,fun i n h=>match i,h with | 0,h=>by cases h;exact⟨2,rfl,rfl,rfl,rfl,.inl rfl⟩ | k+1,h=>by rw[show 1+(k+1)=k+2 by omega] at h;cases h⟩
    (eM rfl mr (aA (gH (pv 0) NTx.cl mMa GMa r1 bMa .nil aO) aD)) (fun C s3 H3 fp pins=>(bE (i:=0) kE rfl (Or.inl rfl))) (fun C s3 H3 fp pins=>iX)
    (fun C s3 H3 fp pins=>(mG (dZ (Ev (fX hr) (pv 0) (pv 1))) (aL (vA (K:=K) rfl) (iZ (fX hr) (pv 1) (pv 0) (fun _ _=>rfl)) aB (fun _ _=>rfl)) iI))))))),?_⟩
 have m20:=ok.m20;have k100:=ok.k100;refine⟨_,rfl,by show 1<=sizeLine;decide,fun L1 hL1=>?_⟩;have s1:=aH hL1 (.lst [.int (a:Int)]);have e1:upd H L1 (.lst [.int (a:Int)]) L1=some (.lst [.int (a:Int)]):=aF;generalize upd H L1 (.lst [.int (a:Int)])=H1 at s1 e1 ⊢;obtain⟨dn,hn⟩:=(nt.same s1).ob;refine⟨_,rfl,n,dn,_,rfl,hn,eO _ _ (by decide +kernel) (by decide +kernel),n,l,_,ds,rfl,nt.same s1,?_⟩;refine⟨L1,[(a:Int)],_,rfl,SqL.of e1,by show 1<=100;decide,fun x hx=>?_,fun H2 s2=>?_⟩
 ·have:x=(a:Int):=by simpa using hx
  rw[this];omega
 have s02:=s1.trans s2;refine⟨_,rfl,_,rfl,n,l,m,kb,a,ds,rfl,nt.same s02,ok,ha,fun sd kvs S H3 s3 nsd esd ES DJ=>?_⟩;have s03:=s02.trans s3;obtain⟨dn3,hn3⟩:=(nt.same s03).ob;refine⟨_,rfl,n,dn3,_,rfl,hn3,eO _ _ (by decide +kernel) (by decide +kernel),n,l,_,ds,rfl,nt.same s03,(m:Int),rfl,by omega,by omega,fun D hD=>?_⟩;rw[Int.toNat_natCast];have sD:=aH hD (.lst []);refine lO (n:=m) (fun i zs H'=>bA H3 H'/\H' D=some (.lst zs)/\Oqs K H' zs ((List.range i).map (dsO S))) ⟨sD,aF,.nil⟩ (fun i zs H' h=>h.2.1) ?_ ?_
 ·rintro i zs H4 hi ⟨s4,e4,FP⟩ C hC;rw[Int.zero_add];have lz:=FP.length;rw[List.length_map,List.length_range] at lz;refine⟨hZ.1,hZ.2,dF ?_⟩
  by_cases c:i∈eks S
  ·obtain⟨v,e,me,ke,hv,t,lr,rr,ws,rfl,ht,fl,_⟩:=(ES.same s4).find (k:=i) c;refine⟨_,rfl,_,rfl,sd,_,rfl,hG.k (k:=.inl (i:Int)) (s4 _ _ esd),_,rfl,?_⟩;rw[hv];refine dF ⟨_,rfl,_,rfl,sd,_,rfl,.inl ⟨kvs,.inl (i:Int),.inl (s4 _ _ esd),rfl,hv.symm⟩,t,_,_,_,rfl,rfl,ht,rfl,?_⟩;refine⟨e4,bF (by omega),hC _ _ ⟨s4.change hD,aF,?_⟩⟩;rw[List.range_succ,List.map_append,List.map_cons,List.map_nil,gG DJ.nds me ke];exact(FP.app (.so fl .nil)).upd e4
  ·have hn:=(ES.same s4).lack c;refine⟨_,rfl,_,rfl,sd,_,rfl,hG.k (k:=.inl (i:Int)) (s4 _ _ esd),_,rfl,?_⟩;rw[hn];refine bX ?_;refine⟨e4,bF (by omega),hC _ _ ⟨s4.change hD,aF,?_⟩⟩;rw[List.range_succ,List.map_append,List.map_cons,List.map_nil,kA c];exact(FP.app (.no .nil)).upd e4
 rintro zs H4 ⟨s4,e4,FP⟩;exact q D zs S H4 (s03.trans s4) (s03.free hD) e4 FP DJ
def lnF (ds:List RD)(st:List Stp):List Mq.Q2:=st.map fun s=>match ds[s.1]? with | some d=>cZ d | none=>(0,1)
def rJ (CN:Addr)(K:PySem.W.Frag):Sp:=fun vs H Q _=>∃(n l r:Addr) (m kb:Nat) (ds:List RD) (ws:List V) (st:List Stp),vs=[.ref n,.ref r]/\dB CN K H n l (m:Int) ds/\cV m kb ds/\H r=some (.lst ws)/\Sts K H ws st/\(∀s∈st,s.1 < ds.length)/\st.length<=20/\
 ∀r' H',bA H H'->Fq K H' r' (Mq.tot (lnF ds st))->Q (.ref r') H'
theorem rR {m kb:Nat}{ds:List RD}(ok:cV m kb ds)(st:List Stp):Mq.Pos (lnF ds st)/\Mq.Wt (lnF ds st) ((kb+1)*st.length):=by
 have one:∀s:Stp,Mq.Low (match ds[s.1]? with | some d=>cZ d | none=>(0,1))/\Mq.Bd kb (match ds[s.1]? with | some d=>cZ d | none=>(0,1)):=fun s=>by
  cases h:ds[s.1]? with
  |none=>
   have:=ok.k1;exact⟨⟨by decide,by decide⟩,⟨Nat.two_pow_pos _,Nat.one_lt_two_pow (by omega)⟩⟩
  |some d=>exact⟨(eB ok (List.mem_of_getElem? h)).1,(eB ok (List.mem_of_getElem? h)).2.1⟩
 constructor
 ·intro p hp;obtain⟨s,_,e⟩:=List.mem_map.mp hp;rw[<- e];exact(one s).1.pos
 ·induction st with
  |nil=>exact .nil
  |cons s st ih=>
   rw[List.length_cons,Nat.mul_succ,Nat.add_comm];exact .cons (one s).2 ih
theorem eP:(["number","way","rows"]:List Str).Nodup:=by decide +kernel
abbrev nI:Stmt:=top 39
theorem xC:aS ["net","road","rows"] ["net","road"] (aE nI):=⟨rfl,rfl,rfl,by decide +kernel,rfl,by decide +kernel,by decide +kernel⟩
theorem Ab {dV:Value}(F:bS K "road_sum" "road_sum" nI dV f fd){CN:Addr}(NTx:NT K mg CN)(T:RT K mg CR CK){gRo:Addr}{gdRo:FuncData}(GRo:aK P w K mg base CX0 4 gRo gdRo ["self"] (rL CN K CK))(bRo:aR K gdRo ["self"] [])(mRo:gE K CN "rows" gRo)(G1:aK P w K mg base CX0 4 g1 gd1 ["some"] (zC K))(b1:aR K gd1 ["some"] [])(k1:PySem.W.keepIn K (.ref g1)=true)(m1:mg "total"=some (.ref g1))(G2:aK P w K mg base CX0 2 g2 gd2 ["row"] (rH K CK))(b2:aR K gd2 ["row"] [])(k2:PySem.W.keepIn K (.ref g2)=true)(m2:mg "length_of"=some (.ref g2)) :
  aK P w K mg base CX 5 f fd ["net","road"] (rJ CN K):=by
 refine F.ok xC (fun vs H Q E h=>?_) (fun cdv A outer s H vs Q E hr h=>?_)
 ·obtain⟨n,l,r,m,kb,ds,ws,st,rfl,nt,ok,hr0,sw,hst,l20,q⟩:=h;rfl
 obtain⟨n,l,r,m,kb,ds,ws,st,rfl,nt,ok,hr0,sw,hst,l20,q⟩:=h;have r2:=hr.mono (show 2<=4 by omega);refine⟨_,(aC (aT (i:=2) xC.nd rfl (Or.inr rfl) (gH (pv 0) NTx.cl mRo GRo hr bRo .nil aO))
  (aG (aQ (aI G1 hr rfl m1 k1 b1 .nil aO (aA (iY (nl:=2) (fr:=[2]) (Nc:=["number","way","rows"]) (cl:=[("rows",s.heap.objs.size+1)]) (g:=(Df K 2 (qV (lV 0) (qV (lV 1) Ek)))) rfl ⟨rfl,rfl,by decide +kernel,by decide +kernel,fun x c h=>h,iH rfl,rfl,fun i n h=>match i,h with | 0,h=>by cases h;exact⟨2,rfl,rfl,rfl,rfl,.inl rfl⟩ | k+1,h=>by rw[show 2+(k+1)=k+3 by omega] at h;cases h⟩
    (cY (pv 1)) (fun C s3 H3 fp pins=>(jP rfl (cI (bE (i:=0) eP rfl (Or.inl rfl)) (cI (bE (i:=1) eP rfl (Or.inl rfl)) gV)))) (fun C s3 H3 fp pins=>iX)
    (fun C s3 H3 fp pins=>(aI G2 r2 rfl m2 k2 b2 .nil aO (aA (aL (qG (K:=K) rfl) (pv 2) (pv 0) (fun _ _=>rfl)) aD)))) aD))))),?_⟩
 have len:=ok.len;have k100:=ok.k100;obtain⟨dx,hn⟩:=nt.ob;refine⟨_,rfl,n,dx,_,rfl,hn,eO _ _ (by decide +kernel) (by decide +kernel),n,l,_,ds,rfl,nt,len,fun ra xs H1 s1 na ea Rb=>?_⟩;have lxs:=Rb.length;have lws:=sw.length;refine⟨_,rfl,r,rfl,⟨_,SqL.of (s1 _ _ hr0)⟩,fun D hD=>?_⟩;have sD:=aH hD (.lst []);refine gW (xs:=ws) (fun i zs H'=>bA H1 H'/\H' D=some (.lst zs)/\Fqs K H' zs (lnF ds (st.take i))) ⟨sD,aF,.nil⟩ (fun i zs H' h=>h.2.1) (fun i zs H' _ h=>SqL.of (h.1 _ _ (s1 _ _ hr0))) ?_ ?_
 ·rintro i zs x H2 hx ⟨s2,e2,FP⟩ C hC;obtain⟨t,s,rfl,hs,ht⟩:=(sw.same (s1.trans s2)).get hx;have hi:i < st.length:=(List.getElem?_eq_some_iff.mp hs).1;have lz:=FP.length;unfold lnF at lz;rw[List.length_map,List.length_take] at lz;have hsl:=hst s (List.mem_of_getElem? hs);obtain⟨⟨k,u,v,p⟩,hd⟩:∃d,ds[s.1]?=some d:=⟨_,List.getElem?_eq_getElem hsl⟩
  obtain⟨y,z',ey,rw',fz⟩:=(Rb.same s2).at hd;refine⟨t,_,rfl,ht,rfl,_,_,rfl,_,_,rfl,rfl,uH.1,uH.2,dF ?_⟩;refine⟨_,rfl,_,rfl,ra,xs,_,_,rfl,rfl,SqL.of (s2 _ _ ea),bO ey,?_⟩;refine⟨y,z',_,_,_,_,rfl,rw',fz,fun rl frl=>?_⟩;have frl:Fq K H2 rl (cZ (k,u,v,p)):=frl;refine⟨e2,bF (by omega),hC _ _ ⟨s2.change hD,aF,?_⟩⟩;rw[List.take_add_one,hs,show lnF ds (st.take i++(some s).toList)=lnF ds (st.take i)++[cZ (k,u,v,p)] from by
   unfold lnF;rw[List.map_append];show _++[match ds[s.1]? with | some d=>cZ d | none=>(0,1)]=_;rw[hd]]
  exact(FP.app (.cons frl .nil)).upd e2
 ·rintro zs H2 ⟨s2,e2,FP⟩;rw[lws,List.take_length] at FP;obtain⟨w1,w2⟩:=rR ok st;have:(kb+1)*st.length<=101*20:=Nat.mul_le_mul (by omega) l20;exact⟨D,zs,lnF ds st,_,rfl,SqL.of e2,FP,w1,w2,by omega,fun r' H3 s3 f=>q r' H3 (s1.trans (s2.trans s3)) f⟩
def pI (CN CD:Addr)(K:PySem.W.Frag):Sp:=fun vs H Q E=>∃(n l:Addr) (m kb a b:Nat) (ds:List RD),vs=[.ref n,.int (a:Int),.int (b:Int)]/\dB CN K H n l (m:Int) ds/\cV m kb ds/\a < m/\b < m/\
 ∀S H',bA H H'->DjS m kb ds a [] S->(∀e∈S,e.1=b->∀rr ws,H' rr=some (.lst ws)->Sts K H' ws e.2.2->Q (.ref rr) H')/\(b∉eks S->E (.ref CD) none H')
abbrev kF:Stmt:=top 38
theorem uX:aS ["net","a","b","reached"] ["net","a","b"] (aE kF):=⟨rfl,rfl,rfl,by decide +kernel,rfl,by decide +kernel,by decide +kernel⟩
theorem yQ {dV:Value}(F:bS K "least_road" "least_road" kF dV f fd){CN CD:Addr}(NTx:NT K mg CN)(mN:mg "NoRoad"=some (.ref CD))(xN:Gx K CD){gMa:Addr}{gdMa:FuncData}(GMa:aK P w K mg base CX0 1 gMa gdMa ["self"] (rQ CN K))(bMa:aR K gdMa ["self"] [])(mMa:gE K CN "many" gMa)(G1:aK P w K mg base CX0 3 g1 gd1 ["some","many"] (tO K))(b1:aR K gd1 ["some","many"] [])(k1:PySem.W.keepIn K (.ref g1)=true)(m1:mg "refuse_points"=some (.ref g1))(G2:aK P w K mg base CX0 5 g2 gd2 ["net","a"] (pF CN K))(b2:aR K gd2 ["net","a"] [])(k2:PySem.W.keepIn K (.ref g2)=true)(m2:mg "least_from"=some (.ref g2)) :
  aK P w K mg base (CX1 P w) 6 f fd ["net","a","b"] (pI CN CD K):=by
 refine F.okX uX (fun vs H Q E h=>?_) (fun cdv A outer s H vs Q E hr h=>?_)
 ·obtain⟨n,l,m,kb,a,b,ds,rfl,nt,ok,ha,hb,q⟩:=h;rfl
 obtain⟨n,l,m,kb,a,b,ds,rfl,nt,ok,ha,hb,q⟩:=h;have r1:=hr.mono (show 1<=5 by omega);have r3:=hr.mono (show 3<=5 by omega);refine⟨_,(aC (cQ (aI G1 r3 rfl m1 k1 b1 .nil aO (aA (cL (aA (pv 1) (aA (pv 2) aD))) (aA (gH (pv 0) NTx.cl mMa GMa r1 bMa .nil aO) aD))))
  (aC (aT (i:=3) uX.nd rfl (Or.inl rfl) (aI G2 hr rfl m2 k2 b2 .nil aO (aA (pv 0) (aA (pv 1) aD))))
  (aC (bH (dZ (jI (fX hr) (pv 2) (pv 3))) (aG (wV qM Af rfl rfl mN xN (aA cN aD))) aV)
  (aG (aQ (aL aM (iZ (fX hr) (pv 3) (pv 2) (fun _ _=>rfl)) aB (fun _ _=>rfl))))))),?_⟩
 refine⟨_,rfl,_,rfl,by show 2<=sizeLine;decide,fun L1 hL1=>?_⟩;have s1:=aH hL1 (.lst [.int (a:Int),.int (b:Int)]);have e1:upd H L1 (.lst [.int (a:Int),.int (b:Int)]) L1=some (.lst [.int (a:Int),.int (b:Int)]):=aF;generalize upd H L1 (.lst [.int (a:Int),.int (b:Int)])=H1 at s1 e1 ⊢;obtain⟨dn,hn⟩:=(nt.same s1).ob;refine⟨_,rfl,n,dn,_,rfl,hn,eO _ _ (by decide +kernel) (by decide +kernel),n,l,_,ds,rfl,nt.same s1,?_⟩;refine⟨L1,[(a:Int),(b:Int)],_,rfl,SqL.of e1,by show 2<=100;decide,fun x hx=>?_,fun H2 s2=>?_⟩
 ·rcases List.mem_cons.mp hx with z | z
  ·rw[z];omega
  ·have:x=(b:Int):=by simpa using z
   rw[this];omega
 have s02:=s1.trans s2;refine⟨_,rfl,_,rfl,n,l,m,kb,a,ds,rfl,nt.same s02,ok,ha,fun sd kvs S H3 s3 nsd esd ES DJ=>?_⟩;obtain⟨q1,q2⟩:=q S H3 (s02.trans s3) DJ;refine⟨_,rfl,_,rfl,sd,_,rfl,hG.k (k:=.inl (b:Int)) esd,?_⟩
 by_cases c:b∈eks S
 ·obtain⟨v,e,me,ke,hv,t,lr,rr,ws,rfl,ht,fl,hw,sw⟩:=ES.find (k:=b) c;rw[hv];refine⟨_,rfl,bX ?_⟩;refine⟨_,rfl,_,rfl,sd,_,rfl,.inl ⟨kvs,.inl (b:Int),.inl esd,rfl,hv.symm⟩,t,_,_,_,rfl,rfl,ht,rfl,?_⟩;exact q1 e me ke rr ws hw sw
 ·rw[ES.lack c];refine⟨_,rfl,dF ?_⟩;exact⟨by show 1<=sizeLine;decide,q2 c⟩
abbrev oK:Stmt:=top 44
theorem yR:aS ["_law_script","_law_k","_law_found"] ["_law_script","_law_k"] (aE oK):=⟨rfl,rfl,rfl,by decide +kernel,rfl,by decide +kernel,by decide +kernel⟩
def zB (K:PySem.W.Frag):Sp:=fun vs H Q _=>∃(a:Addr) (ns:List Int) (j:Int) (k:Nat),vs=[.ref a,.int j]/\j=(k:Int)/\SqL K H a (ns.map V.int)/\ns.length<=63/\∀i H',bA H H'->Q (.int i) H'
theorem zV {dV:Value}(F:bS K "_law_draw" "_law_draw" oK dV f fd) :
  aK P w K mg base CX 1 f fd ["_law_script","_law_k"] (zB K):=by
 refine F.ok yR (fun vs H Q E h=>?_) (fun cdv A outer s H vs Q E hr h=>?_)
 ·obtain⟨a,ns,j,k,rfl,hj,hS,h63,q⟩:=h;rfl
 obtain⟨a,ns,j,k,rfl,hj,hS,h63,q⟩:=h;have hu:=hr.units;refine⟨_,(aC (aT (i:=2) yR.nd rfl (Or.inl rfl) (jF pD (pv 0) (fO (pv 1)) (fO (aY cX (pv 1) aB))))
  (aC (bH (aZ (iL hu) (pv 2) (cL aD) (bC _)) (aG (aQ aB)) aV)
  (aG (aQ (aL bM (pv 2) aB (fun _ _=>rfl)))))),?_⟩
 refine⟨_,rfl,_,rfl,j,rfl,_,rfl,_,_,rfl,rfl,j+1,rfl,a,_,rfl,hS,fun l hl=>?_⟩;have s1:=aH hl (.lst (iF (ns.map V.int) (some j) (some (j+1))));have e1:upd H l (.lst (iF (ns.map V.int) (some j) (some (j+1)))) l=some (.lst (iF (ns.map V.int) (some j) (some (j+1)))):=aF;obtain⟨ms,em,lm⟩:=lK ns (some j) (some (j+1));rw[em] at e1 s1 ⊢;generalize upd H l (.lst (ms.map V.int))=H1 at e1 s1 ⊢;refine⟨_,rfl,by show 0<=sizeLine;decide,fun e he=>?_⟩;have s2:=aH he (.lst []);refine rG (s2.seq (SqL.of e1)) (SqL.of aF) ⟨_,rfl,?_⟩;rcases ms with _ | ⟨m,ms⟩
 ·exact dF (q 0 _ (s1.trans s2))
 ·refine bX ⟨_,rfl,l,_,_,_,rfl,rfl,s2.seq (SqL.of e1),bO (j:=0) rfl,q m _ (s1.trans s2)⟩
abbrev kQ:Stmt:=top 45
theorem mI:aS ["_law_cell","_law_turn","_law_many","_law_left","_law_k","_law_by","_law_prime","_law_x"] ["_law_cell","_law_turn","_law_many"] (aE kQ):=⟨rfl,rfl,rfl,by decide +kernel,rfl,by decide +kernel,by decide +kernel⟩
def qI:Sp:=fun vs H Q _=>∃c t m:Int,vs=[.int c,.int t,.int m]/\0<=t/\t<=9/\0 < m/\∀r H',0<=r->r < m->bA H H'->Q (.int r) H'
theorem Fy {a0 a1 a2 a3 a4 a5 a6 a7 a8 a9:Int}(hp:0 < a0/\0 < a1/\0 < a2/\0 < a3/\0 < a4/\0 < a5/\0 < a6/\0 < a7/\0 < a8/\0 < a9)(hm:a0 < 1000000/\a1 < 1000000/\a2 < 1000000/\a3 < 1000000/\a4 < 1000000/\a5 < 1000000/\a6 < 1000000/\a7 < 1000000/\a8 < 1000000/\a9 < 1000000){t:Int}(h0:0<=t)(h9:t<=9) :
  ∃v,atI [V.int a0,.int a1,.int a2,.int a3,.int a4,.int a5,.int a6,.int a7,.int a8,.int a9] t=some (.int v)/\0 < v/\v < 1000000:=by
 have:t=0\/t=1\/t=2\/t=3\/t=4\/t=5\/t=6\/t=7\/t=8\/t=9:=by omega
 rcases this with rfl | rfl | rfl | rfl | rfl | rfl | rfl | rfl | rfl | rfl
 all_goals exact⟨_,rfl,by omega,by omega⟩
abbrev l48:List Int:=[48271,69621,16807,40692,39373,30269,27183,60013,51749,35969]
abbrev l99:List Int:=[999983,999979,999961,999959,999953,999931,999917,999907,999883,999863]
@[irreducible] def md1:Stmt:=(aJ kQ).getD 1 (.Pass ⟨0,0,0,0⟩)
@[irreducible] def md2:Stmt:=(aJ kQ).getD 2 (.Pass ⟨0,0,0,0⟩)
def md0:Stmt:=(aJ kQ).getD 0 (.Pass ⟨0,0,0,0⟩)
def md3:Stmt:=(aJ kQ).getD 3 (.Pass ⟨0,0,0,0⟩)
def md4:Stmt:=(aJ kQ).getD 4 (.Pass ⟨0,0,0,0⟩)
theorem Go:aJ kQ=[md0,md1,md2,md3,md4]:=by unfold md1 md2;rfl
theorem Dg:∃(q q2 p2 p3 p:Pos) (l:List (Int × _ × Pos)),md1=.Assign [.Name "_law_by" q] (.Subscript (.List (l.map fun q=>Expr.Constant (.int q.1) q.2.1 q.2.2) p2) (.Name "_law_turn" q2) p3) p/\l.map (fun q=>V.int q.1)=l48.map V.int:=by
 unfold md1;exact⟨_,_,_,_,_,[(48271,_,_),(69621,_,_),(16807,_,_),(40692,_,_),(39373,_,_),(30269,_,_),(27183,_,_),(60013,_,_),(51749,_,_),(35969,_,_)],rfl,rfl⟩
theorem Dz:∃(q q2 p2 p3 p:Pos) (l:List (Int × _ × Pos)),md2=.Assign [.Name "_law_prime" q] (.Subscript (.List (l.map fun q=>Expr.Constant (.int q.1) q.2.1 q.2.2) p2) (.Name "_law_turn" q2) p3) p/\l.map (fun q=>V.int q.1)=l99.map V.int:=by
 unfold md2;exact⟨_,_,_,_,_,[(999983,_,_),(999979,_,_),(999961,_,_),(999959,_,_),(999953,_,_),(999931,_,_),(999917,_,_),(999907,_,_),(999883,_,_),(999863,_,_)],rfl,rfl⟩
theorem Ee {dV:Value}(F:bS K "_law_mix" "_law_mix" kQ dV f fd)(mr:mg "range"=none) :
  aK P w K mg base CX 1 f fd ["_law_cell","_law_turn","_law_many"] qI:=by
 refine F.ok mI (fun vs H Q E h=>?_) (fun cdv A outer s H vs Q E hr h=>?_)
 ·obtain⟨c,t,m,rfl,h0,h9,hm,q⟩:=h;rfl
 obtain⟨c,t,m,rfl,h0,h9,hm,q⟩:=h;rw[Go];obtain⟨q1,q2,q3,q4,q5,l1,e1,eo1⟩:=Dg;obtain⟨r1,r2,r3,r4,r5,l2,e2,eo2⟩:=Dz;rw[e1,e2];refine⟨_,(aC (bH (aZ dE (aY eV (pv 0) aB) aB (bC _)) (aC (aT (i:=3) mI.nd rfl (Or.inl rfl) (aY gN (pv 0) aB))
  (aC (dA PassesOwn.never rfl (eM rfl mr (aA (pv 1) aD)) (bE (i:=4) mI.nd rfl (Or.inl rfl))
   (aG (aT (i:=3) mI.nd rfl (Or.inl rfl) (aY gN (pv 3) (aY gL aB aB)))))
  (aG (aQ (aY iS (pv 3) (pv 2)))))) aV)
  (aC (aT (i:=5) mI.nd rfl (Or.inl rfl) (aL bM (cL (oS _ l1)) (pv 1) (fun _ _=>rfl)))
  (aC (aT (i:=6) mI.nd rfl (Or.inl rfl) (aL bM (cL (oS _ l2)) (pv 1) (fun _ _=>rfl)))
  (aC (aT (i:=7) mI.nd rfl (Or.inl rfl) (aY eV (pv 0) aB))
  (aG (aQ (aY iS (aY gN (aY iS (aY cX (aY cX (aY cJ (aY lJ aB (pv 7)) (pv 7)) (aY cJ (pv 5) (pv 7))) (aY lJ aB (aY cX (pv 1) aB))) (pv 6)) aB) (pv 2)))))))),?_⟩
 rw[eo1,eo2];have hf:∀u:Int,0<=u.fmod m/\u.fmod m < m:=fun u=>⟨Int.fmod_nonneg_of_pos u hm,Int.fmod_lt_of_pos u hm⟩
 have m0:m≠0:=by omega
 refine⟨_,rfl,_,_,rfl,rfl,(show (0:Int) < 2 by decide),rfl,_,rfl,pL (fun _=>?_) (fun _=>?_)⟩
 ·refine⟨_,rfl,_,_,rfl,rfl,⟨by decide,by decide⟩,?_⟩;refine⟨_,rfl,t,rfl,by omega,by omega,?_⟩;refine gS (n:=t.toNat) (fun i σ H'=>H'=H/\∃u z,σ=[some (.int c),some (.int t),some (.int m),some (.int u),z,none,none,none]) ⟨rfl,_,none,rfl⟩ ?_ ?_
  ·rintro i σ H' hi ⟨rfl,u,z,rfl⟩;exact⟨_,rfl,_,_,rfl,rfl,⟨by decide,by decide,by decide⟩,_,_,rfl,rfl,⟨by decide,by decide⟩,rfl,_,_,rfl⟩
  ·rintro σ H' ⟨rfl,u,z,rfl⟩;exact⟨_,rfl,_,rfl,_,_,rfl,rfl,m0,q _ _ (hf u).1 (hf u).2 (bA.refl _)⟩
 ·refine⟨by show 10<=sizeLine;decide,fun l1 hl1=>?_⟩;obtain⟨by_,eb,b1,b2⟩:=Fy (a0:=48271) (a1:=69621) (a2:=16807) (a3:=40692) (a4:=39373) (a5:=30269) (a6:=27183) (a7:=60013) (a8:=51749) (a9:=35969) (by decide) (by decide) h0 h9;have s1:=aH hl1 (.lst (l48.map V.int));have g1:upd H l1 (.lst (l48.map V.int)) l1=some (.lst (l48.map V.int)):=aF;generalize upd H l1 (.lst (l48.map V.int))=H1 at s1 g1 ⊢;refine⟨_,rfl,l1,_,_,_,rfl,rfl,SqL.of g1,eb,?_⟩;refine⟨by show 10<=sizeLine;decide,fun l2 hl2=>?_⟩;obtain⟨pr,ep,p1,p2⟩:=Fy (a0:=999983) (a1:=999979) (a2:=999961) (a3:=999959) (a4:=999953) (a5:=999931) (a6:=999917) (a7:=999907) (a8:=999883) (a9:=999863) (by decide) (by decide) h0 h9;have s2:=aH hl2 (.lst (l99.map V.int));have g2:upd H1 l2 (.lst (l99.map V.int)) l2=some (.lst (l99.map V.int)):=aF;generalize upd H1 l2 (.lst (l99.map V.int))=H2 at s2 g2 ⊢;refine⟨_,rfl,l2,_,_,_,rfl,rfl,SqL.of g2,ep,?_⟩;refine⟨_,rfl,_,_,rfl,rfl,(show (0:Int) < 2147483647 by decide),?_⟩;have x1:=Int.emod_nonneg c (show (2147483647:Int)≠0 by decide);have x2:=Int.emod_lt_of_pos c (show (0:Int) < 2147483647 by decide);generalize c % 2147483647=x at x1 x2 ⊢;refine⟨_,rfl,_,_,rfl,rfl,Or.inl ⟨by decide,by decide⟩,_,rfl,cK (n:=40) (m:=40) (iR (by omega) (by omega)) (iR (by omega) (by omega)) (by omega) (by omega) ?_⟩;refine⟨_,rfl,_,rfl,cK (n:=40) (m:=40) (iR (by omega) (by omega)) (iR (by omega) (by omega)) (by omega) (by omega) ⟨_,_,rfl,rfl,?_⟩⟩;refine⟨_,rfl,_,_,rfl,rfl,_,_,rfl,rfl,Or.inl ⟨by decide,by decide⟩,_,_,rfl,rfl,_,rfl,_,_,rfl,rfl,by omega,_,_,rfl,rfl,⟨by decide,by decide⟩,_,rfl,_,_,rfl,rfl,m0,?_⟩;exact q _ _ (hf _).1 (hf _).2 (s1.trans s2)
abbrev wO:Stmt:=top 46
theorem uV:aS ["_law_cell","_law_turn","_law_left","_law_k"] ["_law_cell","_law_turn"] (aE wO):=⟨rfl,rfl,rfl,by decide +kernel,rfl,by decide +kernel,by decide +kernel⟩
def Cc:Sp:=fun vs H Q _=>∃c t:Int,vs=[.int c,.int t]/\0<=t/\t<=9/\∀r:Int,-1000000000000<=r->r<=1000000000000->Q (.int r) H
theorem p12:(10:Int) ^ (12:Int).toNat=1000000000000:=by decide
theorem Dr {dV:Value}(F:bS K "_law_far" "_law_far" wO dV f fd)(mr:mg "range"=none) :
  aK P w K mg base CX 1 f fd ["_law_cell","_law_turn"] Cc:=by
 refine F.ok uV (fun vs H Q E h=>?_) (fun cdv A outer s H vs Q E hr h=>?_)
 ·obtain⟨c,t,rfl,h0,h9,q⟩:=h;rfl
 obtain⟨c,t,rfl,h0,h9,q⟩:=h;refine⟨_,(aC (bH (aZ dE (aY eV (pv 0) aB) aB (bC _)) (aC (aT (i:=2) uV.nd rfl (Or.inl rfl) (aY gN (pv 0) aB))
  (aC (dA PassesOwn.never rfl (eM rfl mr (aA aB aD)) (bE (i:=3) uV.nd rfl (Or.inl rfl))
   (aG (aT (i:=2) uV.nd rfl (Or.inl rfl) (aY gN (pv 2) (aY gL aB aB)))))
  (aG (aQ (aY lR (aY eV (pv 2) (aY cX (aY lJ aB (aY gL aB aB)) aB)) (aY gL aB aB)))))) aV)
  (aG (aQ (aY lR (aY eV (aY cJ (aY eV (pv 0) (aY gL aB aB)) (aY cX (aY lJ aB (pv 1)) aB)) (aY cX (aY lJ aB (aY gL aB aB)) aB)) (aY gL aB aB))))),?_⟩
 have fin:∀u:Int,Q (.int (u % (2*10 ^ (12:Int).toNat+1) - 10 ^ (12:Int).toNat)) H:=fun u=>by
  rw[p12];have x1:=Int.emod_nonneg u (show (2*1000000000000+1:Int)≠0 by decide);have x2:=Int.emod_lt_of_pos u (show (0:Int) < 2*1000000000000+1 by decide);exact q _ (by omega) (by omega)
 refine⟨_,rfl,_,_,rfl,rfl,(show (0:Int) < 2 by decide),rfl,_,rfl,pL (fun _=>?_) (fun _=>?_)⟩
 ·refine⟨_,rfl,_,_,rfl,rfl,⟨by decide,by decide⟩,?_⟩;refine⟨_,rfl,by omega,by omega,?_⟩;refine gS (n:=10) (fun i σ H'=>H'=H/\∃u z,σ=[some (.int c),some (.int t),some (.int u),z]) ⟨rfl,_,none,rfl⟩ ?_ ?_
  ·rintro i σ H' hi ⟨rfl,u,z,rfl⟩;exact⟨_,rfl,_,_,rfl,rfl,⟨by decide,by decide,by decide⟩,_,_,rfl,rfl,⟨by decide,by decide⟩,rfl,_,_,rfl⟩
  ·rintro σ H' ⟨rfl,u,z,rfl⟩;exact⟨_,rfl,_,_,rfl,rfl,⟨by decide,by decide,by decide⟩,_,_,rfl,rfl,Or.inl ⟨by decide,by decide⟩,_,_,rfl,rfl,_,_,rfl,rfl,(show (0:Int) < 2*10 ^ (12:Int).toNat+1 by decide),_,_,rfl,rfl,⟨by decide,by decide,by decide⟩,_,_,rfl,rfl,fin u⟩
 ·refine⟨_,rfl,_,_,rfl,rfl,⟨by decide,by decide,by decide⟩,_,_,rfl,rfl,(show (0:Int) < 10 ^ (12:Int).toNat by decide),?_⟩;have x1:=Int.emod_nonneg c (show (10 ^ (12:Int).toNat:Int)≠0 by decide);have x2:=Int.emod_lt_of_pos c (show (0:Int) < 10 ^ (12:Int).toNat by decide);rw[p12] at x1 x2;refine⟨_,rfl,_,_,rfl,rfl,Or.inl ⟨by decide,by decide⟩,_,_,rfl,rfl,cK (n:=40) (m:=40) (iR (by rw[p12];omega) (by rw[p12];omega)) (iR (by omega) (by omega)) (by omega) (by omega) ?_⟩;exact⟨_,_,rfl,rfl,⟨by decide,by decide,by decide⟩,_,_,rfl,rfl,Or.inl ⟨by decide,by decide⟩,_,_,rfl,rfl,_,_,rfl,rfl,(show (0:Int) < 2*10 ^ (12:Int).toNat+1 by decide),_,_,rfl,rfl,⟨by decide,by decide,by decide⟩,_,_,rfl,rfl,fin _⟩
abbrev gR:Stmt:=top 47
theorem jG:aS ["_law_top","_law_bottom","_law_one","_law_other"] ["_law_top","_law_bottom"] (aE gR):=⟨rfl,rfl,rfl,by decide +kernel,rfl,by decide +kernel,by decide +kernel⟩
theorem wT {dV:Value}(F:bS K "_law_lowest" "_law_lowest" gR dV f fd)(b:Bl mg) :
  aK P w K mg base CX 1 f fd ["_law_top","_law_bottom"] jH:=by
 refine F.ok jG (fun vs H Q E h=>?_) (fun cdv A outer s H vs Q E hr h=>?_)
 ·obtain⟨t,b',n,rfl,hb,hB,hn,q⟩:=h;rfl
 obtain⟨t,b',n,rfl,hb,hB,hn,q⟩:=h;refine⟨_,(aC (zF (i:=2) (j:=3) rfl jG.nd rfl rfl (by decide) rfl rfl (aA (bQ lG rfl b.abs PyProof.Rows.boot_abs (aA (pv 0) aD)) (aA (bQ lG rfl b.abs PyProof.Rows.boot_abs (aA (pv 1) aD)) aD)) rfl)
  (aC (kZ PassesOwn.never (aZ kN (pv 3) aB (bC _)) (aG (zF (i:=2) (j:=3) rfl jG.nd rfl rfl (by decide) rfl rfl (aA (pv 3) (aA (aY iS (pv 2) (pv 3)) aD)) rfl)))
  (aC (bH (aZ oG (pv 1) aB (bC _)) (aG (aT (i:=2) jG.nd rfl (Or.inl rfl) (aY lR aB (pv 2)))) aV)
  (aG (aQ (bV (aA (aY jA (pv 0) (pv 2)) (aA (aY jA (pv 1) (pv 2)) aD)))))))),?_⟩
 refine⟨_,rfl,_,rfl,_,rfl,_,rfl,_,_,rfl,?_⟩;have g0:=Mq.Ds t b';have n0:0<=(if t < 0 then -t else t):=by split<;>omega
 have n1:0<=(if b' < 0 then -b' else b'):=by split<;>omega
 generalize (if t < 0 then -t else t)=x' at *
 generalize (if b' < 0 then -b' else b')=y' at *
 have hd:=Mq.jM (t:=t) hb;have hdB:Mq.B n (Mq.dvr t b'):=hB.le (Mq.zL hb);refine qT (fun σ H'=>H'=H/\∃u v,σ=[some (.int t),some (.int b'),some (.int u),some (.int v)]/\Mq.gc u v=Mq.gc t b'/\0<=u/\0<=v) (fun σ _=>match σ with | [_,_,_,some (.int v)]=>v.natAbs | _=>0) ⟨rfl,x',y',rfl,g0,n0,n1⟩ ?_ ?_
 ·rintro σ H' ⟨rfl,u,v,rfl,e,hu,hv0⟩;refine⟨_,rfl,rfl,_,rfl,?_⟩;refine pL (fun c=>?_) (fun c=>?_)
  ·have hv:v≠0:=by intro q;subst q;simp at c
   refine⟨_,rfl,_,rfl,_,rfl,_,_,rfl,rfl,hv,_,_,rfl,⟨rfl,v,Int.fmod u v,rfl,(Mq.vE u v).trans e,hv0,Int.fmod_nonneg_of_pos u (by omega)⟩,Mq.nM hv⟩
  ·have hv:v=0:=by
    simp at c;exact c
   subst hv;have eu:u=Mq.gc t b':=by rw[<- e,Mq.uT,if_neg (by omega)]
   subst eu;refine⟨_,rfl,_,_,rfl,rfl,_,rfl,pL (fun c=>?_) (fun c=>?_)⟩
   ·have hlt:b' < 0:=of_decide_eq_true c;have e:Mq.dvr t b'=0 - Mq.gc t b':=by unfold Mq.dvr;rw[if_pos hlt];omega
    rw[e] at hd hdB;have q':vX H' Q (t.fdiv (0 - Mq.gc t b'),b'.fdiv (0 - Mq.gc t b')):=by
     have z:=q;unfold Mq.red at z;rw[e] at z;exact z
    refine⟨_,rfl,_,_,rfl,rfl,?_⟩;refine⟨_,rfl,_,rfl,dR hd hdB hn ⟨_,rfl,_,rfl,dR hd hdB hn ⟨by show 2<=sizeLine;decide,fun p hp=>?_⟩⟩⟩;exact q' p _ (aH hp _) aF
   ·have hlt:¬b' < 0:=fun z=>c (decide_eq_true z);have e:Mq.dvr t b'=Mq.gc t b':=by unfold Mq.dvr;rw[if_neg hlt]
    rw[e] at hd hdB;have q':vX H' Q (t.fdiv (Mq.gc t b'),b'.fdiv (Mq.gc t b')):=by
     have z:=q;unfold Mq.red at z;rw[e] at z;exact z
    refine⟨_,rfl,_,rfl,dR hd hdB hn ⟨_,rfl,_,rfl,dR hd hdB hn ⟨by show 2<=sizeLine;decide,fun p hp=>?_⟩⟩⟩;exact q' p _ (aH hp _) aF
 ·rintro σ H Q Q' m ⟨v,h1,h2,k,h3,h4⟩;exact⟨v,h1,h2,k,h3,m _ _ h4⟩
abbrev kL:Stmt:=top 48
theorem An:aS ["_law_one","_law_other"] ["_law_one","_law_other"] (aE kL):=⟨rfl,rfl,rfl,by decide +kernel,rfl,by decide +kernel,by decide +kernel⟩
theorem xK {dV:Value}(F:bS K "_law_plus" "_law_plus" kL dV f fd)(G1:aK P w K mg base CX0 1 g1 gd1 ["_law_top","_law_bottom"] jH)(b1:aR K gd1 ["_law_top","_law_bottom"] [])(k1:PySem.W.keepIn K (.ref g1)=true)(m1:mg "_law_lowest"=some (.ref g1)) :
  aK P w K mg base CX 2 f fd ["_law_one","_law_other"] (nV K Mq.dQ):=by
 refine F.ok An (fun vs H Q E h=>?_) (fun cdv A outer s H vs Q E hr h=>?_)
 ·obtain⟨a,b,p,q,n,m,rfl,fa,fb,hp,hq,bp,bq,hnm,z⟩:=h;rfl
 obtain⟨a,b,p,q,n,m,rfl,fa,fb,hp,hq,bp,bq,hnm,z⟩:=h;refine⟨_,(aG (aQ (aI G1 hr rfl m1 k1 b1 .nil aO (aA (aY cX (aY cJ (aL aM (pv 0) aB (fun _ _=>rfl)) (aL aM (pv 1) aB (fun _ _=>rfl))) (aY cJ (aL aM (pv 1) aB (fun _ _=>rfl)) (aL aM (pv 0) aB (fun _ _=>rfl)))) (aA (aY cJ (aL aM (pv 0) aB (fun _ _=>rfl)) (aL aM (pv 1) aB (fun _ _=>rfl))) aD))))),?_⟩;refine dJ rfl fa (cD rfl fb (cK bp.a bq.b (by omega) (by omega) ?_));refine dJ rfl fb (cD rfl fa (cK bq.a bp.b (by omega) (by omega) ⟨_,_,rfl,rfl,?_⟩));refine cD rfl fa (cD rfl fb (cK bp.b bq.b (by omega) (by omega) ?_));exact⟨_,_,n+m,rfl,Mq.lB hp hq,bp.b.mul bq.b,by omega,z⟩
abbrev oF:Stmt:=top 49
theorem xS:aS ["_law_found","_law_due","_law_number"] ["_law_found","_law_due"] (aE oF):=⟨rfl,rfl,rfl,by decide +kernel,rfl,by decide +kernel,by decide +kernel⟩
def pQ (K:PySem.W.Frag):Sp:=fun vs H Q _=>∃(a b:Addr) (p:Mq.Q2),vs=[.ref a,.ref b]/\Fq K H a p/\Fq K H b p/\Q (.bl true) H
theorem Au {dV:Value}(F:bS K "_law_told" "_law_told" oF dV f fd)(b:Bl mg)(ml:mg "len"=none)(mt:mg "tuple"=none) :
  aK P w K mg base CX 1 f fd ["_law_found","_law_due"] (pQ K):=by
 refine F.ok xS (fun vs H Q E h=>?_) (fun cdv A outer s H vs Q E hr h=>?_)
 ·obtain⟨a,d,p,rfl,fa,fd',q⟩:=h;rfl
 obtain⟨a,d,p,rfl,fa,fd',q⟩:=h;have hu:=hr.units;refine⟨_,(aC (bH (PW.pt (cW (cC (bN (cT (i:=0) rfl (Or.inl rfl) b.isi mt rfl rfl PyProof.Rows.boot_tuple))) (cR (aZ kN (bQ bP rfl ml PySem.boot_len (aA (pv 0) aD)) aB (bC _))))) (aG (aQ dG)) aV)
  (aC (dA PassesOwn.never rfl (yI (pv 0)) (bE (i:=2) xS.nd rfl (Or.inl rfl))
   (aG (bH (PW.pt (cW (cC (bN (cT (i:=2) rfl (Or.inl rfl) b.isi b.int rfl rfl PyProof.Rows.boot_int))) (cR (bN (cT (i:=2) rfl (Or.inl rfl) b.isi b.bool rfl rfl PyProof.Rows.boot_bool))))) (aG (aQ dG)) aV)))
  (aG (aQ (dM (iL hu) (pv 0) (pv 1) (bC _)))))),?_⟩
 refine⟨_,_,true,rfl,.tup fa,rfl,_,rfl,bX ⟨_,rfl,a,_,rfl,.inr fa,rfl,_,rfl,bX ?_⟩⟩;refine⟨_,rfl,a,rfl,⟨_,fa⟩,?_⟩;refine uQ (xs:=[.int p.1,.int p.2]) (fun i σ H'=>H'=H/\∃z,σ=[some (.ref a),some (.ref d),z]) ⟨rfl,none,rfl⟩ (fun i σ H' _ h=>by rw[h.1];exact fa) ?_ ?_
 ·rintro i x σ H' hx ⟨rfl,z,rfl⟩;have hint:∃j,x=.int j:=by
   match i,hx with
   |0,h=>exact⟨p.1,by simpa using h.symm⟩
   |1,h=>exact⟨p.2,by simpa using h.symm⟩
   |n+2,h=>simp at h
  obtain⟨j,rfl⟩:=hint;refine⟨_,_,true,rfl,.of (.int j),rfl,_,rfl,bX ⟨_,_,false,rfl,.of (.int j),(by with_unfolding_all rfl),_,rfl,bX ⟨rfl,_,rfl⟩⟩⟩
 ·rintro σ H' ⟨rfl,z,rfl⟩;refine⟨_,rfl,_,rfl,Eo fa fd' ?_⟩;show Q (.bl (decide (p=p))) H';rw[decide_eq_true rfl];exact q
def vB (CN:Addr)(K:PySem.W.Frag):Sp:=fun vs H Q _=>∃(m:Int) (r:Addr) (us:List V) (ds:List RD),vs=[.int m,.ref r]/\1<=m/\m<=20/\SqL K H r us/\Rts K H us ds/\(∀d∈ds,Fe m d)/\ds.length<=40/\∀n l H',bA H H'->H l=none->dB CN K H' n l m ds->Q (.ref n) H'
abbrev kI:Stmt:=top 50
theorem pX:aS ["_law_many","_law_rows_here","_law_net_here","_law_row"] ["_law_many","_law_rows_here"] (aE kI):=⟨rfl,rfl,rfl,by decide +kernel,rfl,by decide +kernel,by decide +kernel⟩
theorem xM {dV:Value}(F:bS K "_law_net" "_law_net" kI dV f fd){CN:Addr}(NTx:NT K mg CN){gAd:Addr}{gdAd:FuncData}(GAd:aK P w K mg base CX0 5 gAd gdAd ["self","row"] (Cg CN K CK))(bAd:aR K gdAd ["self","row"] [])(mAd:gE K CN "add" gAd){gNI:Addr}{gdNI:FuncData}(GNI:aK P w K mg base CX0 2 gNI gdNI ["self","many"] (uS CN))(bNI:aR K gdNI ["self","many"] [])(MN:Mk K CN gNI)(G1:aK P w K mg base CX0 3 g1 gd1 ["told"] (mL K CK))(b1:aR K gd1 ["told"] [])(k1:PySem.W.keepIn K (.ref g1)=true)(m1:mg "row_of"=some (.ref g1)) :
  aK P w K mg base CX 6 f fd ["_law_many","_law_rows_here"] (vB CN K):=by
 refine F.ok pX (fun vs H Q E h=>?_) (fun cdv A outer s H vs Q E hr h=>?_)
 ·obtain⟨m,r,us,ds,rfl,hm1,hm20,hU,hR,hK,h40,q⟩:=h;rfl
 obtain⟨m,r,us,ds,rfl,hm1,hm20,hU,hR,hK,h40,q⟩:=h;have r3:=hr.mono (show 3<=5 by omega);refine⟨_,(aC (aT (i:=2) pX.nd rfl (Or.inl rfl) (kT MN GNI r3 rfl NTx.mN bNI .nil aO (aA (pv 0) aD)))
  (aC (dA PassesOwn.never rfl (cY (pv 1)) (bE (i:=3) pX.nd rfl (Or.inl rfl))
   (aG (cQ (tZ (pv 2) NTx.cl mAd GAd hr bAd .nil aO (aA (aI G1 r3 rfl m1 k1 b1 .nil aO (aA (pv 3) aD)) aD)))))
  (aG (aQ (pv 2))))),?_⟩
 have lus:=hR.length;refine⟨_,rfl,fun n dx h1 h2 ne=>⟨n,dx,m,rfl,aF,hm1,hm20,fun l H2 nl keep hn hl=>⟨rfl,?_⟩⟩⟩;have s2:bA H H2:=fun b o e=>keep b o (by rw[aU (bD e h1),aU (bD e h2)];exact e) (bD e h1);have hl0:H l=none:=by
  cases o:H l with
  |none=>rfl
  |some o'=>
   have:(upd (upd H dx (.own n)) n (.ins CN dx [])) l=some o':=by rw[aU (bD o h1),aU (bD o h2)];exact o
   rw[this] at nl;cases nl
 refine⟨_,rfl,r,rfl,⟨_,s2.seq hU⟩,?_⟩;refine dI (xs:=us) (fun i σ H'=>bA H H'/\dB CN K H' n l m (ds.take i)/\∃z,σ=[some (.int m),some (.ref r),some (.ref n),z]) ⟨s2,⟨⟨dx,hn⟩,[],hl,.nil⟩,none,rfl⟩ (fun i σ H' _ h=>h.1.seq hU) ?_ ?_
 ·rintro i x σ H3 hx ⟨s3,N3,z,rfl⟩;have hi:i < ds.length:=by
   have:=(List.getElem?_eq_some_iff.mp hx).1;omega
  obtain⟨⟨k,u,v,p⟩,hd⟩:∃d,ds[i]?=some d:=⟨_,List.getElem?_eq_getElem hi⟩
  obtain⟨t,z',et,hT,fz⟩:=hR.at hd;have ex:x=.ref t:=by rw[et] at hx;exact(Option.some.inj hx).symm
  subst ex;obtain⟨dn,hn3⟩:=N3.ob;have lt:(ds.take i).length<=ds.length:=by rw[List.length_take];omega
  refine⟨_,rfl,n,dn,_,rfl,hn3,eO _ _ (by decide +kernel) (by decide +kernel),_,rfl,t,_,_,_,_,rfl,s3.seqT hT,k,rfl,fun y H4 s4 ny rw=>?_⟩;refine⟨n,l,y,z',m,ds.take i,k,u,v,p,rfl,N3.same s4,rw,(s3.trans s4).fq fz,hK _ (List.mem_of_getElem? hd),by rw[List.length_take];omega,fun H5 x5 N5=>?_⟩;refine⟨fun b o e=>x5 _ _ ((s3.trans s4) _ _ e) (bD e hl0),?_,_,rfl⟩;rw[List.take_add_one,hd];exact N5
 ·rintro σ H3 ⟨s3,N3,z,rfl⟩;rw[lus,List.take_length] at N3;exact⟨_,rfl,q n l H3 s3 hl0 N3⟩
theorem uM (k:Kd):decide (V.str k.wd=V.str "piece")=decide (k=.pc):=cM k .pc
theorem at4 {r:Int}(h0:0<=r)(h3:r < 4):∃k:Kd,atI [V.str "piece",.str "push",.str "hold",.str "piece"] r=some (.str k.wd):=by
 have:r=0\/r=1\/r=2\/r=3:=by omega
 rcases this with rfl | rfl | rfl | rfl
 ·exact⟨.pc,rfl⟩
 ·exact⟨.pu,rfl⟩
 ·exact⟨.ho,rfl⟩
 ·exact⟨.pc,rfl⟩
theorem Ho (xs:List V):(iF xs (some 4) (some 28)).length<=24:=by
 unfold iF;have h1:HT.sIx xs.length xs.length (some 28)=min 28 xs.length:=by simp[HT.sIx]
 have h2:HT.sIx xs.length 0 (some 4)=min 4 xs.length:=by simp[HT.sIx]
 rw[h1,h2];simp;omega
structure De (m:Nat) (d:RD):Prop where
 r:Fe (m:Int) d
 b:Mq.Bd 44 d.2.2.2
def uA (K:PySem.W.Frag):Sp:=fun vs H Q _=>∃(a:Addr) (ns:List Int) (m:Nat),vs=[.ref a,.int (m:Int)]/\SqL K H a (ns.map V.int)/\ns.length<=63/\1<=m/\
 ∀r us ds H',bA H H'->H r=none->H' r=some (.lst us)->Rts K H' us ds->(∀d∈ds,De m d)->ds.length<=24->Q (.ref r) H'
abbrev jZ:Stmt:=top 51
theorem fK:aS ["_law_script","_law_many","_law_rows_here","_law_cell","_law_word","_law_size"] ["_law_script","_law_many"] (aE jZ):=⟨rfl,rfl,rfl,by decide +kernel,rfl,by decide +kernel,by decide +kernel⟩
theorem wW {dV:Value}(F:bS K "_law_rows" "_law_rows" jZ dV f fd)(G1:aK P w K mg base CX0 1 g1 gd1 ["_law_cell","_law_turn","_law_many"] qI)(b1:aR K gd1 ["_law_cell","_law_turn","_law_many"] [])(k1:PySem.W.keepIn K (.ref g1)=true)(m1:mg "_law_mix"=some (.ref g1))(G2:aK P w K mg base CX0 1 g2 gd2 ["_law_top","_law_bottom"] jH)(b2:aR K gd2 ["_law_top","_law_bottom"] [])(k2:PySem.W.keepIn K (.ref g2)=true)(m2:mg "_law_lowest"=some (.ref g2))(G3:aK P w K mg base CX0 1 g3 gd3 ["_law_cell","_law_turn"] Cc)(b3:aR K gd3 ["_law_cell","_law_turn"] [])(k3:PySem.W.keepIn K (.ref g3)=true)(m3:mg "_law_far"=some (.ref g3)) :
  aK P w K mg base CX 2 f fd ["_law_script","_law_many"] (uA K):=by
 refine F.ok fK (fun vs H Q E h=>?_) (fun cdv A outer s H vs Q E hr h=>?_)
 ·obtain⟨a,ns,m,rfl,hS,h63,hm1,q⟩:=h;rfl
 obtain⟨a,ns,m,rfl,hS,h63,hm1,q⟩:=h;have r1:=hr.mono (show 1<=1 by omega);refine⟨_,(aC (aT (i:=2) fK.nd rfl (Or.inl rfl) (cL aD))
  (aC (dA PassesOwn.never rfl (cY (jF pD (pv 0) (fO aB) (fO aB))) (bE (i:=3) fK.nd rfl (Or.inl rfl))
   (aC (aT (i:=4) fK.nd rfl (Or.inl rfl) (aL bM (cL (aA cN (aA cN (aA cN (aA cN aD))))) (aI G1 r1 rfl m1 k1 b1 .nil aO (aA (pv 3) (aA aB (aA aB aD)))) (fun _ _=>rfl)))
  (aC (aT (i:=5) fK.nd rfl (Or.inl rfl) (aI G2 r1 rfl m2 k2 b2 .nil aO (aA (aY cX aB (aI G1 r1 rfl m1 k1 b1 .nil aO (aA (pv 3) (aA aB (aA aB aD))))) (aA (aY cX aB (aI G1 r1 rfl m1 k1 b1 .nil aO (aA (pv 3) (aA aB (aA aB aD))))) aD))))
  (aC (bH (aZ dE (aI G1 r1 rfl m1 k1 b1 .nil aO (aA (pv 3) (aA aB (aA aB aD)))) aB (bC _)) (aG (aT (i:=5) fK.nd rfl (Or.inl rfl) (bV (aA (aY cX aB (aY eV (aI G3 hr rfl m3 k3 b3 .nil aO (aA (pv 3) (aA aB aD))) (aY gL aB aB))) (aA aB aD))))) aV)
  (aC (bH (aZ kN (pv 4) cN (bC _)) (aG (aT (i:=5) fK.nd rfl (Or.inl rfl) (aI G2 r1 rfl m2 k2 b2 .nil aO (aA (aY lR (aI G1 r1 rfl m1 k1 b1 .nil aO (aA (pv 3) (aA aB (aA aB aD)))) aB) (aA (aY cX aB (aI G1 r1 rfl m1 k1 b1 .nil aO (aA (pv 3) (aA aB (aA aB aD))))) aD))))) aV)
  (aG (cQ (lP PySem.F.plainAttrs_list PySem.F.slot_list_append PySem.F.type_list_append dD (pv 2) (aA (bV (aA (pv 4) (aA (aI G1 r1 rfl m1 k1 b1 .nil aO (aA (pv 3) (aA aB (aA (pv 1) aD)))) (aA (aI G1 r1 rfl m1 k1 b1 .nil aO (aA (pv 3) (aA aB (aA (pv 1) aD)))) (aA (pv 5) aD))))) aD)))))))))
  (aG (aQ (pv 2))))),?_⟩
 refine⟨by show 0<=sizeLine;decide,fun r hr0=>?_⟩;have s1:=aH hr0 (.lst []);have e1:upd H r (.lst []) r=some (.lst []):=aF;generalize upd H r (.lst [])=H1 at s1 e1 ⊢;refine⟨_,rfl,4,rfl,28,rfl,a,_,rfl,s1.seq hS,fun C hC=>?_⟩;have c30:=Ho (ns.map V.int);obtain⟨ms,em,_⟩:=lK ns (some 4) (some 28);rw[em] at c30 ⊢;rw[List.length_map] at c30;have s2:=aH hC (.lst (ms.map V.int));have eC:upd H1 C (.lst (ms.map V.int)) C=some (.lst (ms.map V.int)):=aF;have nCr:C≠r:=Ne.symm (bD e1 hC);have e2:=s2 _ _ e1;generalize upd H1 C (.lst (ms.map V.int))=H2 at s2 eC e2 ⊢;refine⟨C,rfl,⟨_,SqL.of eC⟩,?_⟩;refine dI (xs:=ms.map V.int) (fun n σ H'=>bA H H'/\H' C=some (.lst (ms.map V.int))/\∃(us:List V) (ds:List RD) (z3 z4 z5:Option V),σ=[some (.ref a),some (.int (m:Int)),some (.ref r),z3,z4,z5]/\H' r=some (.lst us)/\Rts K H' us ds/\(∀d∈ds,De m d)/\ds.length=n) ⟨s1.trans s2,eC,[],[],none,none,none,rfl,e2,.nil,(fun d hd=>by cases hd),rfl⟩ (fun n σ H' _ h=>SqL.of h.2.1) ?_ ?_
 ·rintro n x σ H3 hx ⟨s3,eC3,us,ds,z3,z4,z5,rfl,er,hR,hK,hlen⟩;have hn:n < 24:=by
   have:=(List.getElem?_eq_some_iff.mp hx).1;rw[List.length_map] at this;omega
  obtain⟨c,rfl⟩:∃c,x=.int c:=by
   rw[List.getElem?_map] at hx
   cases hm:ms[n]? with
   |none=>rw[hm] at hx;cases hx
   |some c=>rw[hm] at hx;cases hx;exact⟨c,rfl⟩
  have lus:=hR.length;refine⟨by show 4<=sizeLine;decide,fun L hL=>?_⟩;have s4:=aH hL (.lst [V.str "piece",.str "push",.str "hold",.str "piece"]);have e4:upd H3 L (.lst [V.str "piece",.str "push",.str "hold",.str "piece"]) L=some (.lst [V.str "piece",.str "push",.str "hold",.str "piece"]):=aF;generalize upd H3 L (.lst [V.str "piece",.str "push",.str "hold",.str "piece"])=H4 at s4 e4 ⊢;refine⟨_,rfl,c,0,4,rfl,by decide,by decide,by decide,fun y H5 y0 y3 s5=>?_⟩;obtain⟨k,ek⟩:=at4 y0 y3;refine⟨L,_,y,_,rfl,rfl,SqL.of (s5 _ _ e4),ek,?_⟩;have s35:=s4.trans s5
  try dsimp only
  refine Ec (fun σ' H'=>bA H5 H'/\∃(z:Addr) (p:Mq.Q2),σ'=[some (.ref a),some (.int (m:Int)),some (.ref r),some (.int c),some (.str k.wd),some (.ref z)]/\Fq K H' z p/\Mq.Low p/\Mq.Bd 44 p/\(k=.pc->0 < p.1)) (fun X hX=>?_) ?_
  ·refine yV (fun σ' H'=>bA H5 H'/\∃(z:Addr) (p:Mq.Q2),σ'=[some (.ref a),some (.int (m:Int)),some (.ref r),some (.int c),some (.str k.wd),some (.ref z)]/\Fq K H' z p/\Mq.Low p/\Mq.Bd 44 p/\0 < p.1) (fun Y hY=>?_) ?_
   ·refine⟨_,rfl,c,3,12,rfl,by decide,by decide,by decide,fun u H6 u0 u1 s6=>⟨_,_,rfl,rfl,?_⟩⟩;refine⟨_,rfl,c,4,6,rfl,by decide,by decide,by decide,fun b' H7 b0 b1 s7=>⟨_,_,rfl,rfl,?_⟩⟩;have bn:1+b'≠0:=by omega
    have le:=Mq.oZ (t:=1+u) bn;have bT:Mq.B 10 (1+u):=iR (by omega) (by omega);have bB:Mq.B 10 (1+b'):=iR (by omega) (by omega);refine⟨_,_,10,rfl,bn,bB,by omega,fun z H8 s8 e8=>?_⟩;have s58:=s6.trans (s7.trans s8);refine⟨_,rfl,c,5,8,rfl,by decide,by decide,by decide,fun y' H9 y0' y1' s9=>⟨rfl,_,rfl,pL (fun _=>?_) (fun _=>?_)⟩⟩
    ·refine⟨_,rfl,c,1,rfl,by decide,by decide,fun u' v1 v2=>?_⟩;refine⟨_,_,rfl,rfl,⟨by decide,by decide,by decide⟩,_,_,rfl,rfl,(show (0:Int) < 10 ^ (12:Int).toNat by decide),_,_,rfl,rfl,?_⟩;have p12:(10:Int) ^ (12:Int).toNat=1000000000000:=by decide
     have f0:=Int.emod_nonneg u' (show (10 ^ (12:Int).toNat:Int)≠0 by decide);have f9:=Int.emod_lt_of_pos u' (show (0:Int) < 10 ^ (12:Int).toNat by decide);generalize u' % (10 ^ (12:Int).toNat)=v at f0 f9 ⊢;rw[p12] at f9;refine⟨by show 2<=sizeLine;decide,fun z2 hz2=>?_⟩;have sZ:=aH hz2 (.tup [.int (1+v),.int 1]);have eZ:upd H9 z2 (.tup [.int (1+v),.int 1]) z2=some (.tup [.int (1+v),.int 1]):=aF;exact hY _ _ ⟨s58.trans (s9.trans sZ),z2,(1+v,1),rfl,Fq.of eZ,⟨Int.le_refl 1,by unfold Mq.gc;simp⟩,⟨iR (by omega) (by omega),iR (by omega) (by omega)⟩,by show 0 < 1+v;omega⟩
    ·exact hY _ _ ⟨s58.trans s9,z,_,rfl,s9.fq (Fq.of e8),Mq.gQ bn,⟨(bT.le le.1).mono (by omega),(bB.le le.2).mono (by omega)⟩,Mq.uF (by omega) (by omega)⟩
   ·rintro σ6 H6 ⟨s6,z,p,rfl,fz,lp,bp,pp⟩
    by_cases hk:k=.pc
    ·refine⟨_,rfl,rfl,_,rfl,L2.ifF (by show (!decide (V.str k.wd=V.str "piece"))=false;rw[uM,decide_eq_true hk];rfl) ?_⟩;exact hX _ _ ⟨s6,z,p,rfl,fz,lp,bp,fun _=>pp⟩
    ·refine⟨_,rfl,rfl,_,rfl,L2.ifT (by show (!decide (V.str k.wd=V.str "piece"))=true;rw[uM,decide_eq_false hk];rfl) ?_⟩;refine⟨_,rfl,c,3,121,rfl,by decide,by decide,by decide,fun u H7 u0 u1 s7=>⟨_,_,rfl,rfl,?_⟩⟩;refine⟨_,rfl,c,4,12,rfl,by decide,by decide,by decide,fun b' H8 b0 b1 s8=>⟨_,_,rfl,rfl,?_⟩⟩;have bn:1+b'≠0:=by omega
     have le:=Mq.oZ (t:=u - 60) bn;have bT:Mq.B 10 (u - 60):=iR (by omega) (by omega);have bB:Mq.B 10 (1+b'):=iR (by omega) (by omega);exact⟨_,_,10,rfl,bn,bB,by omega,fun z2 H9 s9 e9=>hX _ _ ⟨s6.trans (s7.trans (s8.trans s9)),z2,_,rfl,Fq.of e9,Mq.gQ bn,⟨(bT.le le.1).mono (by omega),(bB.le le.2).mono (by omega)⟩,fun h=>absurd h hk⟩⟩
  rintro σ9 H9 ⟨s9,zz,p',rfl,f9,lp,pb,pk⟩;have s39:=s35.trans s9;have er9:=s39 _ _ er;refine⟨_,rfl,.inl ⟨rfl,_,SqL.of er9⟩,_,rfl,_,rfl,_,rfl,c,1,m,rfl,by decide,by decide,by omega,fun i HA i0 i1 sA=>?_⟩;refine⟨_,rfl,_,rfl,c,2,m,rfl,by decide,by decide,by omega,fun j HB j0 j1 sB=>?_⟩;refine⟨_,rfl,by show 4<=sizeLine;decide,fun t ht=>?_⟩;have s10:=aH ht (.tup [.str k.wd,.int i,.int j,.ref zz]);have et:SqT K (upd HB t (.tup [.str k.wd,.int i,.int j,.ref zz])) t [.str k.wd,.int i,.int j,.ref zz]:=SqT.of aF;generalize upd HB t (.tup [.str k.wd,.int i,.int j,.ref zz])=H10 at s10 et ⊢;have s910:=sA.trans (sB.trans s10);have s310:=s39.trans s910;have er10:=s310 _ _ er;refine⟨r,us,.ref t,rfl,rfl,er10,bF (by omega),?_⟩;refine⟨(s3.trans s310).change hr0,by rw[aU nCr];exact s310 _ _ eC3,us++[.ref t],ds++[(k,i,j,p')],_,_,_,rfl,aF,Rts.upd er10 ((hR.same s310).app (.cons et (s910.fq f9) .nil)),fun d hd=>?_,by rw[List.length_append,hlen];rfl⟩;rcases List.mem_append.mp hd with z | z
  ·exact hK d z
  ·have:d=(k,i,j,p'):=by simpa using z
   rw[this];exact⟨⟨i0,i1,j0,j1,lp,pk,pb.mono (by omega)⟩,pb⟩
 ·rintro σ H3 ⟨s3,_,us,ds,z3,z4,z5,rfl,er,hR,hK,hlen⟩;rw[List.length_map] at hlen;exact⟨_,rfl,q r us ds H3 s3 hr0 er hR hK (by omega)⟩
def Cd (K:PySem.W.Frag):Sp:=fun vs H Q _=>∃(a b c:Addr) (p q s:Mq.Q2),vs=[.ref a,.ref b,.ref c]/\Fq K H a p/\Fq K H b q/\Fq K H c s/\1<=p.2/\1<=q.2/\1<=s.2/\Mq.Bd 2041 p/\Mq.Bd 2041 q/\Mq.Bd 100 s/\Mq.val p<=Mq.val q+Mq.val s/\Q (.bl false) H
theorem xT {p q s:Mq.Q2}(hp:1<=p.2)(hq:1<=q.2)(hs:1<=s.2)(h:Mq.val p<=Mq.val q+Mq.val s):¬((q.1*s.2+s.1*q.2)*p.2 < p.1*q.2*s.2):=by
 intro lt;have c:=(sU (p:=(q.1*s.2+s.1*q.2,q.2*s.2)) (q:=p) (by show 1<=q.2*s.2;have:=Int.mul_pos (show 0 < q.2 by omega) (show 0 < s.2 by omega);omega) hp).mp (by show (q.1*s.2+s.1*q.2)*p.2 < p.1*(q.2*s.2);rw[<- Int.mul_assoc];exact lt);have e:Mq.val (q.1*s.2+s.1*q.2,q.2*s.2)=Mq.val q+Mq.val s:=by
  have a:=Mq.tU hq;have b:=Mq.tU hs;unfold Mq.val;rw[Rat.intCast_add,Rat.intCast_mul,Rat.intCast_mul,Rat.intCast_mul];grind
 rw[e] at c;exact absurd h (Rat.not_le.mpr c)
abbrev vZ:Stmt:=top 52
theorem Ci:aS ["_law_one","_law_other","_law_size","_law_most"] ["_law_one","_law_other","_law_size"] (aE vZ):=⟨rfl,rfl,rfl,by decide +kernel,rfl,by decide +kernel,by decide +kernel⟩
theorem Fb {dV:Value}(F:bS K "_law_over" "_law_over" vZ dV f fd) :
  aK P w K mg base CX 1 f fd ["_law_one","_law_other","_law_size"] (Cd K):=by
 refine F.ok Ci (fun vs H Q E h=>?_) (fun cdv A outer s H vs Q E hr h=>?_)
 ·obtain⟨a,b,c,p,q,s,rfl,ha,hb,hc,p1,q1,s1,bp,bq,bs,le,z⟩:=h;rfl
 obtain⟨a,b,c,p,q,s,rfl,ha,hb,hc,p1,q1,s1,bp,bq,bs,le,z⟩:=h;refine⟨_,(aC (aT (i:=3) Ci.nd rfl (Or.inl rfl) (aY cX (aY cJ (aL aM (pv 1) aB (fun _ _=>rfl)) (aL aM (pv 2) aB (fun _ _=>rfl))) (aY cJ (aL aM (pv 2) aB (fun _ _=>rfl)) (aL aM (pv 1) aB (fun _ _=>rfl)))))
  (aG (aQ (dM zO (aY cJ (aY cJ (aL aM (pv 0) aB (fun _ _=>rfl)) (aL aM (pv 1) aB (fun _ _=>rfl))) (aL aM (pv 2) aB (fun _ _=>rfl))) (aY cJ (pv 3) (aL aM (pv 0) aB (fun _ _=>rfl))) (bC _))))),?_⟩
 refine dJ rfl hb (cD rfl hc (cK bq.a bs.b (by omega) (by omega) (dJ rfl hc (cD rfl hb (cK bs.a bq.b (by omega) (by omega) ⟨_,_,rfl,rfl,?_⟩)))));have bm:Mq.B (2142) (q.1*s.2+s.1*q.2):=((bq.a.mul bs.b).mono (by omega)).add ((bs.a.mul bq.b).mono (by omega));refine dJ rfl ha (cD rfl hb (cK bp.a bq.b (by omega) (by omega) (cD rfl hc (cK (bp.a.mul bq.b) bs.b (by omega) (by omega) ⟨_,rfl,cD rfl ha (cK bm bp.b (by omega) (by omega) ⟨_,_,rfl,rfl,?_⟩)⟩))));show Q (.bl (decide ((q.1*s.2+s.1*q.2)*p.2 < p.1*q.2*s.2))) H;rw[decide_eq_false (xT p1 q1 s1 le)];exact z
def sQ (K:PySem.W.Frag):Sp:=fun vs H Q _=>∃(r t:Addr) (us:List V) (ds:List RD) (i:Nat) (w:Int) (d:RD),vs=[.ref r,.ref t]/\SqL K H r us/\Rts K H us ds/\ds.length<=100/\SqT K H t [.int (i:Int),.int w]/\(w=1\/w=-1)/\ds[i]?=some d/\
 (d.1=.pu->∀H',bA H H'->Q .non H')/\(d.1≠.pu->∀(a z:Addr) H',bA H H'->SqT K H' a [.int (if w=1 then d.2.1 else d.2.2.1),.int (if w=1 then d.2.2.1 else d.2.1),.ref z]->Fq K H' z (cZ d)->Q (.ref a) H')
abbrev oE:Stmt:=top 54
theorem pB:aS ["_law_rows_here","_law_step_here","_law_number","_law_row","_law_size"] ["_law_rows_here","_law_step_here"] (aE oE):=⟨rfl,rfl,rfl,by decide +kernel,rfl,by decide +kernel,by decide +kernel⟩
theorem Ah {dV:Value}(F:bS K "_law_step" "_law_step" oE dV f fd)(ml:mg "len"=none)(b:Bl mg)(mt:mg "tuple"=none) :
  aK P w K mg base CX 1 f fd ["_law_rows_here","_law_step_here"] (sQ K):=by
 refine F.ok pB (fun vs H Q E h=>?_) (fun cdv A outer s H vs Q E hr h=>?_)
 ·obtain⟨r,t,us,ds,i,w,d,rfl,hr0,hR,l100,ht,hw,hd,q1,q2⟩:=h;rfl
 obtain⟨r,t,us,ds,i,w,d,rfl,hr0,hR,l100,ht,hw,hd,q1,q2⟩:=h;refine⟨_,(aC (bH (PW.pt (cW (cC (bN (cT (i:=1) rfl (Or.inl rfl) b.isi mt rfl rfl PyProof.Rows.boot_tuple))) (cR (aZ kN (bQ bP rfl ml PySem.boot_len (aA (pv 1) aD)) aB (bC _))))) (aG (aQ iI)) aV)
  (aC (dA PassesOwn.never rfl (yI (pv 1)) (bE (i:=2) pB.nd rfl (Or.inl rfl))
   (aG (bH (PW.pt (cW (cC (bN (cT (i:=2) rfl (Or.inl rfl) b.isi b.int rfl rfl PyProof.Rows.boot_int))) (cR (bN (cT (i:=2) rfl (Or.inl rfl) b.isi b.bool rfl rfl PyProof.Rows.boot_bool))))) (aG (aQ iI)) aV)))
  (aC (bH (PW.pt (cW (aZ oG (aL aM (pv 1) aB (fun _ _=>rfl)) aB (bC _)) (cW (aZ vC (aL aM (pv 1) aB (fun _ _=>rfl)) (bQ bP rfl ml PySem.boot_len (aA (pv 0) aD)) (bC _)) (cR (aZ pH (aL aM (pv 1) aB (fun _ _=>rfl)) (cL (aA aB (aA (oH kM aB) aD))) rfl))))) (aG (aQ iI)) aV)
  (aC (aT (i:=3) pB.nd rfl (Or.inl rfl) (aL bM (pv 0) (aL aM (pv 1) aB (fun _ _=>rfl)) (fun _ _=>rfl)))
  (aC (bH (aZ dE (aL aM (pv 3) aB (fun _ _=>rfl)) cN (bC _)) (aG (aQ iI)) aV)
  (aC (aT (i:=4) pB.nd rfl (Or.inl rfl) (mG (aZ dE (aL aM (pv 3) aB (fun _ _=>rfl)) cN (bC _)) (aL aM (pv 3) aB (fun _ _=>rfl)) (bV (aA aB (aA aB aD)))))
  (aC (bH (aZ dE (aL aM (pv 1) aB (fun _ _=>rfl)) aB (bC _)) (aG (aQ (bV (aA (aL aM (pv 3) aB (fun _ _=>rfl)) (aA (aL aM (pv 3) aB (fun _ _=>rfl)) (aA (pv 4) aD)))))) aV)
  (aG (aQ (bV (aA (aL aM (pv 3) aB (fun _ _=>rfl)) (aA (aL aM (pv 3) aB (fun _ _=>rfl)) (aA (pv 4) aD))))))))))))),?_⟩
 refine⟨_,_,true,rfl,.tup ht,rfl,_,rfl,bX ⟨_,rfl,t,_,rfl,.inr ht,rfl,_,rfl,bX ?_⟩⟩;refine⟨_,rfl,t,rfl,⟨_,ht⟩,?_⟩;refine uQ (xs:=[.int (i:Int),.int w]) (fun n σ H'=>H'=H/\∃z,σ=[some (.ref r),some (.ref t),z,none,none]) ⟨rfl,none,rfl⟩ (fun n σ H' _ h=>by rw[h.1];exact ht) ?_ ?_
 ·rintro n x σ H' hx ⟨rfl,z,rfl⟩;have hint:∃j,x=.int j:=by
   match n,hx with
   |0,h=>exact⟨(i:Int),by simpa using h.symm⟩
   |1,h=>exact⟨w,by simpa using h.symm⟩
   |n+2,h=>simp at h
  obtain⟨j,rfl⟩:=hint;refine⟨_,_,true,rfl,.of (.int j),rfl,_,rfl,bX ⟨_,_,false,rfl,.of (.int j),(by with_unfolding_all rfl),_,rfl,bX ⟨rfl,_,rfl⟩⟩⟩
 rintro σ H' ⟨rfl,z,rfl⟩;have hi:i < ds.length:=(List.getElem?_eq_some_iff.mp hd).1;have lu:=hR.length;refine⟨_,rfl,t,_,_,_,rfl,rfl,ht,rfl,_,_,rfl,rfl,_,rfl,?_⟩;refine L2.ifF (decide_eq_false (by omega)) ?_;refine⟨_,rfl,t,_,_,_,rfl,rfl,ht,rfl,_,rfl,r,us,rfl,.inl hr0,_,_,rfl,rfl,_,rfl,?_⟩;refine L2.ifF (decide_eq_false (by omega)) ?_;refine⟨_,rfl,t,_,_,_,rfl,rfl,ht,rfl,_,rfl,by show 2<=sizeLine;decide,fun L hL=>?_⟩;have sL:=aH hL (.lst [.int 1,.int (-1)]);have eL:upd H' L (.lst [.int 1,.int (-1)]) L=some (.lst [.int 1,.int (-1)]):=aF;have iv:inV (.int w) [.int 1,.int (-1)]=true:=by
  rcases hw with z | z
  ·subst z;rfl
  ·subst z;rfl
 refine⟨L,[.int 1,.int (-1)],rfl,.inl (SqL.of eL),rfl,rfl,?_⟩;rw[iv];refine⟨_,rfl,bX ?_⟩;generalize upd H' L (.lst [.int 1,.int (-1)])=H1 at sL eL ⊢;have ht1:=sL.seqT ht;obtain⟨y,zr,ey,rr,fz⟩:=(hR.same sL).at hd;obtain⟨k,u,v,p⟩:=d;refine⟨_,rfl,_,rfl,t,_,_,_,rfl,rfl,ht1,rfl,r,us,_,_,rfl,rfl,sL.seq hr0,bO ey,?_⟩;refine⟨_,rfl,y,_,_,_,rfl,rfl,rr,rfl,rfl,_,rfl,?_⟩
 by_cases hk:k=.pu
 ·refine L2.ifT ((cM k .pu).trans (decide_eq_true hk)) ?_;exact q1 hk _ sL
 refine L2.ifF ((cM k .pu).trans (decide_eq_false hk)) ?_;have q2:=q2 hk
 try dsimp only
 refine yV (fun σ' H2=>bA H1 H2/\∃z4:Addr,σ'=[some (.ref r),some (.ref t),z,some (.ref y),some (.ref z4)]/\Fq K H2 z4 (cZ (k,u,v,p))) (fun X hX=>?_) ?_
 ·refine⟨_,rfl,y,_,_,_,rfl,rfl,rr,rfl,rfl,_,rfl,?_⟩
  by_cases hc:k=.pc
  ·refine L2.ifT ((cM k .pc).trans (decide_eq_true hc)) ?_;refine⟨_,rfl,y,_,_,_,rfl,rfl,rr,rfl,?_⟩;exact hX _ _ ⟨bA.refl _,zr,rfl,by unfold cZ;rw[if_pos (show (k,u,v,p).1=.pc from hc)];exact fz⟩
  ·refine L2.ifF ((cM k .pc).trans (decide_eq_false hc)) ?_;refine⟨by show 2<=sizeLine;decide,fun z4 hz4=>?_⟩;exact hX _ _ ⟨aH hz4 _,z4,rfl,by unfold cZ;rw[if_neg (show ¬(k,u,v,p).1=.pc from hc)];exact Fq.of aF⟩
 rintro σ2 H2 ⟨s2,z4,rfl,f4⟩;refine⟨_,rfl,t,_,_,_,rfl,rfl,s2.seqT ht1,rfl,rfl,_,rfl,?_⟩;have rr2:=s2.seqT rr
 by_cases h1:w=1
 ·refine L2.ifT (decide_eq_true (by rw[h1])) ?_;refine⟨_,rfl,y,_,_,_,rfl,rfl,rr2,rfl,_,rfl,y,_,_,_,rfl,rfl,rr2,rfl,_,rfl,by show 3<=sizeLine;decide,fun a9 h9=>?_⟩;refine q2 a9 z4 _ (sL.trans (s2.trans (aH h9 _))) ?_ ((aH h9 _).fq f4);rw[if_pos h1,if_pos h1];exact SqT.of aF
 ·refine L2.ifF (decide_eq_false (fun z=>h1 (by injection z))) ?_;refine⟨_,rfl,y,_,_,_,rfl,rfl,rr2,rfl,_,rfl,y,_,_,_,rfl,rfl,rr2,rfl,_,rfl,by show 3<=sizeLine;decide,fun a9 h9=>?_⟩;refine q2 a9 z4 _ (sL.trans (s2.trans (aH h9 _))) ?_ ((aH h9 _).fq f4);rw[if_neg h1,if_neg h1];exact SqT.of aF
def Ce (CN:Addr)(K:PySem.W.Frag):Sp:=fun vs H Q _=>∃(n l:Addr) (m kb a b:Nat) (ds:List RD),vs=[.ref n,.int (a:Int),.int (b:Int)]/\dB CN K H n l (m:Int) ds/\cV m kb ds/\a < m/\b < m/\(∀S,DjS m kb ds a [] S->b∉eks S)/\∀H',bA H H'->Q (.bl true) H'
abbrev wJ:Stmt:=top 57
theorem Gs:aS ["_law_net_here","_law_point","_law_other"] ["_law_net_here","_law_point","_law_other"] (aE wJ):=⟨rfl,rfl,rfl,by decide +kernel,rfl,by decide +kernel,by decide +kernel⟩
theorem Er {dV:Value}(F:bS K "_law_no_road" "_law_no_road" wJ dV f fd){CN CD:Addr}(mD:mg "NoRoad"=some (.ref CD))(xD:PySem.W.exmOne K (.ref CD) (.ref CD)=some true)(G1:aK P w K mg base (CX1 P w) 6 g1 gd1 ["net","a","b"] (pI CN CD K))(b1:aR K gd1 ["net","a","b"] [])(k1:PySem.W.keepIn K (.ref g1)=true)(m1:mg "least_road"=some (.ref g1)) :
  aK P w K mg base CX 7 f fd ["_law_net_here","_law_point","_law_other"] (Ce CN K):=by
 refine F.ok Gs (fun vs H Q E h=>?_) (fun cdv A outer s H vs Q E hr h=>?_)
 ·obtain⟨n,l,m,kb,a,b,ds,rfl,nt,ok,ha,hb,no,q⟩:=h;rfl
 obtain⟨n,l,m,kb,a,b,ds,rfl,nt,ok,ha,hb,no,q⟩:=h;refine⟨_,(aC (Ed ⟨rfl,rfl,rfl⟩ (xE (xH (zS G1 ⟨rfl,rfl,rfl⟩ hr rfl m1 k1 b1 .nil (aA (pv 0) (aA (pv 1) (aA (pv 2) aD)))))) aV
   (Bk rfl (.inl mD) (fun a=>aG (aQ dG)) yB)) (aG (aQ dG))),?_⟩
 refine⟨_,rfl,_,rfl,_,rfl,n,l,m,kb,a,b,ds,rfl,nt,ok,ha,hb,fun S H1 s1 DJ=>⟨fun e he ke=>absurd (List.mem_map.mpr ⟨e,he,ke⟩) (no S DJ),fun _ x hx=>?_⟩⟩;refine⟨true,xD,dF ?_⟩;exact q _ s1
end
theorem lA {ds:List RD}{st:List Stp}{i:Nat}{w:Int}{d:RD}(h:ds[i]?=some d):lnF ds (st++[(i,w)])=lnF ds st++[cZ d]:=by
 unfold lnF;rw[List.map_append];show _++[match ds[i]? with | some d=>cZ d | none=>(0,1)]=_;rw[h]
theorem Av {m kb a b:Nat}{ds:List RD}{x:Rat}{st:List Stp}(ok:cV m kb ds)(r:Rds ds a b x st):Mq.Low (Mq.tot (lnF ds st))/\Mq.val (Mq.tot (lnF ds st))=x:=by
 have step:∀{st:List Stp} {x:Rat} {i:Nat} {w:Int} {d:RD},ds[i]?=some d->(Mq.Low (Mq.tot (lnF ds st))/\Mq.val (Mq.tot (lnF ds st))=x)->Mq.Low (Mq.tot (lnF ds (st++[(i,w)])))/\Mq.val (Mq.tot (lnF ds (st++[(i,w)])))=x+dX d:=fun {st x i w d} hd ⟨l,v⟩=>by
  obtain⟨lq,_,vq,_⟩:=eB ok (List.mem_of_getElem? hd);rw[lA hd,Mq.mH];exact⟨Mq.gK l.pos lq.pos,by rw[Mq.lI l.pos lq.pos,v,vq]⟩
 induction r with
 |here=>exact⟨Mq.yX,Mq.uB⟩
 |go r hd hk e f ih=>exact step hd ih
 |back r hd hk e f ih=>exact step hd ih
theorem Cz {m kb a n:Nat}{ds:List RD}{e:En}(ok:cV m kb ds)(h:qQ m kb ds a n e):Mq.tot (lnF ds e.2.2)=e.2.1:=by
 obtain⟨l,v⟩:=Av ok h.rd;exact Mq.pY l h.lo v
end K62
set_option maxHeartbeats 1000000
namespace L2
open PySem PySem.Spec PyProof.Rows Shp
def Co (ds:List RD)(s:Stp)(p q:Nat):Prop:=∃d,ds[s.1]?=some d/\d.1≠.pu/\((s.2=1/\d.2.1.toNat=p/\d.2.2.1.toNat=q)\/(s.2=-1/\d.2.2.1.toNat=p/\d.2.1.toNat=q))
structure Mts (ds:List RD) (a b:Nat) (st:List Stp) (vs:List Nat):Prop where
 len:vs.length=st.length+1
 fst:vs[0]?=some a
 lst:vs[st.length]?=some b
 go:∀i s,st[i]?=some s->∃p q,vs[i]?=some p/\vs[i+1]?=some q/\q∉vs.take (i+1)/\Co ds s p q
theorem Mts.snoc {ds:List RD}{a p q:Nat}{st:List Stp}{vs:List Nat}{s:Stp}(h:Mts ds a p st vs)(k:Co ds s p q)(n:q∉vs):Mts ds a q (st++[s]) (vs++[q]):=by
 have l:=h.len;refine⟨by rw[List.length_append,List.length_append,l];rfl,by rw[List.getElem?_append_left (by omega)];exact h.fst,?_,fun i s' hs=>?_⟩
 ·rw[List.length_append,List.getElem?_append_right (by simp only[List.length_cons,List.length_nil];omega)];simp only[List.length_cons,List.length_nil];rw[l,Nat.sub_self];rfl
 ·by_cases c:i < st.length
  ·rw[List.getElem?_append_left c] at hs;obtain⟨p',q',h1,h2,h3,h4⟩:=h.go i s' hs;exact⟨p',q',by rw[List.getElem?_append_left (by omega)];exact h1,by rw[List.getElem?_append_left (by omega)];exact h2,by rw[List.take_append_of_le_length (by omega)];exact h3,h4⟩
  ·have ci:i=st.length:=by
    have:=(List.getElem?_eq_some_iff.mp hs).1;rw[List.length_append] at this;simp only[List.length_cons,List.length_nil] at this;omega
   subst ci;rw[List.getElem?_append_right (Nat.le_refl _),Nat.sub_self] at hs;have hs:s=s':=Option.some.inj hs;subst hs;refine⟨p,q,by rw[List.getElem?_append_left (by omega)];exact h.lst,by rw[List.getElem?_append_right (by omega),l,Nat.sub_self];rfl,?_,k⟩;rw[List.take_append_of_le_length (by omega),List.take_of_length_le (by omega)];exact n
theorem Rdv.mts {ds:List RD}{a b:Nat}{st:List Stp}{vs:List Nat}(h:Rdv ds a b st vs):Mts ds a b st vs:=by
 induction h with
 |here=>exact⟨rfl,rfl,rfl,fun i s h=>by simp at h⟩
 |go r hd hk e f n ih=>exact ih.snoc ⟨_,hd,hk,.inl ⟨rfl,e,f⟩⟩ n
 |back r hd hk e f n ih=>exact ih.snoc ⟨_,hd,hk,.inr ⟨rfl,e,f⟩⟩ n
end L2
set_option maxHeartbeats 4000000
namespace K62
open PySem L2 Shp
section
variable {P:Program} {w:World} {K:PySem.W.Frag} {mg:Str->Option Value} {base:Heap} {f g1 g2 g3 g4 g5 g6 g7 g8:Addr} {fd gd1 gd2 gd3 gd4 gd5 gd6 gd7 gd8:FuncData} {CX:CXT}
variable {CR:Addr} {CK:Kd->Addr} {fW fJ fT fS:Kd->Addr} {fdW fdJ fdT fdS:Kd->FuncData}
theorem Ai (p c:Int):eqV (.int p) (.int c)=decide (p=c):=by unfold eqV;first | rfl | simp
theorem uI (c:Nat):∀ps:List Nat,inV (.int (c:Int)) (ps.map fun (v:Nat)=>V.int (v:Int))=decide (c∈ps)
 | []=>rfl
 |p :: ps=>by
  have ih:=uI c ps;show (eqV (.int (p:Int)) (.int (c:Int)) || inV (.int (c:Int)) (ps.map fun (v:Nat)=>V.int (v:Int)))=_;rw[ih,Ai]
  by_cases h:p=c
  ·subst h;simp
  ·have h':c≠p:=fun z=>h z.symm;have h2:¬(p:Int)=(c:Int):=fun z=>h (by omega);simp[h2,h']
theorem qD:∀ps:List Nat,(ps.map fun (v:Nat)=>V.int (v:Int)).all iM=true
 | []=>rfl
 |p :: ps=>by rw[List.map_cons,List.all_cons,qD ps];rfl
def yE (K:PySem.W.Frag):Sp:=fun vs H Q _=>∃(r ro:Addr) (us ws:List V) (m kb a b:Nat) (ds:List RD) (st:List Stp) (ms:List Nat),vs=[.ref r,.ref ro,.int (a:Int)]/\SqL K H r us/\Rts K H us ds/\cV m kb ds/\H ro=some (.lst ws)/\Sts K H ws st/\Mts ds a b st ms/\st.length<=20/\
 ∀t z H',bA H H'->SqT K H' t [.int (b:Int),.ref z]->Fq K H' z (Mq.tot (lnF ds st))->Q (.ref t) H'
abbrev oP:Stmt:=top 55
theorem jN:aS ["_law_rows_here","_law_road","_law_point","_law_met","_law_found","_law_step_here","_law_gone_here"] ["_law_rows_here","_law_road","_law_point"] (aE oP):=⟨rfl,rfl,rfl,by decide +kernel,rfl,by decide +kernel,by decide +kernel⟩
theorem Ao {dV:Value}(F:bS K "_law_gone" "_law_gone" oP dV f fd)(G1:aK P w K mg base CX0 1 g1 gd1 ["_law_rows_here","_law_step_here"] (sQ K))(b1:aR K gd1 ["_law_rows_here","_law_step_here"] [])(k1:PySem.W.keepIn K (.ref g1)=true)(m1:mg "_law_step"=some (.ref g1))(G2:aK P w K mg base CX0 2 g2 gd2 ["_law_one","_law_other"] (nV K Mq.dQ))(b2:aR K gd2 ["_law_one","_law_other"] [])(k2:PySem.W.keepIn K (.ref g2)=true)(m2:mg "_law_plus"=some (.ref g2)) :
  aK P w K mg base CX 3 f fd ["_law_rows_here","_law_road","_law_point"] (yE K):=by
 refine F.ok jN (fun vs H Q E h=>?_) (fun cdv A outer s H vs Q E hr h=>?_)
 ·obtain⟨r,ro,us,ws,m,kb,a,b,ds,st,ms,rfl,hr0,hR,ok,eo,sw,mt,l20,q⟩:=h;rfl
 obtain⟨r,ro,us,ws,m,kb,a,b,ds,st,ms,rfl,hr0,hR,ok,eo,sw,mt,l20,q⟩:=h;have r1:=hr.mono (show 1<=2 by omega);refine⟨_,(aC (aT (i:=3) jN.nd rfl (Or.inl rfl) (cL (aA (pv 2) aD)))
  (aC (aT (i:=4) jN.nd rfl (Or.inl rfl) (bV (aA aB (aA aB aD))))
  (aC (dA PassesOwn.never rfl (cY (pv 1)) (bE (i:=5) jN.nd rfl (Or.inl rfl))
   (aC (aT (i:=6) jN.nd rfl (Or.inl rfl) (aI G1 r1 rfl m1 k1 b1 .nil aO (aA (pv 0) (aA (pv 5) aD))))
  (aC (bH (PW.pt (cW (dZ (jV (pv 6))) (cW (aZ kN (aL aM (pv 6) aB (fun _ _=>rfl)) (aL bM (pv 3) (oH kM aB) (fun _ _=>rfl)) (bC _)) (cR (aZ vI (aL aM (pv 6) aB (fun _ _=>rfl)) (pv 3) rfl))))) (aG (aQ iI)) aV)
  (aC (cQ (lP PySem.F.plainAttrs_list PySem.F.slot_list_append PySem.F.type_list_append dD (pv 3) (aA (aL aM (pv 6) aB (fun _ _=>rfl)) aD)))
  (aG (aT (i:=4) jN.nd rfl (Or.inl rfl) (aI G2 hr rfl m2 k2 b2 .nil aO (aA (pv 4) (aA (aL aM (pv 6) aB (fun _ _=>rfl)) aD)))))))))
  (aG (aQ (bV (aA (aL bM (pv 3) (oH kM aB) (fun _ _=>rfl)) (aA (pv 4) aD)))))))),?_⟩
 have len:=ok.len;have lms:=mt.len;refine⟨_,rfl,by show 1<=sizeLine;decide,fun D hD=>?_⟩;have s1:=aH hD (.lst [.int (a:Int)]);have e1:upd H D (.lst [.int (a:Int)]) D=some (.lst [.int (a:Int)]):=aF;generalize upd H D (.lst [.int (a:Int)])=H1 at s1 e1 ⊢;refine⟨by show 2<=sizeLine;decide,fun z0 hz0=>?_⟩;have s2:=aH hz0 (.tup [.int 0,.int 1]);have f2:Fq K (upd H1 z0 (.tup [.int 0,.int 1])) z0 (0,1):=Fq.of aF;generalize upd H1 z0 (.tup [.int 0,.int 1])=H2 at s2 f2 ⊢;have nD:ro≠D:=bD eo hD;have t1:ms.take 1=[a]:=by rw[List.take_one,List.head?_eq_getElem?,mt.fst];rfl
 refine⟨_,rfl,ro,rfl,⟨_,SqL.of ((s1.trans s2) _ _ eo)⟩,?_⟩;refine dI (xs:=ws) (fun i σ H'=>bA H H'/\∃(z4:Addr) (z5 z6:Option V),σ=[some (.ref r),some (.ref ro),some (.int (a:Int)),some (.ref D),some (.ref z4),z5,z6]/\H' D=some (.lst ((ms.take (i+1)).map fun (v:Nat)=>V.int (v:Int)))/\Fq K H' z4 (Mq.tot (lnF ds (st.take i)))) ⟨s1.trans s2,z0,none,none,rfl,by rw[t1];exact s2 _ _ e1,f2⟩ (fun i σ H' _ h=>SqL.of (h.1 _ _ eo)) ?_ ?_
 ·rintro i x σ H3 hx ⟨s3,z4,z5,z6,rfl,eD,f4⟩;obtain⟨t,s',rfl,hs,ht⟩:=(sw.same s3).get hx;obtain⟨p,q',hp,hq,nq,d,hd,hk,wy⟩:=mt.go i s' hs;have hi:i < st.length:=(List.getElem?_eq_some_iff.mp hs).1;refine⟨_,rfl,_,rfl,r,t,us,ds,s'.1,s'.2,d,rfl,s3.seq hr0,hR.same s3,len,ht,(wy.imp (·.1) (·.1)),hd,fun h=>absurd h hk,fun _ g z H4 s4 hg fz=>?_⟩;have hg':SqT K H4 g [.int (p:Int),.int (q':Int),.ref z]:=by
   obtain⟨p0,p1,p2,p3⟩:=ok.pt d (List.mem_of_getElem? hd);rcases wy with ⟨w1,w2,w3⟩ | ⟨w1,w2,w3⟩
   ·rw[if_pos w1,if_pos w1,show d.2.1=(p:Int) by omega,show d.2.2.1=(q':Int) by omega] at hg;exact hg
   ·have n1:¬s'.2=1:=by rw[w1];decide
    rw[if_neg n1,if_neg n1,show d.2.1=(q':Int) by omega,show d.2.2.1=(p:Int) by omega] at hg;exact hg
  have eD4:=s4 _ _ eD;refine⟨_,rfl,_,rfl,L2.ifF (decide_eq_false (fun z=>by cases z)) ?_⟩;refine⟨_,rfl,g,_,_,_,rfl,rfl,hg',rfl,_,rfl,?_⟩;have tk:ms.take (i+1)=ms.take i++[p]:=by rw[List.take_add_one,hp];rfl
  have eL:atI ((ms.take (i+1)).map fun (v:Nat)=>V.int (v:Int)) (-1)=some (.int (p:Int)):=by
   rw[tk,List.map_append];exact qY _ _
  refine⟨1,rfl,D,_,_,_,rfl,rfl,SqL.of eD4,eL,rfl,_,rfl,L2.ifF (by simp) ?_⟩;have iv:=uI q' (ms.take (i+1));rw[decide_eq_false nq] at iv;refine⟨_,rfl,g,_,_,_,rfl,rfl,hg',rfl,_,rfl,D,_,rfl,.inl (SqL.of eD4),rfl,qD _,?_⟩;rw[iv];refine⟨_,rfl,L2.ifF rfl ?_⟩;refine⟨_,rfl,.inl ⟨rfl,_,SqL.of eD4⟩,_,rfl,g,_,_,_,rfl,rfl,hg',rfl,D,_,_,rfl,rfl,eD4,bF (by rw[List.length_map,List.length_take];omega),?_⟩;have lt:=List.length_take_le i st;obtain⟨po,wt⟩:=rR ok (st.take i);obtain⟨lq,bq,_,_⟩:=eB ok (List.mem_of_getElem? hd);have k100:=ok.k100;have wl:(kb+1)*(st.take i).length<=2020:=Nat.le_trans (Nat.mul_le_mul (show kb+1<=101 by omega) (show (st.take i).length<=20 by omega)) (by decide);have sD:bU D H4 (upd H4 D (.lst ((ms.take (i+1)).map (fun (v:Nat)=>V.int (v:Int))++[.int (q':Int)]))):=bU.write (bA.refl _).x;have hg5:=sD.seqT eD4 hg';have fz5:=sD.seqT eD4 fz;have f45:=sD.seqT eD4 (s4.fq f4);have eD5:upd H4 D (.lst ((ms.take (i+1)).map (fun (v:Nat)=>V.int (v:Int))++[.int (q':Int)])) D=some (.lst ((ms.take (i+2)).map fun (v:Nat)=>V.int (v:Int))):=by
   rw[aF,List.take_add_one (i:=i+1),hq,List.map_append];rfl
  have s5:bA H (upd H4 D (.lst ((ms.take (i+1)).map (fun (v:Nat)=>V.int (v:Int))++[.int (q':Int)]))):=(s3.trans s4).change hD;generalize upd H4 D (.lst ((ms.take (i+1)).map (fun (v:Nat)=>V.int (v:Int))++[.int (q':Int)]))=H5 at hg5 fz5 f45 eD5 s5 ⊢;refine⟨_,rfl,_,rfl,g,_,_,_,rfl,rfl,hg5,rfl,_,_,_,_,2021,kb,rfl,f45,fz5,(Mq.pR po).pos,lq.pos,(wt.tot po).mono (by omega),bq,by omega,fun z9 H6 s6 e6=>?_⟩;have ts:st.take (i+1)=st.take i++[(s'.1,s'.2)]:=by rw[List.take_add_one,hs];rfl
  exact⟨s5.trans s6,z9,_,_,rfl,s6 _ _ eD5,by rw[ts,lA hd,Mq.mH];exact Fq.of e6⟩
 ·rintro σ H3 ⟨s3,z4,z5,z6,rfl,eD,f4⟩;rw[sw.length,List.take_length] at f4;have tk:ms.take (st.length+1)=ms.take st.length++[b]:=by rw[List.take_add_one,mt.lst];rfl
  have eL:atI ((ms.take (ws.length+1)).map fun (v:Nat)=>V.int (v:Int)) (-1)=some (.int (b:Int)):=by
   rw[sw.length,tk,List.map_append];exact qY _ _
  refine⟨_,rfl,1,rfl,D,_,_,_,rfl,rfl,SqL.of eD,eL,_,rfl,by show 2<=sizeLine;decide,fun t ht=>?_⟩;exact q t z4 _ (s3.trans (aH ht _)) (SqT.of aF) ((aH ht _).fq f4)
theorem Fg:(["_law_one"]:List Str).Nodup:=by decide +kernel
theorem xJ {m kb a:Nat}{ds:List RD}{S:List En}(j:DjS m kb ds a [] S)(ok:cV m kb ds){p:Nat}{x:Mq.Q2}(h:dsO S p=some x):1<=x.2/\Mq.Bd 2041 x:=by
 obtain⟨e,he,_,ex⟩:=gB h;have o:=j.ok he;have l:=pK j;have m20:=ok.m20;have k100:=ok.k100;rw[<- ex];refine⟨o.lo.pos,o.bd.mono ?_⟩;have:=Nat.mul_le_mul (show kb+2<=102 by omega) (show e.2.2.length<=20 by have:=o.st;omega);omega
theorem iG {m:Nat}{S:List En}{H:Hp}{zs:List V}{K:PySem.W.Frag}(h:Oqs K H zs ((List.range m).map (dsO S))){p:Nat}(hp:p < m):(dsO S p=none/\zs[p]?=some .non)\/∃a x,dsO S p=some x/\zs[p]?=some (.ref a)/\Fq K H a x:=
 h.at (i:=p) (by rw[List.getElem?_map,List.getElem?_range hp];rfl)
def Cf (K:PySem.W.Frag):Sp:=fun vs H Q _=>∃(r t:Addr) (us zs:List V) (m kb a:Nat) (ds:List RD) (S:List En),vs=[.ref r,.ref t,.int (m:Int),.int (a:Int)]/\SqL K H r us/\Rts K H us ds/\cV m kb ds/\H t=some (.lst zs)/\Oqs K H zs ((List.range m).map (dsO S))/\DjS m kb ds a [] S/\a < m/\∀H',bA H H'->Q (.bl true) H'
abbrev vU:Stmt:=top 53
theorem nC:aS ["_law_rows_here","_law_told_here","_law_many","_law_point","_law_word","_law_start","_law_goal","_law_size"] ["_law_rows_here","_law_told_here","_law_many","_law_point"] (aE vU):=⟨rfl,rfl,rfl,by decide +kernel,rfl,by decide +kernel,by decide +kernel⟩
theorem Ez {dV:Value}(F:bS K "_law_priced" "_law_priced" vU dV f fd)(ml:mg "len"=none)(b:Bl mg)(mli:mg "list"=none)(ma:mg "all"=none)(G1:aK P w K mg base CX0 1 g1 gd1 ["_law_found","_law_due"] (pQ K))(b1:aR K gd1 ["_law_found","_law_due"] [])(k1:PySem.W.keepIn K (.ref g1)=true)(m1:mg "_law_told"=some (.ref g1))(G2:aK P w K mg base CX0 1 g2 gd2 ["_law_one","_law_other","_law_size"] (Cd K))(b2:aR K gd2 ["_law_one","_law_other","_law_size"] [])(k2:PySem.W.keepIn K (.ref g2)=true)(m2:mg "_law_over"=some (.ref g2)) :
  aK P w K mg base CX 2 f fd ["_law_rows_here","_law_told_here","_law_many","_law_point"] (Cf K):=by
 refine F.ok nC (fun vs H Q E h=>?_) (fun cdv A outer s H vs Q E hr h=>?_)
 ·obtain⟨r,t,us,zs,m,kb,a,ds,S,rfl,hr0,hR,ok,et,FP,DJ,ha,q⟩:=h;rfl
 obtain⟨r,t,us,zs,m,kb,a,ds,S,rfl,hr0,hR,ok,et,FP,DJ,ha,q⟩:=h;have r1:=hr;refine⟨_,(aC (bH (PW.pt (cW (cC (bN (cT (i:=1) rfl (Or.inl rfl) b.isi mli rfl rfl PyProof.Rows.boot_list))) (cW (aZ kN (bQ bP rfl ml PySem.boot_len (aA (pv 1) aD)) (pv 2) (bC _)) (cR (cC (bN (aI G1 r1 rfl m1 k1 b1 .nil aO (aA (aL bM (pv 1) (pv 3) (fun _ _=>rfl)) (aA (bV (aA aB (aA aB aD))) aD))))))))) (aG (aQ dG)) aV)
  (aC (dA PassesOwn.never rfl (cY (pv 0)) (jP rfl (cI (bE (i:=4) nC.nd rfl (Or.inl rfl)) (cI (bE (i:=5) nC.nd rfl (Or.inl rfl)) (cI (bE (i:=6) nC.nd rfl (Or.inl rfl)) (cI (bE (i:=7) nC.nd rfl (Or.inl rfl)) gV)))))
   (aC (bH (aZ dE (pv 4) cN (bC _)) (aG gJ) aV)
  (aC (bH (PW.pt (cW (dZ (jV (aL bM (pv 1) (pv 5) (fun _ _=>rfl)))) (cR (dZ (jV (aL bM (pv 1) (pv 6) (fun _ _=>rfl))))))) (aC (bH (PW.pt (cW (dZ (pA (aL bM (pv 1) (pv 5) (fun _ _=>rfl)))) (cR (dZ (pA (aL bM (pv 1) (pv 6) (fun _ _=>rfl))))))) (aG (aQ dG)) aV)
  (aG gJ)) aV)
  (aC (bH (aZ dE (pv 4) cN (bC _)) (aG (aT (i:=7) nC.nd rfl (Or.inl rfl) (bV (aA aB (aA aB aD))))) aV)
  (aG (bH (PW.pt (cW (bN (aI G2 r1 rfl m2 k2 b2 .nil aO (aA (aL bM (pv 1) (pv 5) (fun _ _=>rfl)) (aA (aL bM (pv 1) (pv 6) (fun _ _=>rfl)) (aA (pv 7) aD))))) (cR (bN (aI G2 r1 rfl m2 k2 b2 .nil aO (aA (aL bM (pv 1) (pv 6) (fun _ _=>rfl)) (aA (aL bM (pv 1) (pv 5) (fun _ _=>rfl)) (aA (pv 7) aD)))))))) (aG (aQ dG)) aV))))))
  (aG (aQ (bQ (qR rfl) rfl ma PyProof.Rows.boot_all (aA (iY (nl:=1) (fr:=[]) (Nc:=["_law_one"]) (cl:=[]) rfl ⟨rfl,rfl,by decide +kernel,by decide +kernel,fun x c h=>(by cases h),iH rfl,rfl,fun i n h=>(by simp at h)⟩
    (cY (pv 1)) (fun C s3 H3 fp pins=>(bE (i:=0) Fg rfl (Or.inl rfl))) (fun C s3 H3 fp pins=>iX)
    (fun C s3 H3 fp pins=>(Hq (Ej (jV (pv 0))) (jU (aI G1 r1 rfl m1 k1 b1 .nil aO (aA (pv 0) (aA (pv 0) aD))))))) aD)))))),?_⟩
 have m20:=ok.m20;have lz:=FP.length;rw[List.length_map,List.length_range] at lz;refine⟨_,_,true,rfl,.lst (SqL.of et),rfl,_,rfl,bX ⟨_,rfl,t,_,rfl,.inl (SqL.of et),_,rfl,rfl,_,rfl,L2.ifF (by rw[lz];simp) ?_⟩⟩;obtain⟨w,w1⟩ | ⟨a0,x0,ex0,ez0,f0⟩:=iG FP ha
 ·rw[DJ.selfO] at w;cases w
 rw[DJ.selfO] at ex0;have ex0:(0,1)=x0:=Option.some.inj ex0;subst ex0;refine⟨_,rfl,_,rfl,t,zs,_,_,rfl,rfl,SqL.of et,bO ez0,?_⟩;refine⟨by show 2<=sizeLine;decide,fun b0 hb0=>?_⟩;have s1:=aH hb0 (.tup [.int 0,.int 1]);have f1:Fq K (upd H b0 (.tup [.int 0,.int 1])) b0 (0,1):=Fq.of aF;generalize upd H b0 (.tup [.int 0,.int 1])=H1 at s1 f1 ⊢;refine⟨a0,b0,_,rfl,s1.fq f0,f1,_,rfl,bX ?_⟩;have e1:=s1 _ _ et;refine yV (fun σ' H'=>bA H H'/\∃z4 z5 z6 z7:Option V,σ'=[some (.ref r),some (.ref t),some (.int (m:Int)),some (.int (a:Int)),z4,z5,z6,z7]) (fun X hX=>?_) ?_
 ·refine⟨_,rfl,r,rfl,⟨_,s1.seq hr0⟩,?_⟩;refine dI (xs:=us) (fun i σ H'=>bA H H'/\∃z4 z5 z6 z7:Option V,σ=[some (.ref r),some (.ref t),some (.int (m:Int)),some (.int (a:Int)),z4,z5,z6,z7]) ⟨s1,_,_,_,_,rfl⟩ (fun i σ H' _ h=>h.1.seq hr0) ?_ (fun σ H' h=>hX _ _ h);rintro i x σ H2 hx ⟨s2,z4,z5,z6,z7,rfl⟩;have il:i < ds.length:=by have:=(List.getElem?_eq_some_iff.mp hx).1;have:=hR.length;omega
  obtain⟨⟨k,u,v,p⟩,hd⟩:∃d,ds[i]?=some d:=⟨_,List.getElem?_eq_getElem il⟩
  obtain⟨y,zr,ey,hy,hz⟩:=(hR.same s2).at hd;rw[hx] at ey
  cases ey
  have md:=List.mem_of_getElem? hd;obtain⟨u0,u1,v0,v1⟩:=ok.pt _ md;have u0:0<=u:=u0;have v0:0<=v:=v0;have u1:u < (m:Int):=u1;have v1:v < (m:Int):=v1;obtain⟨un,rfl⟩:∃n:Nat,u=(n:Int):=⟨u.toNat,by omega⟩
  obtain⟨vn,rfl⟩:∃n:Nat,v=(n:Int):=⟨v.toNat,by omega⟩
  refine⟨y,_,rfl,hy,rfl,_,_,rfl,_,_,rfl,_,_,rfl,_,_,rfl,rfl,?_⟩;have e2:=s2 _ _ et;have FP2:=FP.same s2
  by_cases hk:k=.pu
  ·refine⟨_,rfl,rfl,_,rfl,L2.ifT ((cM k .pu).trans (decide_eq_true hk)) ?_⟩;exact⟨s2,_,_,_,_,rfl⟩
  refine⟨_,rfl,rfl,_,rfl,L2.ifF ((cM k .pu).trans (decide_eq_false hk)) ?_⟩;rcases DJ.row md hk with ⟨nu,nv⟩ | ⟨x,y',xu,xv,le1,le2⟩
  ·have hu:zs[un]?=some .non:=by
    rcases iG FP2 (show un < m by omega) with ⟨_,h⟩ | ⟨_,_,h,_⟩
    ·exact h
    ·exact absurd (nu.symm.trans h) (fun z=>by cases z)
   have hv:zs[vn]?=some .non:=by
    rcases iG FP2 (show vn < m by omega) with ⟨_,h⟩ | ⟨_,_,h,_⟩
    ·exact h
    ·exact absurd (nv.symm.trans h) (fun z=>by cases z)
   refine⟨_,rfl,_,rfl,t,zs,_,_,rfl,rfl,SqL.of e2,bO hu,_,rfl,L2.ifT (decide_eq_true rfl) (L2.ifT rfl ?_)⟩;refine⟨_,rfl,_,rfl,t,zs,_,_,rfl,rfl,SqL.of e2,bO hu,_,rfl,L2.ifF rfl ?_⟩;refine⟨_,rfl,_,rfl,t,zs,_,_,rfl,rfl,SqL.of e2,bO hv,_,rfl,L2.ifF rfl ?_⟩;exact⟨s2,_,_,_,_,rfl⟩
  obtain⟨au,hu,fu⟩:∃au,zs[un]?=some (.ref au)/\Fq K H2 au x:=by
   rcases iG FP2 (show un < m by omega) with ⟨h,_⟩ | ⟨au,x',h,hz,f⟩
   ·exact absurd (xu.symm.trans h) (fun z=>by cases z)
   ·have:x=x':=Option.some.inj (xu.symm.trans h);subst this;exact⟨au,hz,f⟩
  obtain⟨av,hv,fv⟩:∃av,zs[vn]?=some (.ref av)/\Fq K H2 av y':=by
   rcases iG FP2 (show vn < m by omega) with ⟨h,_⟩ | ⟨av,x',h,hz,f⟩
   ·exact absurd (xv.symm.trans h) (fun z=>by cases z)
   ·have:y'=x':=Option.some.inj (xv.symm.trans h);subst this;exact⟨av,hz,f⟩
  refine⟨_,rfl,_,rfl,t,zs,_,_,rfl,rfl,SqL.of e2,bO hu,_,rfl,L2.ifF (decide_eq_false (fun z=>by cases z)) ?_⟩;refine⟨_,rfl,_,rfl,t,zs,_,_,rfl,rfl,SqL.of e2,bO hv,_,rfl,L2.ifF (decide_eq_false (fun z=>by cases z)) ?_⟩;obtain⟨x1,bx⟩:=xJ DJ ok xu;obtain⟨y1,by'⟩:=xJ DJ ok xv;obtain⟨lq,bq,vq,_⟩:=eB ok md;have k100:=ok.k100
  try dsimp only
  refine yV (fun σ' H'=>bA H2 H'/\∃z:Addr,σ'=[some (.ref r),some (.ref t),some (.int (m:Int)),some (.int (a:Int)),some (.str k.wd),some (.int (un:Int)),some (.int (vn:Int)),some (.ref z)]/\Fq K H' z (cZ (k,(un:Int),(vn:Int),p))) (fun X2 hX2=>?_) ?_
  ·by_cases hc:k=.ho
   ·refine⟨_,rfl,rfl,_,rfl,L2.ifT ((cM k .ho).trans (decide_eq_true hc)) ?_⟩;refine⟨by show 2<=sizeLine;decide,fun z hz=>?_⟩;exact hX2 _ _ ⟨aH hz _,z,rfl,by unfold cZ;rw[if_neg (show ¬(k,(un:Int),(vn:Int),p).1=.pc by show ¬k=.pc;rw[hc];decide)];exact Fq.of aF⟩
   ·refine⟨_,rfl,rfl,_,rfl,L2.ifF ((cM k .ho).trans (decide_eq_false hc)) ?_⟩;have hp:k=.pc:=by cases k<;>first | rfl | exact absurd rfl hk | exact absurd rfl hc
    exact hX2 _ _ ⟨bA.refl _,zr,rfl,by unfold cZ;rw[if_pos (show (k,(un:Int),(vn:Int),p).1=.pc from hp)];exact hz⟩
  rintro σ3 H3 ⟨s3,z,rfl,fz⟩;have e3:=s3 _ _ e2;refine⟨_,rfl,_,rfl,t,zs,_,_,rfl,rfl,SqL.of e3,bO hu,_,rfl,_,rfl,t,zs,_,_,rfl,rfl,SqL.of e3,bO hv,_,rfl,au,av,z,_,_,_,rfl,s3.fq fu,s3.fq fv,fz,x1,y1,lq.pos,bx,by',bq.mono (by omega),by rw[vq];exact le2,_,rfl,L2.ifF rfl ?_⟩;refine⟨_,rfl,_,rfl,t,zs,_,_,rfl,rfl,SqL.of e3,bO hv,_,rfl,_,rfl,t,zs,_,_,rfl,rfl,SqL.of e3,bO hu,_,rfl,av,au,z,_,_,_,rfl,s3.fq fv,s3.fq fu,fz,y1,x1,lq.pos,by',bx,bq.mono (by omega),by rw[vq];exact le1,_,rfl,L2.ifF rfl ?_⟩;exact⟨s2.trans s3,_,_,_,_,rfl⟩
 rintro σ9 H9 ⟨s9,z4,z5,z6,z7,rfl⟩;have e9:=s9 _ _ et;refine⟨_,rfl,t,rfl,⟨_,SqL.of e9⟩,fun D hD=>?_⟩;have sD:=aH hD (.lst []);refine gW (xs:=zs) (fun k bs H'=>bA H9 H'/\H' D=some (.lst bs)/\bs=(List.replicate k true).map V.bl) ⟨sD,aF,rfl⟩ (fun k bs H' h=>h.2.1) (fun k bs H' _ h=>SqL.of (h.1 _ _ e9)) ?_ ?_
 ·rintro k bs x H1' hx ⟨sk,e1',rfl⟩ C hC;have hk:k < m:=by have:=(List.getElem?_eq_some_iff.mp hx).1;omega
  refine⟨hZ.1,hZ.2,dF ?_⟩;have fin:∀H2,bA H1' H2->bA H9 (upd H2 D (.lst ((List.replicate k true).map V.bl++[.bl true])))/\upd H2 D (.lst ((List.replicate k true).map V.bl++[.bl true])) D=some (.lst ((List.replicate k true).map V.bl++[.bl true]))/\(List.replicate k true).map V.bl++[.bl true]=(List.replicate (k+1) true).map V.bl:=fun H2 s2=>⟨(sk.trans s2).change hD,aF,by rw[List.replicate_succ',List.map_append];rfl⟩
  rcases iG (FP.same (s9.trans sk)) hk with ⟨_,h⟩ | ⟨a2,x2,_,h,f2⟩
  ·rw[hx] at h;cases h;refine⟨_,rfl,_,rfl,L2.ifT (decide_eq_true rfl) ⟨e1',bF (by rw[List.length_map,List.length_replicate];omega),hC _ _ (fin _ (bA.refl _))⟩⟩
  ·rw[hx] at h;cases h;refine⟨_,rfl,_,rfl,L2.ifF (decide_eq_false (fun z=>by cases z)) ?_⟩;refine⟨_,rfl,_,rfl,a2,a2,x2,rfl,f2,f2,e1',bF (by rw[List.length_map,List.length_replicate];omega),hC _ _ (fin _ (bA.refl _))⟩
 ·rintro bs H1' ⟨sk,e1',rfl⟩;refine⟨D,_,rfl,SqL.of e1',?_⟩;have al:(List.replicate zs.length true).all id=true:=by simp
  show Q (.bl ((List.replicate zs.length true).all id)) _;rw[al];exact q _ (s9.trans sk)
def mS (K:PySem.W.Frag)(H:Hp)(ds:List RD)(x:V):Prop:=∃(t a g z:Addr) (i:Nat) (w u v:Int) (d:RD),x=.ref t/\SqT K H t [.ref a,.ref g]/\SqT K H a [.int (i:Int),.int w]/\ds[i]?=some d/\SqT K H g [.int u,.int v,.ref z]/\Fq K H z (cZ d)
theorem mS.same {K:PySem.W.Frag}{H H':Hp}{ds:List RD}{x:V}(e:bA H H')(h:mS K H ds x):mS K H' ds x:=by
 obtain⟨t,a,g,z,i,w,u,v,d,h0,h1,h2,h3,h4,h5⟩:=h;exact⟨t,a,g,z,i,w,u,v,d,h0,e.seqT h1,e.seqT h2,h3,e.seqT h4,e.fq h5⟩
theorem mS.upd {K:PySem.W.Frag}{H:Hp}{ds:List RD}{x:V}{l:Addr}{ys:List V}{o:HO}(hl:H l=some (.lst ys))(h:mS K H ds x):mS K (L2.upd H l o) ds x:=by
 obtain⟨t,a,g,z,i,w,u,v,d,h0,h1,h2,h3,h4,h5⟩:=h;exact⟨t,a,g,z,i,w,u,v,d,h0,h1.upd hl,h2.upd hl,h3,h4.upd hl,h5.upd hl⟩
theorem xF {K:PySem.W.Frag}{H:Hp}{ds:List RD}:∀{xs:List V},(∀x∈xs,mS K H ds x)->∃ps,iN K H xs ps/\PyData.canLayAll0 ps=true/\ps.isEmpty=xs.isEmpty
 | [],_=>⟨[],.nil,rfl,rfl⟩
 |x :: xs,h=>by
  obtain⟨ps,d1,d2,_⟩:=xF (fun y hy=>h y (List.mem_cons_of_mem _ hy));obtain⟨t,a,g,z,i,w,u,v,d,rfl,h1,h2,h3,h4,h5⟩:=h x List.mem_cons_self;refine⟨_ :: ps,.cons (.tup h1 (.cons (.tup h2 (.cons (.int _) (.cons (.int _) .nil))) (.cons (.tup h4 (.cons (.int _) (.cons (.int _) (.cons h5.dat .nil)))) .nil))) d1,?_,rfl⟩;have l:=mF (cZ d);simp[PyData.canLayAll0,PyData.canLay0,d2,l]
theorem wU {K:PySem.W.Frag}{H:Hp}{a b:Addr}{us:List V}{ds:List RD}{Q:VK}(h1:SqL K H a us)(hR:∀x∈us,mS K H ds x)(h2:SqL K H b [])(z:Q (.bl us.isEmpty) H):pU K false (.ref a) (.ref b) H Q:=by
 obtain⟨ps,d1,d2,d3⟩:=xF hR;refine⟨_,_,.lst h1 d1,.lst h2 .nil,d2,rfl,?_,?_⟩
 ·have:(PyData.list []).depth<=1:=by decide
  omega
 ·rw[<- d3] at z
  cases ps<;>exact z
structure WnI (K:PySem.W.Frag) (H:Hp) (ds:List RD) (R L z:Addr) (st:List Stp) (n:Nat) (H':Hp):Prop where
 s:bA H H'
 rd:∃ws,H' R=some (.lst ws)/\Sts K H' ws st
 f:Fq K H' z (Mq.tot (lnF ds st))
 so:∃xs,H' L=some (.lst xs)/\(∀x∈xs,mS K H' ds x)/\xs.length<=n
theorem WnI.same {K:PySem.W.Frag}{H H' H2:Hp}{ds:List RD}{R L z:Addr}{st:List Stp}{n:Nat}(h:WnI K H ds R L z st n H')(e:bA H' H2):WnI K H ds R L z st n H2:=by
 obtain⟨s,⟨ws,e1,e2⟩,f,⟨xs,x1,x2,x3⟩⟩:=h;exact⟨s.trans e,⟨ws,e _ _ e1,e2.same e⟩,e.fq f,⟨xs,e _ _ x1,fun x hx=>(x2 x hx).same e,x3⟩⟩
theorem WnI.mono {K:PySem.W.Frag}{H H':Hp}{ds:List RD}{R L z:Addr}{st:List Stp}{n k:Nat}(h:WnI K H ds R L z st n H')(l:n<=k):WnI K H ds R L z st k H':=by
 obtain⟨s,r,f,⟨xs,x1,x2,x3⟩⟩:=h;exact⟨s,r,f,⟨xs,x1,x2,Nat.le_trans x3 l⟩⟩
def Cj (K:PySem.W.Frag):Sp:=fun vs H Q _=>∃(r c:Addr) (us:List V) (ns:List Int) (m kb:Nat) (p:Int) (ds:List RD),vs=[.ref r,.int p,.ref c]/\SqL K H r us/\Rts K H us ds/\cV m kb ds/\SqL K H c (ns.map V.int)/\ns.length<=8/\
 ∀t R z ws st H',bA H H'->H R=none->SqT K H' t [.ref R,.ref z]->H' R=some (.lst ws)->Sts K H' ws st->(∀s∈st,s.1 < ds.length)->st.length<=8->Fq K H' z (Mq.tot (lnF ds st))->Q (.ref t) H'
abbrev vF:Stmt:=top 56
theorem fR:aS ["_law_rows_here","_law_point","_law_cells","_law_road","_law_found","_law_cell","_law_steps_on","_law_k","_law_step_here","_law_gone_here"] ["_law_rows_here","_law_point","_law_cells"] (aE vF):=⟨rfl,rfl,rfl,by decide +kernel,rfl,by decide +kernel,by decide +kernel⟩
theorem Dq {dV:Value}(F:bS K "_law_wander" "_law_wander" vF dV f fd)(ml:mg "len"=none)(mr:mg "range"=none)(G1:aK P w K mg base CX0 1 g1 gd1 ["_law_rows_here","_law_step_here"] (sQ K))(b1:aR K gd1 ["_law_rows_here","_law_step_here"] [])(k1:PySem.W.keepIn K (.ref g1)=true)(m1:mg "_law_step"=some (.ref g1))(G2:aK P w K mg base CX0 2 g2 gd2 ["_law_one","_law_other"] (nV K Mq.dQ))(b2:aR K gd2 ["_law_one","_law_other"] [])(k2:PySem.W.keepIn K (.ref g2)=true)(m2:mg "_law_plus"=some (.ref g2))(G3:aK P w K mg base CX0 1 g3 gd3 ["_law_cell","_law_turn","_law_many"] qI)(b3:aR K gd3 ["_law_cell","_law_turn","_law_many"] [])(k3:PySem.W.keepIn K (.ref g3)=true)(m3:mg "_law_mix"=some (.ref g3)) :
  aK P w K mg base CX 3 f fd ["_law_rows_here","_law_point","_law_cells"] (Cj K):=by
 refine F.ok fR (fun vs H Q E h=>?_) (fun cdv A outer s H vs Q E hr h=>?_)
 ·obtain⟨r,c,us,ns,m,kb,p,ds,rfl,hr0,hR,ok,hc,l8,q⟩:=h;rfl
 obtain⟨r,c,us,ns,m,kb,p,ds,rfl,hr0,hR,ok,hc,l8,q⟩:=h;have r1:=hr.mono (show 1<=2 by omega);have hu:=hr.units;refine⟨_,(aC (aT (i:=3) fR.nd rfl (Or.inl rfl) (cL aD))
  (aC (aT (i:=4) fR.nd rfl (Or.inl rfl) (bV (aA aB (aA aB aD))))
  (aC (dA PassesOwn.never rfl (cY (pv 2)) (bE (i:=5) fR.nd rfl (Or.inl rfl))
   (aC (aT (i:=6) fR.nd rfl (Or.inl rfl) (cL aD))
  (aC (dA PassesOwn.never rfl (eM rfl mr (aA (bQ bP rfl ml PySem.boot_len (aA (pv 0) aD)) aD)) (bE (i:=7) fR.nd rfl (Or.inl rfl))
   (aG (dA PassesOwn.never rfl (cY (cL (aA (bV (aA (pv 7) (aA aB aD))) (aA (bV (aA (pv 7) (aA (oH kM aB) aD))) aD)))) (bE (i:=8) fR.nd rfl (Or.inl rfl))
   (aC (aT (i:=9) fR.nd rfl (Or.inl rfl) (aI G1 r1 rfl m1 k1 b1 .nil aO (aA (pv 0) (aA (pv 8) aD))))
  (aG (bH (PW.pt (kH (dZ (pA (pv 9))) (gX (aZ dE (aL aM (pv 9) aB (fun _ _=>rfl)) (pv 1) (bC _))))) (aG (cQ (lP PySem.F.plainAttrs_list PySem.F.slot_list_append PySem.F.type_list_append dD (pv 6) (aA (bV (aA (pv 8) (aA (pv 9) aD))) aD)))) aV))))))
  (aC (bH (aZ (iL hu) (pv 6) (cL aD) (bC _)) (aG zI) aV)
  (aC (pT (aL bM (pv 6) (aI G3 r1 rfl m3 k3 b3 .nil aO (aA (pv 5) (aA aB (aA (bQ bP rfl ml PySem.boot_len (aA (pv 6) aD)) aD)))) (fun _ _=>rfl)) (jP rfl (cI (bE (i:=8) fR.nd rfl (Or.inl rfl)) (cI (bE (i:=9) fR.nd rfl (Or.inl rfl)) gV))))
  (aC (cQ (lP PySem.F.plainAttrs_list PySem.F.slot_list_append PySem.F.type_list_append dD (pv 3) (aA (pv 8) aD)))
  (aC (aT (i:=1) fR.nd rfl (Or.inl rfl) (aL aM (pv 9) aB (fun _ _=>rfl)))
  (aG (aT (i:=4) fR.nd rfl (Or.inl rfl) (aI G2 hr rfl m2 k2 b2 .nil aO (aA (pv 4) (aA (aL aM (pv 9) aB (fun _ _=>rfl)) aD))))))))))))
  (aG (aQ (bV (aA (pv 3) (aA (pv 4) aD)))))))),?_⟩
 have len:=ok.len;have lu:=hR.length;have k100:=ok.k100;refine⟨by show 0<=sizeLine;decide,fun R hR0=>?_⟩;have s1:=aH hR0 (.lst []);have e1:upd H R (.lst []) R=some (.lst []):=aF;generalize upd H R (.lst [])=H1 at s1 e1 ⊢;refine⟨by show 2<=sizeLine;decide,fun z0 hz0=>?_⟩;have s2:=aH hz0 (.tup [.int 0,.int 1]);have f2:Fq K (upd H1 z0 (.tup [.int 0,.int 1])) z0 (0,1):=Fq.of aF;generalize upd H1 z0 (.tup [.int 0,.int 1])=H2 at s2 f2 ⊢
 try dsimp only
 refine Dy (fun σ' H'=>bA H H'/\∃(p:Int) (z4:Addr) (ws:List V) (st:List Stp) (z5 z6 z7 z8 z9:Option V),σ'=[some (.ref r),some (.int p),some (.ref c),some (.ref R),some (.ref z4),z5,z6,z7,z8,z9]/\H' R=some (.lst ws)/\Sts K H' ws st/\(∀s∈st,s.1 < ds.length)/\st.length<=8/\Fq K H' z4 (Mq.tot (lnF ds st))) (fun X hX=>?_) ?_
 ·refine⟨_,rfl,c,rfl,⟨_,(s1.trans s2).seq hc⟩,?_⟩;refine dI (xs:=ns.map V.int) (fun n σ H'=>bA H H'/\∃(p:Int) (z4:Addr) (ws:List V) (st:List Stp) (z5 z6 z7 z8 z9:Option V),σ=[some (.ref r),some (.int p),some (.ref c),some (.ref R),some (.ref z4),z5,z6,z7,z8,z9]/\H' R=some (.lst ws)/\Sts K H' ws st/\(∀s∈st,s.1 < ds.length)/\st.length<=n/\Fq K H' z4 (Mq.tot (lnF ds st))) ⟨s1.trans s2,p,z0,[],[],_,_,_,_,_,rfl,s2 _ _ e1,.nil,(fun s hs=>by cases hs),Nat.le_refl _,f2⟩ (fun n σ H' _ h=>h.1.seq hc) ?_ ?_
  rotate_left
  ·rintro σ H' ⟨s3,p,z4,ws,st,z5,z6,z7,z8,z9,rfl,eR,sw,sl,l,f⟩;rw[List.length_map] at l;exact hX _ _ ⟨s3,p,z4,ws,st,z5,z6,z7,z8,z9,rfl,eR,sw,sl,by omega,f⟩
  rintro n x σ H3 hx ⟨s3,p,z4,ws,st,z5,z6,z7,z8,z9,rfl,eR,sw,sl,ln,f4⟩;have hn:n < 8:=by
   have:=(List.getElem?_eq_some_iff.mp hx).1;rw[List.length_map] at this;omega
  obtain⟨cell,rfl⟩:∃c,x=.int c:=by
   rw[List.getElem?_map] at hx
   cases hm:ns[n]? with
   |none=>rw[hm] at hx;cases hx
   |some c=>rw[hm] at hx;cases hx;exact⟨c,rfl⟩
  refine⟨by show 0<=sizeLine;decide,fun L hL=>?_⟩;have s4:=aH hL (.lst []);have e4:upd H3 L (.lst []) L=some (.lst []):=aF;have RL:R≠L:=bD eR hL;have nL:H L=none:=s3.free hL;have w0:WnI K H ds R L z4 st 0 (upd H3 L (.lst [])):=⟨s3.trans s4,⟨ws,s4 _ _ eR,sw.same s4⟩,s4.fq f4,⟨[],e4,(fun x hx=>by cases hx),Nat.le_refl _⟩⟩
  generalize upd H3 L (.lst [])=H4 at s4 e4 w0 ⊢
  try dsimp only
  refine Dy (fun σ' H'=>∃(z7 z8 z9:Option V),σ'=[some (.ref r),some (.int p),some (.ref c),some (.ref R),some (.ref z4),some (.int cell),some (.ref L),z7,z8,z9]/\WnI K H ds R L z4 st 200 H') (fun Y hY=>?_) ?_
  ·refine⟨_,rfl,r,us,rfl,.inl (w0.s.seq hr0),(us.length:Int),rfl,by omega,by omega,?_⟩;refine gS (n:=(us.length:Int).toNat) (fun i σ H'=>∃(z7 z8 z9:Option V),σ=[some (.ref r),some (.int p),some (.ref c),some (.ref R),some (.ref z4),some (.int cell),some (.ref L),z7,z8,z9]/\WnI K H ds R L z4 st (2*i) H') ⟨_,_,_,rfl,w0⟩ ?_ ?_
   rotate_left
   ·rintro σ H' ⟨z7,z8,z9,rfl,w⟩;exact hY _ _ ⟨z7,z8,z9,rfl,w.mono (by omega)⟩
   rintro i σ H5 hi ⟨z7,z8,z9,rfl,w5⟩;have hi:i < ds.length:=by omega
   rw[Int.zero_add];refine⟨_,rfl,by show 2<=sizeLine;decide,fun t1 ht1=>?_⟩;have s6:=aH ht1 (.tup [.int (i:Int),.int 1]);have q6:SqT K (upd H5 t1 (.tup [.int (i:Int),.int 1])) t1 [.int (i:Int),.int 1]:=SqT.of aF;generalize upd H5 t1 (.tup [.int (i:Int),.int 1])=H6 at s6 q6 ⊢;refine⟨_,rfl,1,rfl,by show 2<=sizeLine;decide,fun t2 ht2=>?_⟩;have s7:=aH ht2 (.tup [.int (i:Int),.int (-1)]);have q7:SqT K (upd H6 t2 (.tup [.int (i:Int),.int (-1)])) t2 [.int (i:Int),.int (-1)]:=SqT.of aF;generalize upd H6 t2 (.tup [.int (i:Int),.int (-1)])=H7 at s7 q7 ⊢;refine⟨by show 2<=sizeLine;decide,fun M hM=>?_⟩;have s8:=aH hM (.lst [.ref t1,.ref t2]);have e8:upd H7 M (.lst [.ref t1,.ref t2]) M=some (.lst [.ref t1,.ref t2]):=aF;have w8:=w5.same (s6.trans (s7.trans s8));have q68:=s8.seqT (s7.seqT q6);have q78:=s8.seqT q7;have ML:M≠L:=by
    obtain⟨xs,x1,_⟩:=(w5.same (s6.trans s7)).so;exact Ne.symm (bD x1 hM)
   generalize upd H7 M (.lst [.ref t1,.ref t2])=H8 at s8 e8 w8 q68 q78 ⊢;refine⟨M,rfl,⟨_,SqL.of e8⟩,?_⟩;refine dI (xs:=[.ref t1,.ref t2]) (fun j σ H'=>∃(z8 z9:Option V),σ=[some (.ref r),some (.int p),some (.ref c),some (.ref R),some (.ref z4),some (.int cell),some (.ref L),some (.int (i:Int)),z8,z9]/\WnI K H ds R L z4 st (2*i+j) H'/\H' M=some (.lst [.ref t1,.ref t2])/\SqT K H' t1 [.int (i:Int),.int 1]/\SqT K H' t2 [.int (i:Int),.int (-1)]) ⟨_,_,rfl,w8,e8,q68,q78⟩ (fun j σ H' _ h=>by obtain⟨_,_,_,_,h,_⟩:=h;exact SqL.of h) ?_ ?_
   rotate_left
   ·rintro σ H' ⟨z8,z9,rfl,w,_⟩;exact⟨_,_,_,rfl,w.mono (by show 2*i+2<=_;omega)⟩
   rintro j x σ H9 hx ⟨z8',z9',rfl,w9,e9,q1,q2⟩;obtain⟨y,w,rfl,hy,hw⟩:∃(y:Addr) (w:Int),x=.ref y/\SqT K H9 y [.int (i:Int),.int w]/\(w=1\/w=-1):=by
    match j,hx with
    |0,h=>exact⟨t1,1,by simpa using h.symm,q1,.inl rfl⟩
    |1,h=>exact⟨t2,-1,by simpa using h.symm,q2,.inr rfl⟩
    |j+2,h=>simp at h
   have hj:j < 2:=(List.getElem?_eq_some_iff.mp hx).1;obtain⟨d,hd⟩:∃d,ds[i]?=some d:=⟨_,List.getElem?_eq_getElem hi⟩
   refine⟨_,rfl,_,rfl,r,y,us,ds,i,w,d,rfl,w9.s.seq hr0,hR.same w9.s,len,hy,hw,hd,fun _ HA sA=>?_,fun hk g z HA sA hg fz=>?_⟩
   ·refine⟨_,rfl,_,rfl,L2.ifF rfl (L2.ifF rfl ?_)⟩;exact⟨_,_,rfl,(w9.same sA).mono (by omega),sA _ _ e9,sA.seqT q1,sA.seqT q2⟩
   refine⟨_,rfl,_,rfl,L2.ifT rfl ?_⟩;generalize (if w=1 then d.2.1 else d.2.2.1)=u at hg;generalize (if w=1 then d.2.2.1 else d.2.1)=v at hg;refine⟨_,rfl,g,_,_,_,rfl,rfl,hg,rfl,_,rfl,rfl,_,rfl,?_⟩;have wA:=w9.same sA;refine pL (fun _=>?_) (fun _=>?_)
   rotate_left
   ·exact⟨_,_,rfl,wA.mono (by omega),sA _ _ e9,sA.seqT q1,sA.seqT q2⟩
   have ⟨sW,⟨ws2,eW,tW⟩,fW,⟨xs,eX,aX,lX⟩⟩:=wA;refine⟨_,rfl,.inl ⟨rfl,_,SqL.of eX⟩,_,rfl,_,rfl,by show 2<=sizeLine;decide,fun T hT=>?_⟩;have sB:=aH hT (.tup [.ref y,.ref g]);have qB:SqT K (upd HA T (.tup [.ref y,.ref g])) T [.ref y,.ref g]:=SqT.of aF;generalize upd HA T (.tup [.ref y,.ref g])=HB at sB qB ⊢;have sAB:=sA.trans sB;have eXB:=sB _ _ eX;have so:mS K HB ds (.ref T):=⟨T,y,g,z,i,w,u,v,d,rfl,qB,sAB.seqT hy,hd,sB.seqT hg,sB.fq fz⟩
   refine⟨L,xs,.ref T,rfl,rfl,eXB,bF (by omega),?_⟩;refine⟨_,_,rfl,⟨(sW.trans sB).change nL,⟨ws2,by rw[aU RL];exact sB _ _ eW,(tW.same sB).upd eXB⟩,(sB.fq fW).upd eXB,⟨_,aF,fun x hx=>?_,by rw[List.length_append];show xs.length+1<=_;omega⟩⟩,by rw[aU ML];exact sAB _ _ e9,(sAB.seqT q1).upd eXB,(sAB.seqT q2).upd eXB⟩;rcases List.mem_append.mp hx with h | h
   ·exact((aX x h).same sB).upd eXB
   ·have:x=.ref T:=by simpa using h
    rw[this];exact so.upd eXB
  rintro σ5 H5 ⟨z7',z8',z9',rfl,w5⟩;have ⟨s5,⟨ws5,eR5,sw5⟩,f5,⟨xs,eX,aX,lX⟩⟩:=w5;refine⟨_,rfl,by show 0<=sizeLine;decide,fun O hO=>?_⟩;have s6:=aH hO (.lst []);refine wU (SqL.of (s6 _ _ eX)) (fun x hx=>(aX x hx).same s6) (SqL.of aF) ⟨_,rfl,?_⟩;generalize upd H5 O (.lst [])=H6 at s6 ⊢
  cases xs with
  |nil=>
   refine L2.ifT rfl ?_;exact hX _ _ ⟨s5.trans s6,p,z4,ws5,st,_,_,_,_,_,rfl,s6 _ _ eR5,sw5.same s6,sl,by omega,s6.fq f5⟩
  |cons x0 xs=>
  refine L2.ifF rfl ?_;refine⟨_,rfl,_,rfl,_,rfl,L,_,rfl,.inl (SqL.of (s6 _ _ eX)),cell,6,_,rfl,by decide,by decide,(by show (0:Int) < ((x0 :: xs).length:Int);rw[List.length_cons];omega),fun y H7 y0 y1 s7=>?_⟩;have y1:y < ((x0 :: xs).length:Int):=y1;obtain⟨yn,rfl⟩:∃n:Nat,y=(n:Int):=⟨y.toNat,by omega⟩
  obtain⟨sx,hsx⟩:∃s,(x0 :: xs)[yn]?=some s:=⟨_,List.getElem?_eq_getElem (by omega)⟩
  have s57:=s6.trans s7;obtain⟨T,y,g,z,i,w,u,v,d,rfl,h1,h2,h3,h4,h5⟩:=(aX sx (List.mem_of_getElem? hsx)).same s57;refine⟨L,_,_,_,rfl,rfl,SqL.of (s57 _ _ eX),bO hsx,?_⟩;refine⟨T,_,rfl,h1,rfl,_,_,rfl,_,_,rfl,rfl,?_⟩;have eR7:=s57 _ _ eR5;have lw:=sw5.length;refine⟨_,rfl,.inl ⟨rfl,_,SqL.of eR7⟩,_,rfl,R,ws5,.ref y,rfl,rfl,eR7,bF (by omega),?_⟩;have h1':=h1.upd (o:=.lst (ws5++[.ref y])) eR7;have h2':=h2.upd (o:=.lst (ws5++[.ref y])) eR7;have h4':=h4.upd (o:=.lst (ws5++[.ref y])) eR7;have h5':=h5.upd (o:=.lst (ws5++[.ref y])) eR7;have f8:=(s57.fq f5).upd (o:=.lst (ws5++[.ref y])) eR7;have sw8:=(sw5.same s57).upd (o:=.lst (ws5++[.ref y])) eR7;have e8:upd H7 R (.lst (ws5++[.ref y])) R=some (.lst (ws5++[.ref y])):=aF;have s8:bA H (upd H7 R (.lst (ws5++[.ref y]))):=(s5.trans s57).change hR0;generalize upd H7 R (.lst (ws5++[.ref y]))=H8 at h1' h2' h4' h5' f8 sw8 e8 s8 ⊢;refine⟨_,rfl,g,_,_,_,rfl,rfl,h4',rfl,?_⟩;obtain⟨po,wt⟩:=rR ok st;obtain⟨lq,bq,_,_⟩:=eB ok (List.mem_of_getElem? h3);have wl:(kb+1)*st.length<=808:=Nat.le_trans (Nat.mul_le_mul (show kb+1<=101 by omega) (show st.length<=8 by omega)) (by decide);refine⟨_,rfl,_,rfl,g,_,_,_,rfl,rfl,h4',rfl,_,_,_,_,2021,kb,rfl,f8,h5',(Mq.pR po).pos,lq.pos,(wt.tot po).mono (by omega),bq,by omega,fun z9 H9 s9 e9=>?_⟩;refine⟨s8.trans s9,v,z9,_,st++[(i,w)],_,_,_,_,_,rfl,s9 _ _ e8,(sw8.app (.cons h2' .nil)).same s9,fun s' hs=>?_,by rw[List.length_append];show st.length+1<=_;omega,by rw[lA h3,Mq.mH];exact Fq.of e9⟩;rcases List.mem_append.mp hs with h | h
  ·exact sl s' h
  ·have:s'=(i,w):=by simpa using h
   rw[this];exact(List.getElem?_eq_some_iff.mp h3).1
 rintro σ9 H9 ⟨s9,p9,z4,ws,st,z5,z6,z7,z8,z9,rfl,eR,sw,sl,l,f⟩;refine⟨_,rfl,_,rfl,by show 2<=sizeLine;decide,fun t ht=>?_⟩;have sT:=aH ht (.tup [.ref R,.ref z4]);exact q t R z4 ws st _ (s9.trans sT) hR0 (SqT.of aF) (sT _ _ eR) (sw.same sT) sl l (sT.fq f)
def rF (CN:Addr)(K:PySem.W.Frag):Sp:=fun vs H Q _=>∃(n l:Addr) (m kb a b:Nat) (ds:List RD),vs=[.ref n,.int (a:Int),.int (b:Int)]/\dB CN K H n l (m:Int) ds/\cV m kb ds/\a < m/\b < m/\(∀S,DjS m kb ds a [] S->b∈eks S)/\
 ∀S e rr ws H',bA H H'->DjS m kb ds a [] S->e∈S->e.1=b->H' rr=some (.lst ws)->Sts K H' ws e.2.2->Q (.ref rr) H'
theorem rK {CN CD:Addr}(F:aK P w K mg base (CX1 P w) 6 f fd ["net","a","b"] (pI CN CD K)):aK P w K mg base CX0 6 f fd ["net","a","b"] (rF CN K):=
 F.calm.weak fun vs H Q E h=>by
  obtain⟨n,l,m,kb,a,b,ds,hv,nt,ok,ha,hb,hS,q⟩:=h;exact⟨n,l,m,kb,a,b,ds,hv,nt,ok,ha,hb,fun S H' s j=>⟨fun e he k rr ws h1 h2=>q S e rr ws H' s j he k h1 h2,fun z=>absurd (hS S j) z⟩⟩
def oqd:Option Mq.Q2->PyData
 |none=>.none
 |some p=>qd p
theorem kY {K:PySem.W.Frag}{H:Hp}:∀{xs:List V} {ps:List (Option Mq.Q2)},Oqs K H xs ps->iN K H xs (ps.map oqd)
 |_,_,.nil=>.nil
 |_,_,.no q=>.cons .non (kY q)
 |_,_,.so f q=>.cons f.dat (kY q)
theorem pM:∀ps:List (Option Mq.Q2),PyData.canLayAll0 (ps.map oqd)=true
 | []=>rfl
 |none :: r=>by
  show (PyData.canLay0 .none && PyData.canLayAll0 (r.map oqd))=true;rw[pM r];rfl
 |some p :: r=>by
  show ((qd p).canLay0 && PyData.canLayAll0 (r.map oqd))=true;rw[pM r,mF p];rfl
theorem mZ:∀ps:List (Option Mq.Q2),PyData.depthAll (ps.map oqd)<=3
 | []=>by simp[PyData.depthAll]
 |o :: r=>by
  have b:=mZ r;have a:(oqd o).depth<=3:=by
   cases o with
   |none=>simp[oqd,PyData.depth]
   |some p=>simp[oqd,qd,PyData.depth,PyData.depthAll]
  simp only[List.map_cons,PyData.depthAll];omega
theorem yS {K:PySem.W.Frag}{H:Hp}{a b:Addr}{xs ys:List V}{ps:List (Option Mq.Q2)}{neg:Bool}{Q:VK}(h1:SqL K H a xs)(h2:SqL K H b ys)(f1:Oqs K H xs ps)(f2:Oqs K H ys ps)(z:Q (.bl (!neg)) H):pU K neg (.ref a) (.ref b) H Q:=
 oV (d:=.list (ps.map oqd)) (.lst h1 (kY f1)) (.lst h2 (kY f2)) (pM ps) (by have:=mZ ps;simp only[PyData.depth];omega) z
def Cq (CN:Addr)(K:PySem.W.Frag):Sp:=fun vs H Q _=>∃(n l r:Addr) (us:List V) (m kb a:Nat) (c:Int) (ds:List RD),vs=[.ref n,.ref r,.int (m:Int),.int (a:Int),.int c]/\dB CN K H n l (m:Int) ds/\SqL K H r us/\Rts K H us ds/\cV m kb ds/\a < m/\∀H',bA H H'->Q (.bl true) H'
abbrev vS:Stmt:=top 58
theorem oJ:aS ["_law_net_here","_law_rows_here","_law_many","_law_point","_law_cell","_law_told_here","_law_kept","_law_k","_law_other","_law_road"] ["_law_net_here","_law_rows_here","_law_many","_law_point","_law_cell"] (aE vS):=⟨rfl,rfl,rfl,by decide +kernel,rfl,by decide +kernel,by decide +kernel⟩
theorem Eg {dV:Value}(F:bS K "_law_walked" "_law_walked" vS dV f fd){CN:Addr}(ml:mg "len"=none)(b:Bl mg)(mli:mg "list"=none)(mr:mg "range"=none)(mm:mg "min"=none)(G1:aK P w K mg base CX0 6 g1 gd1 ["net","a"] (zK CN K))(b1:aR K gd1 ["net","a"] [])(k1:PySem.W.keepIn K (.ref g1)=true)(m1:mg "distances"=some (.ref g1))(G2:aK P w K mg base CX0 2 g2 gd2 ["_law_rows_here","_law_told_here","_law_many","_law_point"] (Cf K))(b2:aR K gd2 ["_law_rows_here","_law_told_here","_law_many","_law_point"] [])(k2:PySem.W.keepIn K (.ref g2)=true)(m2:mg "_law_priced"=some (.ref g2))(G3:aK P w K mg base CX0 1 g3 gd3 ["_law_cell","_law_turn","_law_many"] qI)(b3:aR K gd3 ["_law_cell","_law_turn","_law_many"] [])(k3:PySem.W.keepIn K (.ref g3)=true)(m3:mg "_law_mix"=some (.ref g3))(G4:aK P w K mg base CX0 7 g4 gd4 ["_law_net_here","_law_point","_law_other"] (Ce CN K))(b4:aR K gd4 ["_law_net_here","_law_point","_law_other"] [])(k4:PySem.W.keepIn K (.ref g4)=true)(m4:mg "_law_no_road"=some (.ref g4))(G5:aK P w K mg base CX0 6 g5 gd5 ["net","a","b"] (rF CN K))(b5:aR K gd5 ["net","a","b"] [])(k5:PySem.W.keepIn K (.ref g5)=true)(m5:mg "least_road"=some (.ref g5))(G6:aK P w K mg base CX0 3 g6 gd6 ["_law_rows_here","_law_road","_law_point"] (yE K))(b6:aR K gd6 ["_law_rows_here","_law_road","_law_point"] [])(k6:PySem.W.keepIn K (.ref g6)=true)(m6:mg "_law_gone"=some (.ref g6))(G7:aK P w K mg base CX0 1 g7 gd7 ["_law_found","_law_due"] (pQ K))(b7:aR K gd7 ["_law_found","_law_due"] [])(k7:PySem.W.keepIn K (.ref g7)=true)(m7:mg "_law_told"=some (.ref g7))(G8:aK P w K mg base CX0 5 g8 gd8 ["net","road"] (rJ CN K))(b8:aR K gd8 ["net","road"] [])(k8:PySem.W.keepIn K (.ref g8)=true)(m8:mg "road_sum"=some (.ref g8)) :
  aK P w K mg base CX 8 f fd ["_law_net_here","_law_rows_here","_law_many","_law_point","_law_cell"] (Cq CN K):=by
 refine F.ok oJ (fun vs H Q E h=>?_) (fun cdv A outer s H vs Q E hr h=>?_)
 ·obtain⟨n,l,r,us,m,kb,a,c,ds,rfl,nt,hr0,hR,ok,ha,q⟩:=h;rfl
 obtain⟨n,l,r,us,m,kb,a,c,ds,rfl,nt,hr0,hR,ok,ha,q⟩:=h;have r1:=hr.mono (show 1<=7 by omega);have r2:=hr.mono (show 2<=7 by omega);have r3:=hr.mono (show 3<=7 by omega);have r5:=hr.mono (show 5<=7 by omega);have r6:=hr.mono (show 6<=7 by omega);have hu:=hr.units;refine⟨_,(aC (aT (i:=5) oJ.nd rfl (Or.inl rfl) (aI G1 r6 rfl m1 k1 b1 .nil aO (aA (pv 0) (aA (pv 3) aD))))
  (aC (bH (cC (bN (aI G2 r2 rfl m2 k2 b2 .nil aO (aA (pv 1) (aA (pv 5) (aA (pv 2) (aA (pv 3) aD))))))) (aG (aQ dG)) aV)
  (aC (aT (i:=6) oJ.nd rfl (Or.inl rfl) (oC iO rfl mli PyProof.Rows.boot_list (aA (pv 5) aD)))
  (aC (dA PassesOwn.never rfl (eM rfl mr (aA (bQ (wS rfl) rfl mm PyProof.Rows.boot_min (aA (pv 2) (aA aB aD))) aD)) (bE (i:=7) oJ.nd rfl (Or.inl rfl))
   (aC (aT (i:=8) oJ.nd rfl (Or.inl rfl) (aY eV (aY cX (aI G3 r1 rfl m3 k3 b3 .nil aO (aA (pv 4) (aA aB (aA (pv 2) aD)))) (pv 7)) (pv 2)))
  (aC (bH (dZ (jV (aL bM (pv 5) (pv 8) (fun _ _=>rfl)))) (aC (bH (cC (bN (aI G4 hr rfl m4 k4 b4 .nil aO (aA (pv 0) (aA (pv 3) (aA (pv 8) aD)))))) (aG (aQ dG)) aV)
  (aG gJ)) aV)
  (aC (aT (i:=9) oJ.nd rfl (Or.inl rfl) (aI G5 r6 rfl m5 k5 b5 .nil aO (aA (pv 0) (aA (pv 3) (aA (pv 8) aD)))))
  (aC (bH (PW.pt (cW (cC (bN (cT (i:=9) rfl (Or.inl rfl) b.isi mli rfl rfl PyProof.Rows.boot_list))) (cR (aZ (xA hu) (aI G6 r3 rfl m6 k6 b6 .nil aO (aA (pv 1) (aA (pv 9) (aA (pv 3) aD)))) (bV (aA (pv 8) (aA (aL bM (pv 5) (pv 8) (fun _ _=>rfl)) aD))) (bC _))))) (aG (aQ dG)) aV)
  (aG (bH (cC (bN (aI G7 r1 rfl m7 k7 b7 .nil aO (aA (aI G8 r5 rfl m8 k8 b8 .nil aO (aA (pv 0) (aA (pv 9) aD))) (aA (aL bM (pv 5) (pv 8) (fun _ _=>rfl)) aD))))) (aG (aQ dG)) aV)))))))
  (aG (aQ (iE (dM (iL hu) (aI G5 r6 rfl m5 k5 b5 .nil aO (aA (pv 0) (aA (pv 3) (aA (pv 3) aD)))) (cL aD) (bC _)) (iE (dM (iL hu) (pv 5) (pv 6) (bC _)) (jU (dM (iL hu) (aI G1 r6 rfl m1 k1 b1 .nil aO (aA (pv 0) (aA (pv 3) aD))) (pv 6) (bC _))))))))))),?_⟩
 have m20:=ok.m20;refine⟨_,rfl,_,rfl,n,l,m,kb,a,ds,rfl,nt,ok,ha,fun t zs S H1 s1 nt0 et FP DJ=>?_⟩;refine⟨_,rfl,_,rfl,_,rfl,_,rfl,r,t,us,zs,m,kb,a,ds,S,rfl,s1.seq hr0,hR.same s1,ok,et,FP,DJ,ha,fun H2 s2=>⟨_,rfl,bX ?_⟩⟩;have e2:=s2 _ _ et;refine⟨_,rfl,t,zs,rfl,.inl (SqL.of e2),fun D hD=>?_⟩;have s3:=aH hD (.lst zs);have e3:upd H2 D (.lst zs) D=some (.lst zs):=aF;have et3:=s3 _ _ e2;have s03:=s1.trans (s2.trans s3);have FP3:=(FP.same s2).same s3;generalize upd H2 D (.lst zs)=H3 at s3 e3 et3 s03 FP3 ⊢
 try dsimp only
 refine Dy (fun σ' H'=>bA H3 H'/\∃z7 z8 z9:Option V,σ'=[some (.ref n),some (.ref r),some (.int (m:Int)),some (.int (a:Int)),some (.int c),some (.ref t),some (.ref D),z7,z8,z9]) (fun X hX=>?_) ?_
 ·refine⟨_,rfl,_,_,rfl,(if (3:Int) < m then 3 else m),rfl,by split<;>omega,by split<;>omega,?_⟩;refine gS (n:=(if (3:Int) < m then 3 else (m:Int)).toNat) (fun i σ H'=>bA H3 H'/\∃z7 z8 z9:Option V,σ=[some (.ref n),some (.ref r),some (.int (m:Int)),some (.int (a:Int)),some (.int c),some (.ref t),some (.ref D),z7,z8,z9]) ⟨bA.refl _,_,_,_,rfl⟩ ?_ (fun σ H' h=>hX _ _ h);rintro i σ H4 hi ⟨s4,z7,z8,z9,rfl⟩;rw[Int.zero_add];refine⟨_,rfl,_,rfl,c,4,m,rfl,by decide,by decide,by omega,fun y H5 y0 y1 s5=>?_⟩;refine⟨_,rfl,_,_,rfl,rfl,_,rfl,_,_,rfl,rfl,(show (0:Int) < (m:Int) by omega),?_⟩;have f0:=Int.emod_nonneg (y+(i:Int)) (show (m:Int)≠0 by omega);have f9:=Int.emod_lt_of_pos (y+(i:Int)) (show (0:Int) < (m:Int) by omega);obtain⟨ot,hot⟩:∃ot,(y+(i:Int)) % (m:Int)=ot:=⟨_,rfl⟩
  rw[hot] at f0 f9;obtain⟨b',rfl⟩:∃n:Nat,ot=(n:Int):=⟨ot.toNat,by omega⟩
  have hb:b' < m:=by omega
  have s35:=s4.trans s5;have e5:=s35 _ _ et3;have nt5:=nt.same (s03.trans s35);rcases iG (FP3.same s35) hb with ⟨no,hz⟩ | ⟨az,x,so,hz,fz⟩
  ·refine⟨_,rfl,_,rfl,t,zs,_,_,rfl,rfl,SqL.of e5,(by show atI zs ((y+(i:Int)) % (m:Int))=_;rw[hot];exact bO hz),_,rfl,L2.ifT (decide_eq_true rfl) ?_⟩;refine⟨_,rfl,_,rfl,_,rfl,n,l,m,kb,a,b',ds,(by show [V.ref n,V.int (a:Int),V.int ((y+(i:Int)) % (m:Int))]++[]=_;rw[hot];rfl),nt5,ok,ha,hb,fun S' j' hin=>?_,fun H6 s6=>⟨_,rfl,bX ?_⟩⟩
   ·obtain⟨e,he,ke⟩:=List.mem_map.mp hin;have:=gG j'.nds he ke;rw[j'.dsO_eq DJ,no] at this
    cases this
   ·exact⟨s35.trans s6,_,_,_,rfl⟩
  refine⟨_,rfl,_,rfl,t,zs,_,_,rfl,rfl,SqL.of e5,(by show atI zs ((y+(i:Int)) % (m:Int))=_;rw[hot];exact bO hz),_,rfl,L2.ifF (decide_eq_false (fun z=>by cases z)) ?_⟩;refine⟨_,rfl,_,rfl,_,rfl,n,l,m,kb,a,b',ds,(by show [V.ref n,V.int (a:Int),V.int ((y+(i:Int)) % (m:Int))]++[]=_;rw[hot];rfl),nt5,ok,ha,hb,fun S' j'=>?_,fun S1 e rr ws H6 s6 DJ1 he ke er sw=>?_⟩
  ·obtain⟨e,he,ke,_⟩:=gB ((j'.dsO_eq DJ b').trans so);exact List.mem_map.mpr ⟨e,he,ke⟩
  have hx:e.2.1=x:=by
   have:=gG DJ1.nds he ke;rw[DJ1.dsO_eq DJ,so] at this;exact(Option.some.inj this).symm
  have en:=DJ1.ok he;have tt:=Cz ok en;rw[hx] at tt;have l1:=pK DJ1;have st20:e.2.2.length<=20:=by have:=en.st;omega
  obtain⟨vs,rv,_⟩:=DJ1.sm e (by simpa using he);have mt:=rv.mts;rw[ke] at mt;have s36:=s35.trans s6;have s06:=s03.trans s36;refine⟨_,_,true,rfl,.lst (SqL.of er),rfl,_,rfl,bX ?_⟩;refine⟨_,rfl,_,rfl,_,rfl,r,rr,us,ws,m,kb,a,b',ds,e.2.2,vs,rfl,s06.seq hr0,hR.same s06,ok,er,sw,mt,st20,fun tg zg H7 s7 hg fg=>?_⟩;have s37:=s36.trans s7;have e7:=s37 _ _ et3;refine⟨_,rfl,_,rfl,_,rfl,t,zs,_,_,rfl,rfl,SqL.of e7,(by show atI zs ((y+(i:Int)) % (m:Int))=_;rw[hot];exact bO hz),by show 2<=sizeLine;decide,fun T hT=>?_⟩;show pU _ true (.ref tg) (.ref T) (upd H7 T (.tup [.int ((y+(i:Int)) % (m:Int)),.ref az])) _;rw[hot];have s8:=aH hT (.tup [.int (b':Int),.ref az]);have q8:SqT K (upd H7 T (.tup [.int (b':Int),.ref az])) T [.int (b':Int),.ref az]:=SqT.of aF;generalize upd H7 T (.tup [.int (b':Int),.ref az])=H8 at s8 q8 ⊢;have s78:=s7.trans s8;rw[tt] at fg;refine oV (d:=.tuple [.int (b':Int),qd x]) (.tup (s8.seqT hg) (.cons (.int _) (.cons (s8.fq fg).dat .nil))) (.tup q8 (.cons (.int _) (.cons (((s6.trans s78).fq fz)).dat .nil))) ?_ ?_ ⟨_,rfl,bX ?_⟩
  ·have l:=mF x;simp[PyData.canLayAll0,PyData.canLay0,l]
  ·have:=pZ x;simp only[PyData.depth,PyData.depthAll];omega
  have s38:=s36.trans s78;refine⟨_,rfl,_,rfl,n,l,rr,m,kb,ds,ws,e.2.2,rfl,nt.same (s03.trans s38),ok,s78 _ _ er,sw.same s78,fun s' hs=>?_,st20,fun r9 H9 s9 f9'=>?_⟩
  ·obtain⟨k,hk⟩:=List.mem_iff_getElem?.mp hs;obtain⟨_,_,_,_,_,d,hd,_⟩:=mt.go k s' hk;exact(List.getElem?_eq_some_iff.mp hd).1
  rw[tt] at f9';have s39:=s38.trans s9;refine⟨_,rfl,_,rfl,t,zs,_,_,rfl,rfl,SqL.of (s39 _ _ et3),(by show atI zs ((y+(i:Int)) % (m:Int))=_;rw[hot];exact bO hz),r9,az,x,rfl,f9',(s6.trans (s78.trans s9)).fq fz,_,rfl,bX ?_⟩;exact⟨s39,_,_,_,rfl⟩
 rintro σ9 H9 ⟨s9,z7,z8,z9,rfl⟩;refine⟨_,rfl,_,rfl,_,rfl,n,l,m,kb,a,a,ds,rfl,nt.same (s03.trans s9),ok,ha,ha,fun S' j'=>?_,fun S1 e rr ws HA sA DJ1 he ke er sw=>?_⟩
 ·obtain⟨e,he,ke,_⟩:=gB j'.selfO;exact List.mem_map.mpr ⟨e,he,ke⟩
 have hs:=DJ1.self he ke;rw[hs] at sw;have hw:ws=[]:=by have:=sw.length;exact List.length_eq_zero_iff.mp this
 subst hw;refine⟨by show 0<=sizeLine;decide,fun O hO=>?_⟩;have sB:=aH hO (.lst []);refine oV (d:=.list []) (.lst (SqL.of (sB _ _ er)) .nil) (.lst (SqL.of aF) .nil) rfl (by decide) ⟨_,rfl,L2.ifT rfl ?_⟩;generalize upd HA O (.lst [])=HB at sB ⊢;have s3B:=s9.trans (sA.trans sB);refine⟨_,rfl,_,rfl,yS (SqL.of (s3B _ _ et3)) (SqL.of (s3B _ _ e3)) (FP3.same s3B) (FP3.same s3B) ⟨_,rfl,L2.ifT rfl ?_⟩⟩;refine⟨_,rfl,_,rfl,n,l,m,kb,a,ds,rfl,nt.same (s03.trans s3B),ok,ha,fun t2 zs2 S2 HC sC _ et2 FP2 DJ2=>?_⟩;have ee:(List.range m).map (dsO S2)=(List.range m).map (dsO S):=List.map_congr_left fun p _=>DJ2.dsO_eq DJ p;rw[ee] at FP2;have s3C:=s3B.trans sC;refine⟨_,rfl,yS (SqL.of et2) (SqL.of (s3C _ _ e3)) FP2 (FP3.same s3C) ?_⟩;exact q _ (s03.trans s3C)
theorem lH:(["_law_k","_law_rows_here"]:List Str).Nodup:=by decide +kernel
theorem Jh (xs:List V):(iF xs (some 28) (some 36)).length<=8:=by
 unfold iF;have h1:HT.sIx xs.length xs.length (some 36)=min 36 xs.length:=by simp[HT.sIx]
 have h2:HT.sIx xs.length 0 (some 28)=min 28 xs.length:=by simp[HT.sIx]
 rw[h1,h2];simp;omega
theorem qP {m:Nat}{ds:List RD}(m20:m<=20)(h:∀d∈ds,De m d)(l:ds.length<=24):cV m 44 ds where
 pt:=fun d hd=>by obtain⟨⟨i0,i1,j0,j1,_⟩,_⟩:=h d hd;exact⟨i0,i1,j0,j1⟩
 pos:=fun d hd hk=>by
  obtain⟨⟨_,_,_,_,lp,pk,_⟩,_⟩:=h d hd;have p2:=lp.pos;have p1:=pk hk;unfold Mq.val;rw[Rat.div_def];exact Rat.mul_pos (by exact_mod_cast p1) (Rat.inv_pos.mpr (by exact_mod_cast (show 0 < d.2.2.2.2 by omega)))
 low:=fun d hd=>by obtain⟨⟨_,_,_,_,lp,_⟩,_⟩:=h d hd;exact lp
 bd:=fun d hd=>(h d hd).b
 k1:=by decide
 k100:=by decide
 m20:=m20
 len:=by omega
def stD (s:Stp):PyData:=.tuple [.int (s.1:Int),.int s.2]
theorem pG {K:PySem.W.Frag}{H:Hp}:∀{xs:List V} {st:List Stp},Sts K H xs st->iN K H xs (st.map stD)
 |_,_,.nil=>.nil
 |_,_,.cons h q=>.cons (.tup h (.cons (.int _) (.cons (.int _) .nil))) (pG q)
theorem tJ:∀st:List Stp,PyData.canLayAll0 (st.map stD)=true
 | []=>rfl
 |s :: r=>by
  show ((stD s).canLay0 && PyData.canLayAll0 (r.map stD))=true;rw[tJ r];rfl
theorem nU:∀st:List Stp,PyData.depthAll (st.map stD)<=3
 | []=>by simp[PyData.depthAll]
 |s :: r=>by
  have b:=nU r;have a:(stD s).depth<=3:=by simp[stD,PyData.depth,PyData.depthAll]
  simp only[List.map_cons,PyData.depthAll];omega
theorem Ak {K:PySem.W.Frag}{H:Hp}{a b:Addr}{xs ys:List V}{st:List Stp}{neg:Bool}{Q:VK}(h1:SqL K H a xs)(h2:SqL K H b ys)(f1:Sts K H xs st)(f2:Sts K H ys st)(z:Q (.bl (!neg)) H):pU K neg (.ref a) (.ref b) H Q:=
 oV (d:=.list (st.map stD)) (.lst h1 (pG f1)) (.lst h2 (pG f2)) (tJ st) (by have:=nU st;simp only[PyData.depth];omega) z
def tL (K:PySem.W.Frag):Sp:=fun vs H Q _=>∃(a:Addr) (ns:List Int),vs=[.ref a]/\SqL K H a (ns.map V.int)/\ns.length<=63/\∀H',Q (.bl true) H'
abbrev oU:Stmt:=top 59
theorem fP:aS ["_law_script","_law_first","_law_many","_law_rows_here","_law_net_here","_law_point","_law_road","_law_due","_law_handed","_law_pieces","_law_at"] ["_law_script"] (aE oU):=⟨rfl,rfl,rfl,by decide +kernel,rfl,by decide +kernel,by decide +kernel⟩
theorem Ct {dV:Value}(F:bS K "law" "law" oU dV f fd){CN:Addr}(NTx:NT K mg CN)(ml:mg "len"=none)(mli:mg "list"=none)(mr:mg "range"=none){gCh:Addr}{gdCh:FuncData}(GCh:aK P w K mg base CX0 5 gCh gdCh ["self","k","size"] (qW CN K))(bCh:aR K gdCh ["self","k","size"] [])(mCh:gE K CN "change" gCh)(G1:aK P w K mg base CX0 1 g1 gd1 ["_law_script","_law_k"] (zB K))(b1:aR K gd1 ["_law_script","_law_k"] [])(k1:PySem.W.keepIn K (.ref g1)=true)(m1:mg "_law_draw"=some (.ref g1))(G2:aK P w K mg base CX0 2 g2 gd2 ["_law_script","_law_many"] (uA K))(b2:aR K gd2 ["_law_script","_law_many"] [])(k2:PySem.W.keepIn K (.ref g2)=true)(m2:mg "_law_rows"=some (.ref g2))(G3:aK P w K mg base CX0 6 g3 gd3 ["_law_many","_law_rows_here"] (vB CN K))(b3:aR K gd3 ["_law_many","_law_rows_here"] [])(k3:PySem.W.keepIn K (.ref g3)=true)(m3:mg "_law_net"=some (.ref g3))(G4:aK P w K mg base CX0 1 g4 gd4 ["_law_cell","_law_turn","_law_many"] qI)(b4:aR K gd4 ["_law_cell","_law_turn","_law_many"] [])(k4:PySem.W.keepIn K (.ref g4)=true)(m4:mg "_law_mix"=some (.ref g4))(G5:aK P w K mg base CX0 8 g5 gd5 ["_law_net_here","_law_rows_here","_law_many","_law_point","_law_cell"] (Cq CN K))(b5:aR K gd5 ["_law_net_here","_law_rows_here","_law_many","_law_point","_law_cell"] [])(k5:PySem.W.keepIn K (.ref g5)=true)(m5:mg "_law_walked"=some (.ref g5))(G6:aK P w K mg base CX0 3 g6 gd6 ["_law_rows_here","_law_point","_law_cells"] (Cj K))(b6:aR K gd6 ["_law_rows_here","_law_point","_law_cells"] [])(k6:PySem.W.keepIn K (.ref g6)=true)(m6:mg "_law_wander"=some (.ref g6))(G7:aK P w K mg base CX0 1 g7 gd7 ["_law_found","_law_due"] (pQ K))(b7:aR K gd7 ["_law_found","_law_due"] [])(k7:PySem.W.keepIn K (.ref g7)=true)(m7:mg "_law_told"=some (.ref g7))(G8:aK P w K mg base CX0 5 g8 gd8 ["net","road"] (rJ CN K))(b8:aR K gd8 ["net","road"] [])(k8:PySem.W.keepIn K (.ref g8)=true)(m8:mg "road_sum"=some (.ref g8)){g9:Addr}{gd9:FuncData}(G9:aK P w K mg base CX0 1 g9 gd9 ["_law_top","_law_bottom"] jH)(b9:aR K gd9 ["_law_top","_law_bottom"] [])(k9:PySem.W.keepIn K (.ref g9)=true)(m9:mg "_law_lowest"=some (.ref g9)) :
  aK P w K mg base CX 9 f fd ["_law_script"] (tL K):=by
 refine F.ok fP (fun vs H Q E h=>?_) (fun cdv A outer s H vs Q E hr h=>?_)
 ·obtain⟨a,ns,rfl,hS,h63,q⟩:=h;rfl
 obtain⟨a,ns,rfl,hS,h63,q⟩:=h;have r1:=hr.mono (show 1<=8 by omega);have r2:=hr.mono (show 2<=8 by omega);have r3:=hr.mono (show 3<=8 by omega);have r5:=hr.mono (show 5<=8 by omega);have r6:=hr.mono (show 6<=8 by omega);have hu:=hr.units;refine⟨_,(aC (aT (i:=1) fP.nd rfl (Or.inl rfl) (aY eV (aI G1 r1 rfl m1 k1 b1 .nil aO (aA (pv 0) (aA aB aD))) aB))
  (aC (aT (i:=2) fP.nd rfl (Or.inl rfl) (aY cX aB (aY eV (pv 1) aB)))
  (aC (bH (aZ dE (aY gN (pv 1) aB) aB (bC _)) (aG (aT (i:=2) fP.nd rfl (Or.inl rfl) aB)) aV)
  (aC (aT (i:=3) fP.nd rfl (Or.inr rfl) (aI G2 r2 rfl m2 k2 b2 .nil aO (aA (pv 0) (aA (pv 2) aD))))
  (aC (aT (i:=4) fP.nd rfl (Or.inl rfl) (aI G3 r6 rfl m3 k3 b3 .nil aO (aA (pv 2) (aA (pv 3) aD))))
  (aC (aT (i:=5) fP.nd rfl (Or.inl rfl) (aI G4 r1 rfl m4 k4 b4 .nil aO (aA (aI G1 r1 rfl m1 k1 b1 .nil aO (aA (pv 0) (aA aB aD))) (aA aB (aA (pv 2) aD)))))
  (aC (bH (cC (bN (aI G5 hr rfl m5 k5 b5 .nil aO (aA (pv 4) (aA (pv 3) (aA (pv 2) (aA (pv 5) (aA (aI G1 r1 rfl m1 k1 b1 .nil aO (aA (pv 0) (aA aB aD))) aD)))))))) (aG (aQ dG)) aV)
  (aC (pT (aI G6 r3 rfl m6 k6 b6 .nil aO (aA (pv 3) (aA (pv 5) (aA (jF pD (pv 0) (fO aB) (fO aB)) aD)))) (jP rfl (cI (bE (i:=6) fP.nd rfl (Or.inl rfl)) (cI (bE (i:=7) fP.nd rfl (Or.inl rfl)) gV))))
  (aC (aT (i:=8) fP.nd rfl (Or.inl rfl) (oC iO rfl mli PyProof.Rows.boot_list (aA (pv 6) aD)))
  (aC (bH (PW.pt (cW (cC (bN (aI G7 r1 rfl m7 k7 b7 .nil aO (aA (aI G8 r5 rfl m8 k8 b8 .nil aO (aA (pv 4) (aA (pv 8) aD))) (aA (pv 7) aD))))) (cR (aZ (xA hu) (pv 8) (pv 6) (bC _))))) (aG (aQ dG)) aV)
  (aC (uY (i:=9) (nl:=1) (fr:=[3]) (Nc:=["_law_k","_law_rows_here"]) (cl:=[("_law_rows_here",s.heap.objs.size+1)]) fP.nd rfl rfl rfl ⟨rfl,rfl,by decide +kernel,by decide +kernel,fun x c h=>h,iH rfl,rfl,fun i n h=>match i,h with | 0,h=>by cases h;exact⟨3,rfl,rfl,rfl,rfl,.inl rfl⟩ | k+1,h=>by rw[show 1+(k+1)=k+2 by omega] at h;cases h⟩
    (eM rfl mr (aA (bQ bP rfl ml PySem.boot_len (aA (pv 3) aD)) aD)) (fun C s3 H3 fp pins=>(bE (i:=0) lH rfl (Or.inl rfl))) (fun C s3 H3 fp pins=>(uU (aZ dE (aL (vA (K:=K) rfl) (aL (qG (K:=K) rfl) (pv 1) (pv 0) (fun _ _=>rfl)) aB (fun _ _=>rfl)) cN (bC _))))
    (fun C s3 H3 fp pins=>(pv 0)) rfl)
  (aC (bH (aZ (iL hu) (pv 9) (cL aD) (bC _)) (aG (aQ dG)) aV)
  (aC (aT (i:=10) fP.nd rfl (Or.inl rfl) (aL bM (pv 9) (aI G4 r1 rfl m4 k4 b4 .nil aO (aA (aI G1 r1 rfl m1 k1 b1 .nil aO (aA (pv 0) (aA aB aD))) (aA aB (aA (bQ bP rfl ml PySem.boot_len (aA (pv 9) aD)) aD)))) (fun _ _=>rfl)))
  (aC (pT (aY Ap (jF Eu (aL bM (pv 3) (pv 10) (fun _ _=>rfl)) As (fO aB)) (bV (aA (aI G9 r1 rfl m9 k9 b9 .nil aO (aA (aY cX aB (aI G4 r1 rfl m4 k4 b4 .nil aO (aA (aI G1 r1 rfl m1 k1 b1 .nil aO (aA (pv 0) (aA aB aD))) (aA aB (aA aB aD))))) (aA aB aD))) aD))) (yP (pv 3) (pv 10) rA))
  (aC (cQ (tZ (pv 4) NTx.cl mCh GCh r5 bCh .nil aO (aA (pv 10) (aA (aL aM (aL bM (pv 3) (pv 10) (fun _ _=>rfl)) aB (fun _ _=>rfl)) aD))))
  (aG (aQ (aI G5 hr rfl m5 k5 b5 .nil aO (aA (pv 4) (aA (pv 3) (aA (pv 2) (aA (pv 5) (aA (aI G1 r1 rfl m1 k1 b1 .nil aO (aA (pv 0) (aA aB aD))) aD))))))))))))))))))))))),?_⟩
 refine Ec (fun σ' H'=>bA H H'/\∃(f:Int) (m:Nat),σ'=[some (.ref a),some (.int f),some (.int (m:Int)),none,none,none,none,none,none,none,none]/\1<=m/\m<=20) (fun X hX=>?_) ?_
 ·refine⟨_,rfl,a,ns,0,0,rfl,rfl,hS,h63,fun v H1 s1=>⟨_,_,rfl,rfl,(show (0:Int) < 64 by decide),?_⟩⟩;refine⟨_,rfl,_,_,rfl,rfl,(show (0:Int) < 8 by decide),_,_,rfl,rfl,?_⟩;have f0:=Int.emod_nonneg (v % 64) (show (8:Int)≠0 by decide);have f9:=Int.emod_lt_of_pos (v % 64) (show (0:Int) < 8 by decide);obtain⟨M,hM⟩:∃M:Nat,1+v % 64 % 8=(M:Int):=⟨(1+v % 64 % 8).toNat,by omega⟩
  refine⟨_,rfl,_,_,rfl,rfl,⟨by decide,by decide⟩,rfl,_,rfl,pL (fun _=>?_) (fun _=>?_)⟩
  ·exact hX _ _ ⟨s1,v % 64,20,rfl,by decide,by decide⟩
  ·exact hX _ _ ⟨s1,v % 64,M,by rw[<- hM];rfl,by omega,by omega⟩
 rintro σ1 H1 ⟨s1,f,m,rfl,m1,m20⟩;refine⟨_,rfl,_,rfl,a,ns,m,rfl,s1.seq hS,h63,m1,fun r us ds H2 s2 nr er hR hK l24=>?_⟩;have s02:=s1.trans s2;refine⟨_,rfl,_,rfl,(m:Int),r,us,ds,rfl,by omega,by omega,SqL.of er,hR,(fun d hd=>(hK d hd).r),by omega,fun n l H3 s3 nl nt=>?_⟩;have s03:=s02.trans s3;have nlr:l≠r:=fun z=>by rw[z,er] at nl;cases nl
 have er3:=s3 _ _ er;have hR3:=hR.same s3;have nr0:H r=none:=s1.free nr;have nl0:H l=none:=s02.free nl;clear nl er hR s2 s3 nr;have rok:=qP m20 hK l24;refine⟨_,rfl,a,ns,1,1,rfl,rfl,s03.seq hS,h63,fun c4 H4 s4=>⟨_,rfl,c4,1,(m:Int),rfl,by decide,by decide,by omega,fun x' H5 x0 x1 s5=>?_⟩⟩;obtain⟨x,rfl⟩:∃x:Nat,x'=(x:Int):=⟨x'.toNat,by omega⟩
 have hx:x < m:=by omega
 have s35:=s4.trans s5;refine⟨_,rfl,_,rfl,_,rfl,_,rfl,_,rfl,a,ns,2,2,rfl,rfl,(s03.trans s35).seq hS,h63,fun c6 H6 s6=>?_⟩;have s36:=s35.trans s6;refine⟨n,l,r,us,m,44,x,c6,ds,rfl,nt.same s36,SqL.of (s36 _ _ er3),hR3.same s36,rok,hx,fun H7 s7=>⟨_,rfl,bX ?_⟩⟩;have s37:=s36.trans s7;refine⟨_,rfl,_,rfl,_,rfl,28,rfl,36,rfl,a,_,rfl,(s03.trans s37).seq hS,fun C hC=>?_⟩;have c30:=Jh (ns.map V.int);obtain⟨ms,em,_⟩:=lK ns (some 28) (some 36);rw[em] at c30 ⊢;rw[List.length_map] at c30;have s8:=aH hC (.lst (ms.map V.int));have eC:upd H7 C (.lst (ms.map V.int)) C=some (.lst (ms.map V.int)):=aF;generalize upd H7 C (.lst (ms.map V.int))=H8 at s8 eC ⊢;have s38:=s37.trans s8;refine⟨r,C,us,ms,m,44,(x:Int),ds,rfl,SqL.of (s38 _ _ er3),hR3.same s38,rok,SqL.of eC,c30,fun tw R z ws st H9 s9 nR ht eR sw sl l8 fz=>?_⟩;refine⟨tw,_,rfl,ht,rfl,_,_,rfl,_,_,rfl,rfl,?_⟩;have s39:=s38.trans s9;refine⟨_,rfl,R,ws,rfl,.inl (SqL.of eR),fun D hD=>?_⟩;have sA:=aH hD (.lst ws);have eA:upd H9 D (.lst ws) D=some (.lst ws):=aF;generalize upd H9 D (.lst ws)=HA at sA eA ⊢;have s3A:=s39.trans sA;refine⟨_,rfl,_,rfl,n,l,D,m,44,ds,ws,st,rfl,nt.same s3A,rok,eA,sw.same sA,sl,by omega,fun rs HB sB fB=>?_⟩;have sAB:=sA.trans sB;refine⟨_,rfl,rs,z,_,rfl,fB,sAB.fq fz,_,rfl,bX ?_⟩;refine⟨_,rfl,_,rfl,Ak (SqL.of (sB _ _ eA)) (SqL.of (sAB _ _ eR)) (sw.same sAB) (sw.same sAB) ⟨_,rfl,bX ?_⟩⟩;have s3B:=s3A.trans sB;have erB:=s3B _ _ er3;have hRB:=hR3.same s3B;have ntB:=nt.same s3B;have s0B:=s03.trans s3B;have lus:=hRB.length;clear ht eR sw fz s39 s3A sA eA fB sAB nR s38 s37 s36 s35 s4 s5 s6 s7 s8 eC sB s9 er3 hR3 nt s3B;refine⟨_,rfl,r,us,rfl,.inl (SqL.of erB),(us.length:Int),rfl,by omega,by omega,fun pc hpc=>?_⟩;rw[Int.toNat_natCast];have sD:=aH hpc (.lst []);refine lO (n:=us.length) (fun i zs H'=>bA HB H'/\H' pc=some (.lst zs)/\∃hs:List Int,zs=hs.map V.int/\(∀h∈hs,∃(q:Nat) (d:RD),h=(q:Int)/\ds[q]?=some d/\d.1=.pc)/\hs.length<=i) ⟨sD,aF,[],rfl,(fun h hh=>by cases hh),Nat.le_refl _⟩ (fun i zs H' h=>h.2.1) ?_ ?_
 ·rintro i zs H5 hi ⟨s5,e5,hs,rfl,hh,hl⟩ C hC;obtain⟨⟨k,u,v,p⟩,hd⟩:∃d,ds[i]?=some d:=⟨_,List.getElem?_eq_getElem (by omega)⟩
  obtain⟨t,z,et,hT,fz⟩:=(hRB.same s5).at hd;have at_:atI us (0+(i:Int))=some (.ref t):=by rw[Int.zero_add];exact bO et
  refine⟨hZ.1,hZ.2,?_⟩;refine⟨_,rfl,_,rfl,r,us,_,_,rfl,rfl,SqL.of (s5 _ _ erB),at_,t,_,0,_,rfl,rfl,hT,rfl,rfl,_,rfl,?_⟩
  by_cases hk:k=.pc
  ·refine L2.ifT (by show decide (V.str k.wd=V.str "piece")=true;rw[uM];exact decide_eq_true hk) ⟨_,rfl,e5,bF (by rw[List.length_map];omega),hC _ _ ⟨s5.change hpc,aF,hs++[0+(i:Int)],by rw[List.map_append];rfl,fun h hh'=>?_,by rw[List.length_append];simp only[List.length_cons,List.length_nil];omega⟩⟩;rcases List.mem_append.mp hh' with z | z
   ·exact hh h z
   ·have:h=0+(i:Int):=by simpa using z
    rw[this,Int.zero_add];exact⟨i,_,rfl,hd,hk⟩
  ·exact L2.ifF (by show decide (V.str k.wd=V.str "piece")=false;rw[uM];exact decide_eq_false hk) (hC _ _ ⟨s5,e5,hs,rfl,hh,by omega⟩)
 rintro zs HC ⟨sC,eC,hs,rfl,hh,hl⟩;refine⟨_,rfl,by show 0<=sizeLine;decide,fun O hO=>?_⟩;have sO:=aH hO (.lst []);refine rG (SqL.of (sO _ _ eC)) (SqL.of aF) ⟨_,rfl,?_⟩;generalize upd HC O (.lst [])=HD at sO ⊢
 cases hs with
 |nil=>exact L2.ifT rfl (q _)
 |cons h0 hs=>
 refine L2.ifF rfl ?_;have sBD:=sC.trans sO;have eD:=sO _ _ eC;refine⟨_,rfl,_,rfl,a,ns,3,3,rfl,rfl,(s0B.trans sBD).seq hS,h63,fun cE HE sE=>⟨_,rfl,pc,_,rfl,.inl (SqL.of (sE _ _ eD)),cE,1,_,rfl,by decide,by decide,(by show (0:Int) < (((h0 :: hs).map V.int).length:Int);rw[List.length_map,List.length_cons];omega),fun y' HF y0 y1 sF=>?_⟩⟩;have y1:y' < (((h0 :: hs).map V.int).length:Int):=y1;rw[List.length_map] at y1;obtain⟨y,rfl⟩:∃y:Nat,y'=(y:Int):=⟨y'.toNat,by omega⟩
 obtain⟨hv,ehv⟩:∃h,(h0 :: hs)[y]?=some h:=⟨_,List.getElem?_eq_getElem (by omega)⟩
 obtain⟨i,⟨kd,u,v,sz⟩,rfl,hd,hk⟩:=hh hv (List.mem_of_getElem? ehv);have hk:kd=.pc:=hk;subst hk;have sDF:=sE.trans sF;refine⟨pc,_,_,_,rfl,rfl,SqL.of (sDF _ _ eD),bO (show ((h0 :: hs).map V.int)[y]?=some (.int (i:Int)) by rw[List.getElem?_map,ehv];rfl),?_⟩;have sBF:=sBD.trans sDF;have hi:i < ds.length:=(List.getElem?_eq_some_iff.mp hd).1;have erF:=sBF _ _ erB;have hRF:=hRB.same sBF;have ntF:=ntB.same sBF;have s0F:=s0B.trans sBF;clear sE sF sDF sO sC sBD eC eD erB hRB ntB sBF;obtain⟨t,z,et,ht,fz⟩:=hRF.at hd;have ea:atI us (i:Int)=some (.ref t):=bO et;refine⟨_,rfl,_,rfl,r,us,_,_,rfl,rfl,SqL.of erF,ea,3,rfl,t,_,rfl,ht,(by show ¬(_/\3=4);omega),fun A2 hA2=>?_⟩;have sG:=aH hA2 (.tup [.str "piece",.int u,.int v]);have eG:upd HF A2 (.tup [.str "piece",.int u,.int v]) A2=some (.tup [.str "piece",.int u,.int v]):=aF;show Ft _ _ (upd HF A2 (.tup [.str "piece",.int u,.int v])) _;generalize upd HF A2 (.tup [.str "piece",.int u,.int v])=HG at sG eG ⊢;refine⟨_,rfl,a,ns,3,3,rfl,rfl,(s0F.trans sG).seq hS,h63,fun cH HH sH=>⟨cH,2,40,rfl,by decide,by decide,by decide,fun y5 HI y50 y51 sI=>⟨_,_,rfl,rfl,?_⟩⟩⟩;have b0:(9:Int)≠0:=by decide
 have le:=Mq.oZ (t:=1+y5) b0;have bT:Mq.B 44 (1+y5):=iR (by omega) (by omega);have bB:Mq.B 44 9:=iR (by omega) (by omega);refine⟨1+y5,9,44,rfl,b0,bB,by omega,fun zN HJ sJ eJ=>?_⟩;have lp:=Mq.gQ (t:=1+y5) b0;have bp:Mq.Bd 44 (Mq.red (1+y5) 9):=⟨bT.le le.1,bB.le le.2⟩
 have pp:0 < (Mq.red (1+y5) 9).1:=Mq.uF (by omega) (by omega);have fJ:Fq K HJ zN (Mq.red (1+y5) 9):=Fq.of eJ;generalize Mq.red (1+y5) 9=pN at lp bp pp fJ;refine⟨by show 1<=sizeLine;decide,fun oN hoN=>?_⟩;have sK:=aH hoN (.tup [.ref zN]);have eK:upd HJ oN (.tup [.ref zN]) oN=some (.tup [.ref zN]):=aF;generalize upd HJ oN (.tup [.ref zN])=HK at sK eK ⊢;have sGK:=sH.trans (sI.trans (sJ.trans sK));refine⟨A2,oN,_,_,rfl,rfl,SqT.of (sGK _ _ eG),SqT.of eK,(by simp),(by show 4<=sizeLine;decide),(fun z=>by cases z),fun _ A5 hA5=>?_⟩;have sL:=aH hA5 (.tup ([.str "piece",.int u,.int v]++[.ref zN]));have eL:upd HK A5 (.tup ([.str "piece",.int u,.int v]++[.ref zN])) A5=some (.tup ([.str "piece",.int u,.int v]++[.ref zN])):=aF;generalize upd HK A5 (.tup ([.str "piece",.int u,.int v]++[.ref zN]))=HL at sL eL ⊢;have sFL:=sG.trans (sGK.trans sL);have erL:=sFL _ _ erF;have fL:=(sK.trans sL).fq fJ;have ixk:ixN us.length (i:Int)=some i:=uK (by omega);refine⟨_,rfl,_,rfl,r,us,_,i,rfl,rfl,erL,ixk,?_⟩;have hR2:Rts K HL (us.set i (.ref A5)) (ds.set i (.pc,u,v,pN)):=Rts.set (k:=.pc) (SqT.of eL) fL i (hRF.same sFL);have hRM:=Rts.upd (o:=.lst (us.set i (.ref A5))) erL hR2;have fM:Fq K (upd HL r (.lst (us.set i (.ref A5)))) zN pN:=SqT.upd fL erL;have etM:SqT K (upd HL r (.lst (us.set i (.ref A5)))) A5 [.str "piece",.int u,.int v,.ref zN]:=SqT.upd (SqT.of eL) erL;have sx:bU r HL (upd HL r (.lst (us.set i (.ref A5)))):=fun b o h nb=>by rw[aU nb];exact h
 have ntM:=(ntF.same sFL).x erL sx nlr;have erM:upd HL r (.lst (us.set i (.ref A5))) r=some (.lst (us.set i (.ref A5))):=aF;have s0M:bA H (upd HL r (.lst (us.set i (.ref A5)))):=(s0F.trans sFL).change nr0;generalize upd HL r (.lst (us.set i (.ref A5)))=HM at hRM fM etM sx ntM erM s0M ⊢;have eat:atI (us.set i (.ref A5)) (i:Int)=some (.ref A5):=bO (by rw[List.getElem?_set_self (by omega)]);obtain⟨dn,hn⟩:=ntM.ob;refine⟨_,rfl,n,dn,_,rfl,hn,eO _ _ (by decide +kernel) (by decide +kernel),_,rfl,_,rfl,_,rfl,r,_,_,_,rfl,rfl,SqL.of erM,eat,A5,_,_,_,rfl,rfl,etM,rfl,?_⟩;obtain⟨ts,elM,_⟩:=ntM.ls;refine⟨n,l,zN,(m:Int),(i:Int),ds,.pc,u,v,sz,pN,rfl,ntM,by omega,by rw[Int.toNat_natCast];exact hd,fM,lp,(fun _=>pp),bp.mono (by omega),fun HN sN ntN=>?_⟩;rw[Int.toNat_natCast] at ntN;have rok2:cV m 44 (ds.set i (.pc,u,v,pN)):=qP m20 (fun d hd'=>by
  rcases List.mem_or_eq_of_mem_set hd' with h | h
  ·exact hK d h
  ·obtain⟨⟨i0,i1,j0,j1,_,_,_⟩,_⟩:=hK _ (List.mem_of_getElem? hd);rw[h];exact⟨⟨i0,i1,j0,j1,lp,fun _=>pp,bp.mono (by omega)⟩,bp⟩) (by rw[List.length_set];exact l24)
 have s0N:bA H HN:=fun b o h=>sN b o (s0M b o h) (bD h nl0);refine⟨_,rfl,_,rfl,_,rfl,_,rfl,_,rfl,a,ns,3,3,rfl,rfl,s0N.seq hS,h63,fun cO HO sO=>?_⟩;exact⟨n,l,r,_,m,44,x,cO,_,rfl,ntN.same sO,SqL.of (sO _ _ (sN _ _ erM (Ne.symm nlr))),(bU.rts elM sN hRM).same sO,rok2,hx,fun H' _=>q H'⟩
end
end K62
namespace L2
open PySem PySem.W
theorem xO {q:Program}{loose:List Str}{XP:(Str->Option Value)->Heap->Prop}{K:Params->PySem.W.Frag}{bs:List Addr}{n t:Nat}{r:RowW}{d:DefRec}{kwd:List (Str × Expr)}{run:Value->List Value->Sem Value}(e:∀P,bs=(K P).map (·.1))(h:WalkO q loose XP (fun w h=>(K w.params).In h) r d kwd run):WalkX q loose XP (PySem.W.X.obsZ bs) (PySem.W.X.valZ K n t) r d kwd run:=
 fun w s₀ s₁ mg mb G y a o pm cd doc dV kV h1 h2 h3 h4 h5 h6 args vals as' L=>h w s₀ s₁ mg mb G (InK.keeps w _ _ (PySem.W.X.z_facts e y).2.1 L.keeps) a o pm cd doc dV kV h1 h2 h3 h4 h5 h6 args vals as'
end L2
namespace K62
open PySem L2
theorem cF {us:List Value}(h:us.length=1):∃a,us=[a]:=match us,h with | [a],_=>⟨a,rfl⟩
theorem bY {us:List Value}(h:us.length=2):∃a b,us=[a,b]:=match us,h with | [a,b],_=>⟨a,b,rfl⟩
theorem eU {us:List Value}(h:us.length=3):∃a b c,us=[a,b,c]:=match us,h with | [a,b,c],_=>⟨a,b,c,rfl⟩
theorem uW {us:List Value}(h:us.length=4):∃a b c d,us=[a,b,c,d]:=match us,h with | [a,b,c,d],_=>⟨a,b,c,d,rfl⟩
theorem Ay {us:List Value}(h:us.length=5):∃a b c d e,us=[a,b,c,d,e]:=match us,h with | [a,b,c,d,e],_=>⟨a,b,c,d,e,rfl⟩
theorem Dw {l:PySem.W.OpenLaw}{w:World}{K:PySem.W.Frag}{h:Heap}{mg:Str->Option Value}{fa:Addr}(X:K.In h)(G:h.Ns mainGlobals mg)(hfa:mg "law"=some (.ref fa)){c_NoRoad:Addr}{c_Row:Addr}{c_Piece:Addr}{c_Push:Addr}{c_Hold:Addr}{c_Net:Addr}{f1:Addr}{od1 an1:Option Addr}{sl1:Array (Option Value)}{oc1 kV1 dc1 pm1 cd1 ct1:Value}{f2:Addr}{od2 an2:Option Addr}{sl2:Array (Option Value)}{oc2 kV2 dc2 pm2 cd2 ct2:Value}{f3:Addr}{od3 an3:Option Addr}{sl3:Array (Option Value)}{oc3 kV3 dc3 pm3 cd3 ct3:Value}{f4:Addr}{od4 an4:Option Addr}{sl4:Array (Option Value)}{oc4 kV4 dc4 pm4 cd4 ct4:Value}{T4:Addr}{oT4:Value}{dT4:Option Addr}{nT4:Nat}{sT4:Array (Option Value)}{tk4:Tok}{f5:Addr}{od5 an5:Option Addr}{sl5:Array (Option Value)}{oc5 kV5 dc5 pm5 cd5 ct5:Value}{f6:Addr}{od6 an6:Option Addr}{sl6:Array (Option Value)}{oc6 kV6 dc6 pm6 cd6 ct6:Value}{f7:Addr}{od7 an7:Option Addr}{sl7:Array (Option Value)}{oc7 kV7 dc7 pm7 cd7 ct7:Value}{f8:Addr}{od8 an8:Option Addr}{sl8:Array (Option Value)}{oc8 kV8 dc8 pm8 cd8 ct8:Value}{f9:Addr}{od9 an9:Option Addr}{sl9:Array (Option Value)}{oc9 kV9 dc9 pm9 cd9 ct9:Value}{f10:Addr}{od10 an10:Option Addr}{sl10:Array (Option Value)}{oc10 kV10 dc10 pm10 cd10 ct10:Value}{f11:Addr}{od11 an11:Option Addr}{sl11:Array (Option Value)}{oc11 kV11 dc11 pm11 cd11 ct11:Value}{f12:Addr}{od12 an12:Option Addr}{sl12:Array (Option Value)}{oc12 kV12 dc12 pm12 cd12 ct12:Value}{f13:Addr}{od13 an13:Option Addr}{sl13:Array (Option Value)}{oc13 kV13 dc13 pm13 cd13 ct13:Value}{f14:Addr}{od14 an14:Option Addr}{sl14:Array (Option Value)}{oc14 kV14 dc14 pm14 cd14 ct14:Value}{f15:Addr}{od15 an15:Option Addr}{sl15:Array (Option Value)}{oc15 kV15 dc15 pm15 cd15 ct15:Value}{f16:Addr}{od16 an16:Option Addr}{sl16:Array (Option Value)}{oc16 kV16 dc16 pm16 cd16 ct16:Value}{f17:Addr}{od17 an17:Option Addr}{sl17:Array (Option Value)}{oc17 kV17 dc17 pm17 cd17 ct17:Value}{f18:Addr}{od18 an18:Option Addr}{sl18:Array (Option Value)}{oc18 kV18 dc18 pm18 cd18 ct18:Value}{f19:Addr}{od19 an19:Option Addr}{sl19:Array (Option Value)}{oc19 kV19 dc19 pm19 cd19 ct19:Value}{f20:Addr}{od20 an20:Option Addr}{sl20:Array (Option Value)}{oc20 kV20 dc20 pm20 cd20 ct20:Value}{f21:Addr}{od21 an21:Option Addr}{sl21:Array (Option Value)}{oc21 kV21 dc21 pm21 cd21 ct21:Value}{f22:Addr}{od22 an22:Option Addr}{sl22:Array (Option Value)}{oc22 kV22 dc22 pm22 cd22 ct22:Value}{f23:Addr}{od23 an23:Option Addr}{sl23:Array (Option Value)}{oc23 kV23 dc23 pm23 cd23 ct23:Value}{f24:Addr}{od24 an24:Option Addr}{sl24:Array (Option Value)}{oc24 kV24 dc24 pm24 cd24 ct24:Value}{f25:Addr}{od25 an25:Option Addr}{sl25:Array (Option Value)}{oc25 kV25 dc25 pm25 cd25 ct25:Value}{f26:Addr}{od26 an26:Option Addr}{sl26:Array (Option Value)}{oc26 kV26 dc26 pm26 cd26 ct26:Value}{f27:Addr}{od27 an27:Option Addr}{sl27:Array (Option Value)}{oc27 kV27 dc27 pm27 cd27 ct27:Value}{f28:Addr}{od28 an28:Option Addr}{sl28:Array (Option Value)}{oc28 kV28 dc28 pm28 cd28 ct28:Value}{f29:Addr}{od29 an29:Option Addr}{sl29:Array (Option Value)}{oc29 kV29 dc29 pm29 cd29 ct29:Value}{f30:Addr}{od30 an30:Option Addr}{sl30:Array (Option Value)}{oc30 kV30 dc30 pm30 cd30 ct30:Value}{f31:Addr}{od31 an31:Option Addr}{sl31:Array (Option Value)}{oc31 kV31 dc31 pm31 cd31 ct31:Value}{f32:Addr}{od32 an32:Option Addr}{sl32:Array (Option Value)}{oc32 kV32 dc32 pm32 cd32 ct32:Value}{f33:Addr}{od33 an33:Option Addr}{sl33:Array (Option Value)}{oc33 kV33 dc33 pm33 cd33 ct33:Value}{f34:Addr}{od34 an34:Option Addr}{sl34:Array (Option Value)}{oc34 kV34 dc34 pm34 cd34 ct34:Value}{f35:Addr}{od35 an35:Option Addr}{sl35:Array (Option Value)}{oc35 kV35 dc35 pm35 cd35 ct35:Value}{f36:Addr}{od36 an36:Option Addr}{sl36:Array (Option Value)}{oc36 kV36 dc36 pm36 cd36 ct36:Value}{f37:Addr}{od37 an37:Option Addr}{sl37:Array (Option Value)}{oc37 kV37 dc37 pm37 cd37 ct37:Value}{f38:Addr}{od38 an38:Option Addr}{sl38:Array (Option Value)}{oc38 kV38 dc38 pm38 cd38 ct38:Value}{f39:Addr}{od39 an39:Option Addr}{sl39:Array (Option Value)}{oc39 kV39 dc39 pm39 cd39 ct39:Value}{f40:Addr}{od40 an40:Option Addr}{sl40:Array (Option Value)}{oc40 kV40 dc40 pm40 cd40 ct40:Value}{f41:Addr}{od41 an41:Option Addr}{sl41:Array (Option Value)}{oc41 kV41 dc41 pm41 cd41 ct41:Value}{f42:Addr}{od42 an42:Option Addr}{sl42:Array (Option Value)}{oc42 kV42 dc42 pm42 cd42 ct42:Value}{f43:Addr}{od43 an43:Option Addr}{sl43:Array (Option Value)}{oc43 kV43 dc43 pm43 cd43 ct43:Value}{f44:Addr}{od44 an44:Option Addr}{sl44:Array (Option Value)}{oc44 kV44 dc44 pm44 cd44 ct44:Value}{f45:Addr}{od45 an45:Option Addr}{sl45:Array (Option Value)}{oc45 kV45 dc45 pm45 cd45 ct45:Value}{f46:Addr}{od46 an46:Option Addr}{sl46:Array (Option Value)}{oc46 kV46 dc46 pm46 cd46 ct46:Value}{f47:Addr}{od47 an47:Option Addr}{sl47:Array (Option Value)}{oc47 kV47 dc47 pm47 cd47 ct47:Value}{f48:Addr}{od48 an48:Option Addr}{sl48:Array (Option Value)}{oc48 kV48 dc48 pm48 cd48 ct48:Value}{f49:Addr}{od49 an49:Option Addr}{sl49:Array (Option Value)}{oc49 kV49 dc49 pm49 cd49 ct49:Value}{aN:Addr}{dN:Option Addr}{nN:Nat}{sN:Array (Option Value)}{t0 t1:Tok}{tM:Tok}{tR:Tok}(y_NoRoad:PySem.W.nsIn K mainGlobals "NoRoad"=some (some (.ref c_NoRoad)))(y_Row:PySem.W.nsIn K mainGlobals "Row"=some (some (.ref c_Row)))(y_Piece:PySem.W.nsIn K mainGlobals "Piece"=some (some (.ref c_Piece)))(y_Push:PySem.W.nsIn K mainGlobals "Push"=some (some (.ref c_Push)))(y_Hold:PySem.W.nsIn K mainGlobals "Hold"=some (some (.ref c_Hold)))(y_Net:PySem.W.nsIn K mainGlobals "Net"=some (some (.ref c_Net)))(a1:PySem.W.nsIn K mainGlobals "is_whole"=some (some (.ref f1)))(l1:K.lookup f1=some ⟨oc1,od1,.func (PySem.W.fnOf "is_whole" "is_whole" (aP jJ) (aJ jJ) (aE jJ) .none kV1 dc1 pm1 an1 cd1 ct1),sl1⟩)(c1:PySem.W.codeIn K cd1 "is_whole"=true)(k1:PySem.W.keepIn K (.ref f1)=true)(a2:PySem.W.nsIn K mainGlobals "greatest_common"=some (some (.ref f2)))(l2:K.lookup f2=some ⟨oc2,od2,.func (PySem.W.fnOf "greatest_common" "greatest_common" (aP sGc) (aJ sGc) (aE sGc) .none kV2 dc2 pm2 an2 cd2 ct2),sl2⟩)(c2:PySem.W.codeIn K cd2 "greatest_common"=true)(k2:PySem.W.keepIn K (.ref f2)=true)(a3:PySem.W.nsIn K mainGlobals "under"=some (some (.ref f3)))(l3:K.lookup f3=some ⟨oc3,od3,.func (PySem.W.fnOf "under" "under" (aP jY) (aJ jY) (aE jY) .none kV3 dc3 pm3 an3 cd3 ct3),sl3⟩)(c3:PySem.W.codeIn K cd3 "under"=true)(k3:PySem.W.keepIn K (.ref f3)=true)(a4:PySem.W.nsIn K mainGlobals "fraction"=some (some (.ref f4)))(l4:K.lookup f4=some ⟨oc4,od4,.func (PySem.W.fnOf "fraction" "fraction" (aP fQ) (aJ fQ) (aE fQ) (.ref T4) kV4 dc4 pm4 an4 cd4 ct4),sl4⟩)(c4:PySem.W.codeIn K cd4 "fraction"=true)(k4:PySem.W.keepIn K (.ref f4)=true)(lt4:K.lookup T4=some ⟨oT4,dT4,.seq #[.int 1 tk4] nT4,sT4⟩)(a5:PySem.W.nsIn K mainGlobals "plus"=some (some (.ref f5)))(l5:K.lookup f5=some ⟨oc5,od5,.func (PySem.W.fnOf "plus" "plus" (aP oM) (aJ oM) (aE oM) .none kV5 dc5 pm5 an5 cd5 ct5),sl5⟩)(c5:PySem.W.codeIn K cd5 "plus"=true)(k5:PySem.W.keepIn K (.ref f5)=true)(a6:PySem.W.nsIn K mainGlobals "total"=some (some (.ref f6)))(l6:K.lookup f6=some ⟨oc6,od6,.func (PySem.W.fnOf "total" "total" (aP jT) (aJ jT) (aE jT) .none kV6 dc6 pm6 an6 cd6 ct6),sl6⟩)(c6:PySem.W.codeIn K cd6 "total"=true)(k6:PySem.W.keepIn K (.ref f6)=true)(a7:PySem.W.nsIn K mainGlobals "is_fraction"=some (some (.ref f7)))(l7:K.lookup f7=some ⟨oc7,od7,.func (PySem.W.fnOf "is_fraction" "is_fraction" (aP wI) (aJ wI) (aE wI) .none kV7 dc7 pm7 an7 cd7 ct7),sl7⟩)(c7:PySem.W.codeIn K cd7 "is_fraction"=true)(k7:PySem.W.keepIn K (.ref f7)=true)(a8_0:PySem.W.findIn K (.ref c_Piece) "__init__"=some (some (.ref f8)))(a8_1:PySem.W.findIn K (.ref c_Push) "__init__"=some (some (.ref f8)))(a8_2:PySem.W.findIn K (.ref c_Hold) "__init__"=some (some (.ref f8)))(i8:PySem.W.isFn K (.ref f8)=true)(l8:K.lookup f8=some ⟨oc8,od8,.func (PySem.W.fnOf "__init__" "Row.__init__" (aP kC) (aJ kC) (aE kC) .none kV8 dc8 pm8 an8 cd8 ct8),sl8⟩)(c8:PySem.W.codeIn K cd8 "Row.__init__"=true)(k8:PySem.W.keepIn K (.ref f8)=true)(a9_0:PySem.W.findIn K (.ref c_Piece) "word"=some (some (.ref f9)))(i9:PySem.W.isFn K (.ref f9)=true)(l9:K.lookup f9=some ⟨oc9,od9,.func (PySem.W.fnOf "word" "Piece.word" (aP fC) (aJ fC) (aE fC) .none kV9 dc9 pm9 an9 cd9 ct9),sl9⟩)(c9:PySem.W.codeIn K cd9 "Piece.word"=true)(k9:PySem.W.keepIn K (.ref f9)=true)(a10_0:PySem.W.findIn K (.ref c_Push) "word"=some (some (.ref f10)))(i10:PySem.W.isFn K (.ref f10)=true)(l10:K.lookup f10=some ⟨oc10,od10,.func (PySem.W.fnOf "word" "Push.word" (aP fD) (aJ fD) (aE fD) .none kV10 dc10 pm10 an10 cd10 ct10),sl10⟩)(c10:PySem.W.codeIn K cd10 "Push.word"=true)(k10:PySem.W.keepIn K (.ref f10)=true)(a11_0:PySem.W.findIn K (.ref c_Hold) "word"=some (some (.ref f11)))(i11:PySem.W.isFn K (.ref f11)=true)(l11:K.lookup f11=some ⟨oc11,od11,.func (PySem.W.fnOf "word" "Hold.word" (aP fA) (aJ fA) (aE fA) .none kV11 dc11 pm11 an11 cd11 ct11),sl11⟩)(c11:PySem.W.codeIn K cd11 "Hold.word"=true)(k11:PySem.W.keepIn K (.ref f11)=true)(a12_0:PySem.W.findIn K (.ref c_Piece) "joins"=some (some (.ref f12)))(i12:PySem.W.isFn K (.ref f12)=true)(l12:K.lookup f12=some ⟨oc12,od12,.func (PySem.W.fnOf "joins" "Piece.joins" (aP eF) (aJ eF) (aE eF) .none kV12 dc12 pm12 an12 cd12 ct12),sl12⟩)(c12:PySem.W.codeIn K cd12 "Piece.joins"=true)(k12:PySem.W.keepIn K (.ref f12)=true)(a13_0:PySem.W.findIn K (.ref c_Push) "joins"=some (some (.ref f13)))(i13:PySem.W.isFn K (.ref f13)=true)(l13:K.lookup f13=some ⟨oc13,od13,.func (PySem.W.fnOf "joins" "Push.joins" (aP eI) (aJ eI) (aE eI) .none kV13 dc13 pm13 an13 cd13 ct13),sl13⟩)(c13:PySem.W.codeIn K cd13 "Push.joins"=true)(k13:PySem.W.keepIn K (.ref f13)=true)(a14_0:PySem.W.findIn K (.ref c_Hold) "joins"=some (some (.ref f14)))(i14:PySem.W.isFn K (.ref f14)=true)(l14:K.lookup f14=some ⟨oc14,od14,.func (PySem.W.fnOf "joins" "Hold.joins" (aP eN) (aJ eN) (aE eN) .none kV14 dc14 pm14 an14 cd14 ct14),sl14⟩)(c14:PySem.W.codeIn K cd14 "Hold.joins"=true)(k14:PySem.W.keepIn K (.ref f14)=true)(a15_0:PySem.W.findIn K (.ref c_Piece) "told"=some (some (.ref f15)))(a15_1:PySem.W.findIn K (.ref c_Push) "told"=some (some (.ref f15)))(a15_2:PySem.W.findIn K (.ref c_Hold) "told"=some (some (.ref f15)))(i15:PySem.W.isFn K (.ref f15)=true)(l15:K.lookup f15=some ⟨oc15,od15,.func (PySem.W.fnOf "told" "Row.told" (aP jL) (aJ jL) (aE jL) .none kV15 dc15 pm15 an15 cd15 ct15),sl15⟩)(c15:PySem.W.codeIn K cd15 "Row.told"=true)(k15:PySem.W.keepIn K (.ref f15)=true)(a16:PySem.W.nsIn K mainGlobals "row_of"=some (some (.ref f16)))(l16:K.lookup f16=some ⟨oc16,od16,.func (PySem.W.fnOf "row_of" "row_of" (aP jR) (aJ jR) (aE jR) .none kV16 dc16 pm16 an16 cd16 ct16),sl16⟩)(c16:PySem.W.codeIn K cd16 "row_of"=true)(k16:PySem.W.keepIn K (.ref f16)=true)(a17:PySem.W.nsIn K mainGlobals "is_piece_size"=some (some (.ref f17)))(l17:K.lookup f17=some ⟨oc17,od17,.func (PySem.W.fnOf "is_piece_size" "is_piece_size" (aP sPS) (aJ sPS) (aE sPS) .none kV17 dc17 pm17 an17 cd17 ct17),sl17⟩)(c17:PySem.W.codeIn K cd17 "is_piece_size"=true)(k17:PySem.W.keepIn K (.ref f17)=true)(a18:PySem.W.nsIn K mainGlobals "is_number_below"=some (some (.ref f18)))(l18:K.lookup f18=some ⟨oc18,od18,.func (PySem.W.fnOf "is_number_below" "is_number_below" (aP sNB) (aJ sNB) (aE sNB) .none kV18 dc18 pm18 an18 cd18 ct18),sl18⟩)(c18:PySem.W.codeIn K cd18 "is_number_below"=true)(k18:PySem.W.keepIn K (.ref f18)=true)(a19:PySem.W.nsIn K mainGlobals "refuse_size"=some (some (.ref f19)))(l19:K.lookup f19=some ⟨oc19,od19,.func (PySem.W.fnOf "refuse_size" "refuse_size" (aP sRS) (aJ sRS) (aE sRS) .none kV19 dc19 pm19 an19 cd19 ct19),sl19⟩)(c19:PySem.W.codeIn K cd19 "refuse_size"=true)(k19:PySem.W.keepIn K (.ref f19)=true)(a20:PySem.W.nsIn K mainGlobals "refuse_points"=some (some (.ref f20)))(l20:K.lookup f20=some ⟨oc20,od20,.func (PySem.W.fnOf "refuse_points" "refuse_points" (aP sRP) (aJ sRP) (aE sRP) .none kV20 dc20 pm20 an20 cd20 ct20),sl20⟩)(c20:PySem.W.codeIn K cd20 "refuse_points"=true)(k20:PySem.W.keepIn K (.ref f20)=true)(a21:PySem.W.nsIn K mainGlobals "refuse_number"=some (some (.ref f21)))(l21:K.lookup f21=some ⟨oc21,od21,.func (PySem.W.fnOf "refuse_number" "refuse_number" (aP sRN) (aJ sRN) (aE sRN) .none kV21 dc21 pm21 an21 cd21 ct21),sl21⟩)(c21:PySem.W.codeIn K cd21 "refuse_number"=true)(k21:PySem.W.keepIn K (.ref f21)=true)(a22_0:PySem.W.findIn K (.ref c_Net) "__init__"=some (some (.ref f22)))(i22:PySem.W.isFn K (.ref f22)=true)(l22:K.lookup f22=some ⟨oc22,od22,.func (PySem.W.fnOf "__init__" "Net.__init__" (aP kD) (aJ kD) (aE kD) .none kV22 dc22 pm22 an22 cd22 ct22),sl22⟩)(c22:PySem.W.codeIn K cd22 "Net.__init__"=true)(k22:PySem.W.keepIn K (.ref f22)=true)(a23_0:PySem.W.findIn K (.ref c_Net) "many"=some (some (.ref f23)))(i23:PySem.W.isFn K (.ref f23)=true)(l23:K.lookup f23=some ⟨oc23,od23,.func (PySem.W.fnOf "many" "Net.many" (aP nQ) (aJ nQ) (aE nQ) .none kV23 dc23 pm23 an23 cd23 ct23),sl23⟩)(c23:PySem.W.codeIn K cd23 "Net.many"=true)(k23:PySem.W.keepIn K (.ref f23)=true)(a24_0:PySem.W.findIn K (.ref c_Net) "add"=some (some (.ref f24)))(i24:PySem.W.isFn K (.ref f24)=true)(l24:K.lookup f24=some ⟨oc24,od24,.func (PySem.W.fnOf "add" "Net.add" (aP vL) (aJ vL) (aE vL) .none kV24 dc24 pm24 an24 cd24 ct24),sl24⟩)(c24:PySem.W.codeIn K cd24 "Net.add"=true)(k24:PySem.W.keepIn K (.ref f24)=true)(a25_0:PySem.W.findIn K (.ref c_Net) "change"=some (some (.ref f25)))(i25:PySem.W.isFn K (.ref f25)=true)(l25:K.lookup f25=some ⟨oc25,od25,.func (PySem.W.fnOf "change" "Net.change" (aP gZ) (aJ gZ) (aE gZ) .none kV25 dc25 pm25 an25 cd25 ct25),sl25⟩)(c25:PySem.W.codeIn K cd25 "Net.change"=true)(k25:PySem.W.keepIn K (.ref f25)=true)(a26_0:PySem.W.findIn K (.ref c_Net) "rows"=some (some (.ref f26)))(i26:PySem.W.isFn K (.ref f26)=true)(l26:K.lookup f26=some ⟨oc26,od26,.func (PySem.W.fnOf "rows" "Net.rows" (aP oI) (aJ oI) (aE oI) .none kV26 dc26 pm26 an26 cd26 ct26),sl26⟩)(c26:PySem.W.codeIn K cd26 "Net.rows"=true)(k26:PySem.W.keepIn K (.ref f26)=true)(a27:PySem.W.nsIn K mainGlobals "steps_from"=some (some (.ref f27)))(l27:K.lookup f27=some ⟨oc27,od27,.func (PySem.W.fnOf "steps_from" "steps_from" (aP kJ) (aJ kJ) (aE kJ) .none kV27 dc27 pm27 an27 cd27 ct27),sl27⟩)(c27:PySem.W.codeIn K cd27 "steps_from"=true)(k27:PySem.W.keepIn K (.ref f27)=true)(a28:PySem.W.nsIn K mainGlobals "nearest"=some (some (.ref f28)))(l28:K.lookup f28=some ⟨oc28,od28,.func (PySem.W.fnOf "nearest" "nearest" (aP mY) (aJ mY) (aE mY) .none kV28 dc28 pm28 an28 cd28 ct28),sl28⟩)(c28:PySem.W.codeIn K cd28 "nearest"=true)(k28:PySem.W.keepIn K (.ref f28)=true)(a29:PySem.W.nsIn K mainGlobals "length_of"=some (some (.ref f29)))(l29:K.lookup f29=some ⟨oc29,od29,.func (PySem.W.fnOf "length_of" "length_of" (aP nF) (aJ nF) (aE nF) .none kV29 dc29 pm29 an29 cd29 ct29),sl29⟩)(c29:PySem.W.codeIn K cd29 "length_of"=true)(k29:PySem.W.keepIn K (.ref f29)=true)(a30:PySem.W.nsIn K mainGlobals "least_from"=some (some (.ref f30)))(l30:K.lookup f30=some ⟨oc30,od30,.func (PySem.W.fnOf "least_from" "least_from" (aP kK) (aJ kK) (aE kK) .none kV30 dc30 pm30 an30 cd30 ct30),sl30⟩)(c30:PySem.W.codeIn K cd30 "least_from"=true)(k30:PySem.W.keepIn K (.ref f30)=true)(a31:PySem.W.nsIn K mainGlobals "distances"=some (some (.ref f31)))(l31:K.lookup f31=some ⟨oc31,od31,.func (PySem.W.fnOf "distances" "distances" (aP oO) (aJ oO) (aE oO) .none kV31 dc31 pm31 an31 cd31 ct31),sl31⟩)(c31:PySem.W.codeIn K cd31 "distances"=true)(k31:PySem.W.keepIn K (.ref f31)=true)(a32:PySem.W.nsIn K mainGlobals "road_sum"=some (some (.ref f32)))(l32:K.lookup f32=some ⟨oc32,od32,.func (PySem.W.fnOf "road_sum" "road_sum" (aP nI) (aJ nI) (aE nI) .none kV32 dc32 pm32 an32 cd32 ct32),sl32⟩)(c32:PySem.W.codeIn K cd32 "road_sum"=true)(k32:PySem.W.keepIn K (.ref f32)=true)(a33:PySem.W.nsIn K mainGlobals "least_road"=some (some (.ref f33)))(l33:K.lookup f33=some ⟨oc33,od33,.func (PySem.W.fnOf "least_road" "least_road" (aP kF) (aJ kF) (aE kF) .none kV33 dc33 pm33 an33 cd33 ct33),sl33⟩)(c33:PySem.W.codeIn K cd33 "least_road"=true)(k33:PySem.W.keepIn K (.ref f33)=true)(a34:PySem.W.nsIn K mainGlobals "_law_draw"=some (some (.ref f34)))(l34:K.lookup f34=some ⟨oc34,od34,.func (PySem.W.fnOf "_law_draw" "_law_draw" (aP oK) (aJ oK) (aE oK) .none kV34 dc34 pm34 an34 cd34 ct34),sl34⟩)(c34:PySem.W.codeIn K cd34 "_law_draw"=true)(k34:PySem.W.keepIn K (.ref f34)=true)(a35:PySem.W.nsIn K mainGlobals "_law_mix"=some (some (.ref f35)))(l35:K.lookup f35=some ⟨oc35,od35,.func (PySem.W.fnOf "_law_mix" "_law_mix" (aP kQ) (aJ kQ) (aE kQ) .none kV35 dc35 pm35 an35 cd35 ct35),sl35⟩)(c35:PySem.W.codeIn K cd35 "_law_mix"=true)(k35:PySem.W.keepIn K (.ref f35)=true)(a36:PySem.W.nsIn K mainGlobals "_law_far"=some (some (.ref f36)))(l36:K.lookup f36=some ⟨oc36,od36,.func (PySem.W.fnOf "_law_far" "_law_far" (aP wO) (aJ wO) (aE wO) .none kV36 dc36 pm36 an36 cd36 ct36),sl36⟩)(c36:PySem.W.codeIn K cd36 "_law_far"=true)(k36:PySem.W.keepIn K (.ref f36)=true)(a37:PySem.W.nsIn K mainGlobals "_law_lowest"=some (some (.ref f37)))(l37:K.lookup f37=some ⟨oc37,od37,.func (PySem.W.fnOf "_law_lowest" "_law_lowest" (aP gR) (aJ gR) (aE gR) .none kV37 dc37 pm37 an37 cd37 ct37),sl37⟩)(c37:PySem.W.codeIn K cd37 "_law_lowest"=true)(k37:PySem.W.keepIn K (.ref f37)=true)(a38:PySem.W.nsIn K mainGlobals "_law_plus"=some (some (.ref f38)))(l38:K.lookup f38=some ⟨oc38,od38,.func (PySem.W.fnOf "_law_plus" "_law_plus" (aP kL) (aJ kL) (aE kL) .none kV38 dc38 pm38 an38 cd38 ct38),sl38⟩)(c38:PySem.W.codeIn K cd38 "_law_plus"=true)(k38:PySem.W.keepIn K (.ref f38)=true)(a39:PySem.W.nsIn K mainGlobals "_law_told"=some (some (.ref f39)))(l39:K.lookup f39=some ⟨oc39,od39,.func (PySem.W.fnOf "_law_told" "_law_told" (aP oF) (aJ oF) (aE oF) .none kV39 dc39 pm39 an39 cd39 ct39),sl39⟩)(c39:PySem.W.codeIn K cd39 "_law_told"=true)(k39:PySem.W.keepIn K (.ref f39)=true)(a40:PySem.W.nsIn K mainGlobals "_law_net"=some (some (.ref f40)))(l40:K.lookup f40=some ⟨oc40,od40,.func (PySem.W.fnOf "_law_net" "_law_net" (aP kI) (aJ kI) (aE kI) .none kV40 dc40 pm40 an40 cd40 ct40),sl40⟩)(c40:PySem.W.codeIn K cd40 "_law_net"=true)(k40:PySem.W.keepIn K (.ref f40)=true)(a41:PySem.W.nsIn K mainGlobals "_law_rows"=some (some (.ref f41)))(l41:K.lookup f41=some ⟨oc41,od41,.func (PySem.W.fnOf "_law_rows" "_law_rows" (aP jZ) (aJ jZ) (aE jZ) .none kV41 dc41 pm41 an41 cd41 ct41),sl41⟩)(c41:PySem.W.codeIn K cd41 "_law_rows"=true)(k41:PySem.W.keepIn K (.ref f41)=true)(a42:PySem.W.nsIn K mainGlobals "_law_over"=some (some (.ref f42)))(l42:K.lookup f42=some ⟨oc42,od42,.func (PySem.W.fnOf "_law_over" "_law_over" (aP vZ) (aJ vZ) (aE vZ) .none kV42 dc42 pm42 an42 cd42 ct42),sl42⟩)(c42:PySem.W.codeIn K cd42 "_law_over"=true)(k42:PySem.W.keepIn K (.ref f42)=true)(a43:PySem.W.nsIn K mainGlobals "_law_priced"=some (some (.ref f43)))(l43:K.lookup f43=some ⟨oc43,od43,.func (PySem.W.fnOf "_law_priced" "_law_priced" (aP vU) (aJ vU) (aE vU) .none kV43 dc43 pm43 an43 cd43 ct43),sl43⟩)(c43:PySem.W.codeIn K cd43 "_law_priced"=true)(k43:PySem.W.keepIn K (.ref f43)=true)(a44:PySem.W.nsIn K mainGlobals "_law_step"=some (some (.ref f44)))(l44:K.lookup f44=some ⟨oc44,od44,.func (PySem.W.fnOf "_law_step" "_law_step" (aP oE) (aJ oE) (aE oE) .none kV44 dc44 pm44 an44 cd44 ct44),sl44⟩)(c44:PySem.W.codeIn K cd44 "_law_step"=true)(k44:PySem.W.keepIn K (.ref f44)=true)(a45:PySem.W.nsIn K mainGlobals "_law_gone"=some (some (.ref f45)))(l45:K.lookup f45=some ⟨oc45,od45,.func (PySem.W.fnOf "_law_gone" "_law_gone" (aP oP) (aJ oP) (aE oP) .none kV45 dc45 pm45 an45 cd45 ct45),sl45⟩)(c45:PySem.W.codeIn K cd45 "_law_gone"=true)(k45:PySem.W.keepIn K (.ref f45)=true)(a46:PySem.W.nsIn K mainGlobals "_law_wander"=some (some (.ref f46)))(l46:K.lookup f46=some ⟨oc46,od46,.func (PySem.W.fnOf "_law_wander" "_law_wander" (aP vF) (aJ vF) (aE vF) .none kV46 dc46 pm46 an46 cd46 ct46),sl46⟩)(c46:PySem.W.codeIn K cd46 "_law_wander"=true)(k46:PySem.W.keepIn K (.ref f46)=true)(a47:PySem.W.nsIn K mainGlobals "_law_no_road"=some (some (.ref f47)))(l47:K.lookup f47=some ⟨oc47,od47,.func (PySem.W.fnOf "_law_no_road" "_law_no_road" (aP wJ) (aJ wJ) (aE wJ) .none kV47 dc47 pm47 an47 cd47 ct47),sl47⟩)(c47:PySem.W.codeIn K cd47 "_law_no_road"=true)(k47:PySem.W.keepIn K (.ref f47)=true)(a48:PySem.W.nsIn K mainGlobals "_law_walked"=some (some (.ref f48)))(l48:K.lookup f48=some ⟨oc48,od48,.func (PySem.W.fnOf "_law_walked" "_law_walked" (aP vS) (aJ vS) (aE vS) .none kV48 dc48 pm48 an48 cd48 ct48),sl48⟩)(c48:PySem.W.codeIn K cd48 "_law_walked"=true)(k48:PySem.W.keepIn K (.ref f48)=true)(a49:PySem.W.nsIn K mainGlobals "law"=some (some (.ref f49)))(l49:K.lookup f49=some ⟨oc49,od49,.func (PySem.W.fnOf "law" "law" (aP oU) (aJ oU) (aE oU) .none kV49 dc49 pm49 an49 cd49 ct49),sl49⟩)(c49:PySem.W.codeIn K cd49 "law"=true)(k49:PySem.W.keepIn K (.ref f49)=true)(v_NOUGHT:PySem.W.nsIn K mainGlobals "NOUGHT"=some (some (.ref aN)))(v_MOST_POINTS:PySem.W.nsIn K mainGlobals "MOST_POINTS"=some (some (.int 20 tM)))(v_MOST_ROWS:PySem.W.nsIn K mainGlobals "MOST_ROWS"=some (some (.int 40 tR)))(lN:K.lookup aN=some ⟨.type "tuple",dN,.seq #[.int 0 t0,.int 1 t1] nN,sN⟩)(pg_Piece:PySem.W.plainGet K c_Piece Str.empty=true)(hd_Piece:PySem.W.hasDictIn K c_Piece=true)(po_Piece:PySem.W.plainOver K c_Piece=true)(sa_Piece:PySem.W.findIn K (.ref c_Piece) "__setattr__"=some (some (.builtin "object.__setattr__")))(mk_Piece:PySem.W.makesIn K c_Piece=true)(kc_Piece:PySem.W.keepIn K (.ref c_Piece)=true)(t1_Piece:PySem.W.findIn K (.ref c_Piece) "__class__"=some (some (.builtin "object.__class__")))(t4_Piece:PySem.W.mroIn K c_Piece (.type "object")=some true)(na_Piece_start:PySem.W.findIn K (.ref c_Piece) "start"=some none)(na_Piece_goal:PySem.W.findIn K (.ref c_Piece) "goal"=some none)(na_Piece_size:PySem.W.findIn K (.ref c_Piece) "size"=some none)(pg_Push:PySem.W.plainGet K c_Push Str.empty=true)(hd_Push:PySem.W.hasDictIn K c_Push=true)(po_Push:PySem.W.plainOver K c_Push=true)(sa_Push:PySem.W.findIn K (.ref c_Push) "__setattr__"=some (some (.builtin "object.__setattr__")))(mk_Push:PySem.W.makesIn K c_Push=true)(kc_Push:PySem.W.keepIn K (.ref c_Push)=true)(t1_Push:PySem.W.findIn K (.ref c_Push) "__class__"=some (some (.builtin "object.__class__")))(t4_Push:PySem.W.mroIn K c_Push (.type "object")=some true)(na_Push_start:PySem.W.findIn K (.ref c_Push) "start"=some none)(na_Push_goal:PySem.W.findIn K (.ref c_Push) "goal"=some none)(na_Push_size:PySem.W.findIn K (.ref c_Push) "size"=some none)(pg_Hold:PySem.W.plainGet K c_Hold Str.empty=true)(hd_Hold:PySem.W.hasDictIn K c_Hold=true)(po_Hold:PySem.W.plainOver K c_Hold=true)(sa_Hold:PySem.W.findIn K (.ref c_Hold) "__setattr__"=some (some (.builtin "object.__setattr__")))(mk_Hold:PySem.W.makesIn K c_Hold=true)(kc_Hold:PySem.W.keepIn K (.ref c_Hold)=true)(t1_Hold:PySem.W.findIn K (.ref c_Hold) "__class__"=some (some (.builtin "object.__class__")))(t4_Hold:PySem.W.mroIn K c_Hold (.type "object")=some true)(na_Hold_start:PySem.W.findIn K (.ref c_Hold) "start"=some none)(na_Hold_goal:PySem.W.findIn K (.ref c_Hold) "goal"=some none)(na_Hold_size:PySem.W.findIn K (.ref c_Hold) "size"=some none)(tt2:PySem.W.specialIn K (.builtin "object.__class__") "__get__"=some (some (.builtin "getset_descriptor.__get__")))(tt3:PySem.W.takesIn K (.builtin "object.__class__")=some true)(isR_Piece:PySem.W.kitOne K (.ref c_Piece) (.ref c_Row)=some true)(isR_Push:PySem.W.kitOne K (.ref c_Push) (.ref c_Row)=some true)(isR_Hold:PySem.W.kitOne K (.ref c_Hold) (.ref c_Row)=some true)(isK_Piece_Push:PySem.W.kitOne K (.ref c_Piece) (.ref c_Push)=some false)(isK_Piece_Hold:PySem.W.kitOne K (.ref c_Piece) (.ref c_Hold)=some false)(isK_Push_Piece:PySem.W.kitOne K (.ref c_Push) (.ref c_Piece)=some false)(isK_Push_Hold:PySem.W.kitOne K (.ref c_Push) (.ref c_Hold)=some false)(isK_Hold_Piece:PySem.W.kitOne K (.ref c_Hold) (.ref c_Piece)=some false)(isK_Hold_Push:PySem.W.kitOne K (.ref c_Hold) (.ref c_Push)=some false)(pg_Net:PySem.W.plainGet K c_Net Str.empty=true)(hd_Net:PySem.W.hasDictIn K c_Net=true)(po_Net:PySem.W.plainOver K c_Net=true)(sa_Net:PySem.W.findIn K (.ref c_Net) "__setattr__"=some (some (.builtin "object.__setattr__")))(mk_Net:PySem.W.makesIn K c_Net=true)(kc_Net:PySem.W.keepIn K (.ref c_Net)=true)(t1_Net:PySem.W.findIn K (.ref c_Net) "__class__"=some (some (.builtin "object.__class__")))(t4_Net:PySem.W.mroIn K c_Net (.type "object")=some true)(na_Net_point_count:PySem.W.findIn K (.ref c_Net) "point_count"=some none)(na_Net_kept:PySem.W.findIn K (.ref c_Net) "kept"=some none)(x1_NoRoad:PySem.W.excIn K c_NoRoad Hs "ValueError.__new__"=true)(x2_NoRoad:PySem.W.findIn K (.ref c_NoRoad) "__getattribute__"=some (some (.builtin "BaseException.__getattribute__")))(x3_NoRoad:PySem.W.findIn K (.ref c_NoRoad) "__getattr__"=some none)(x4_NoRoad:PySem.W.mroIn K c_NoRoad (.type "BaseException")=some true)(x5_NoRoad:PySem.W.mroIn K c_NoRoad (.type "object")=some true)(x6_NoRoad:PySem.W.findIn K (.ref c_NoRoad) "__class__"=some (some (.builtin "object.__class__")))(x7_NoRoad:PySem.W.specialIn K (.builtin "object.__class__") "__get__"=some (some (.builtin "getset_descriptor.__get__")))(x8_NoRoad:PySem.W.takesIn K (.builtin "object.__class__")=some true)(x9_NoRoad:(PySem.W.clsIn K c_NoRoad).isSome=true)(xm_R:PySem.W.exmOne K (.ref c_NoRoad) (.ref c_NoRoad)=some true)(z1:PySem.W.nsIn K mainGlobals "isinstance"=some none)(z2:PySem.W.nsIn K mainGlobals "int"=some none)(z3:PySem.W.nsIn K mainGlobals "bool"=some none)(z4:PySem.W.nsIn K mainGlobals "abs"=some none)(z5:PySem.W.nsIn K mainGlobals "len"=some none)(z6:PySem.W.nsIn K mainGlobals "range"=some none)(z7:PySem.W.nsIn K mainGlobals "str"=some none)(z8:PySem.W.nsIn K mainGlobals "tuple"=some none)(z9:PySem.W.nsIn K mainGlobals "list"=some none)(z10:PySem.W.nsIn K mainGlobals "all"=some none)(z11:PySem.W.nsIn K mainGlobals "enumerate"=some none)(z12:PySem.W.nsIn K mainGlobals "min"=some none) :
  ∃fd:FuncData,(∀(s:Shared) (v:Value),BindsTo s fd ⟨[v],[]⟩ [("_law_script",v)])/\∀base:Heap,K.In base->base.Ns mainGlobals mg->aK l.prog w K mg base CX0 9 fa fd ["_law_script"] (tL K):=by
 have e:=hfa.symm.trans (PySem.W.mg_of X G a49)
 cases e
 have mc_NoRoad:=PySem.W.mg_of X G y_NoRoad;have mc_Row:=PySem.W.mg_of X G y_Row;have mc_Piece:=PySem.W.mg_of X G y_Piece;have mc_Push:=PySem.W.mg_of X G y_Push;have mc_Hold:=PySem.W.mg_of X G y_Hold;have mc_Net:=PySem.W.mg_of X G y_Net;have F1:=aW (st:=jJ) l1 c1 k1;have m1:=PySem.W.mg_of X G a1;have b1:=F1.binds (ps:=["thing"]) fun _ _ _ _ _ _ us hl=>by obtain⟨_,rfl⟩:=cF hl;rfl
 have F2:=aW (st:=sGc) l2 c2 k2;have m2:=PySem.W.mg_of X G a2;have b2:=F2.binds (ps:=["one","other"]) fun _ _ _ _ _ _ us hl=>by obtain⟨_,_,rfl⟩:=bY hl;rfl
 have F3:=aW (st:=jY) l3 c3 k3;have m3:=PySem.W.mg_of X G a3;have b3:=F3.binds (ps:=["one","other"]) fun _ _ _ _ _ _ us hl=>by obtain⟨_,_,rfl⟩:=bY hl;rfl
 have F4:=aW (st:=fQ) l4 c4 k4;have m4:=PySem.W.mg_of X G a4;have b4:aR K _ ["top","bottom"] []:=fun s us XX hl=>match us,hl with | [_,_],_=>PySem.W.binds_K (fd:=PySem.W.fnOf "fraction" "fraction" (aP fQ) (aJ fQ) (aE fQ) (.ref T4) kV4 dc4 pm4 an4 cd4 ct4) XX rfl lt4 rfl rfl rfl
 have bd4:aR K _ ["top","bottom"] [.int 1 tk4]:=fun s us XX hl=>match us,(show us.length=1 by simp at hl;omega) with | [_],_=>PySem.W.binds_K (fd:=PySem.W.fnOf "fraction" "fraction" (aP fQ) (aJ fQ) (aE fQ) (.ref T4) kV4 dc4 pm4 an4 cd4 ct4) XX rfl lt4 rfl rfl rfl
 have F5:=aW (st:=oM) l5 c5 k5;have m5:=PySem.W.mg_of X G a5;have b5:=F5.binds (ps:=["one","other"]) fun _ _ _ _ _ _ us hl=>by obtain⟨_,_,rfl⟩:=bY hl;rfl
 have F6:=aW (st:=jT) l6 c6 k6;have m6:=PySem.W.mg_of X G a6;have b6:=F6.binds (ps:=["some"]) fun _ _ _ _ _ _ us hl=>by obtain⟨_,rfl⟩:=cF hl;rfl
 have F7:=aW (st:=wI) l7 c7 k7;have m7:=PySem.W.mg_of X G a7;have b7:=F7.binds (ps:=["thing"]) fun _ _ _ _ _ _ us hl=>by obtain⟨_,rfl⟩:=cF hl;rfl
 have F8:=aW (st:=kC) l8 c8 k8;have b8:=F8.binds (ps:=["self","start","goal","size"]) fun _ _ _ _ _ _ us hl=>by obtain⟨_,_,_,_,rfl⟩:=uW hl;rfl
 have F9:=aW (st:=fC) l9 c9 k9;have b9:=F9.binds (ps:=["self"]) fun _ _ _ _ _ _ us hl=>by obtain⟨_,rfl⟩:=cF hl;rfl
 have F10:=aW (st:=fD) l10 c10 k10;have b10:=F10.binds (ps:=["self"]) fun _ _ _ _ _ _ us hl=>by obtain⟨_,rfl⟩:=cF hl;rfl
 have F11:=aW (st:=fA) l11 c11 k11;have b11:=F11.binds (ps:=["self"]) fun _ _ _ _ _ _ us hl=>by obtain⟨_,rfl⟩:=cF hl;rfl
 have F12:=aW (st:=eF) l12 c12 k12;have b12:=F12.binds (ps:=["self"]) fun _ _ _ _ _ _ us hl=>by obtain⟨_,rfl⟩:=cF hl;rfl
 have F13:=aW (st:=eI) l13 c13 k13;have b13:=F13.binds (ps:=["self"]) fun _ _ _ _ _ _ us hl=>by obtain⟨_,rfl⟩:=cF hl;rfl
 have F14:=aW (st:=eN) l14 c14 k14;have b14:=F14.binds (ps:=["self"]) fun _ _ _ _ _ _ us hl=>by obtain⟨_,rfl⟩:=cF hl;rfl
 have F15:=aW (st:=jL) l15 c15 k15;have b15:=F15.binds (ps:=["self"]) fun _ _ _ _ _ _ us hl=>by obtain⟨_,rfl⟩:=cF hl;rfl
 have F16:=aW (st:=jR) l16 c16 k16;have m16:=PySem.W.mg_of X G a16;have b16:=F16.binds (ps:=["told"]) fun _ _ _ _ _ _ us hl=>by obtain⟨_,rfl⟩:=cF hl;rfl
 have F17:=aW (st:=sPS) l17 c17 k17;have m17:=PySem.W.mg_of X G a17;have b17:=F17.binds (ps:=["thing"]) fun _ _ _ _ _ _ us hl=>by obtain⟨_,rfl⟩:=cF hl;rfl
 have F18:=aW (st:=sNB) l18 c18 k18;have m18:=PySem.W.mg_of X G a18;have b18:=F18.binds (ps:=["thing","bound"]) fun _ _ _ _ _ _ us hl=>by obtain⟨_,_,rfl⟩:=bY hl;rfl
 have F19:=aW (st:=sRS) l19 c19 k19;have m19:=PySem.W.mg_of X G a19;have b19:=F19.binds (ps:=["word","size"]) fun _ _ _ _ _ _ us hl=>by obtain⟨_,_,rfl⟩:=bY hl;rfl
 have F20:=aW (st:=sRP) l20 c20 k20;have m20:=PySem.W.mg_of X G a20;have b20:=F20.binds (ps:=["some","many"]) fun _ _ _ _ _ _ us hl=>by obtain⟨_,_,rfl⟩:=bY hl;rfl
 have F21:=aW (st:=sRN) l21 c21 k21;have m21:=PySem.W.mg_of X G a21;have b21:=F21.binds (ps:=["k","count"]) fun _ _ _ _ _ _ us hl=>by obtain⟨_,_,rfl⟩:=bY hl;rfl
 have F22:=aW (st:=kD) l22 c22 k22;have b22:=F22.binds (ps:=["self","many"]) fun _ _ _ _ _ _ us hl=>by obtain⟨_,_,rfl⟩:=bY hl;rfl
 have F23:=aW (st:=nQ) l23 c23 k23;have b23:=F23.binds (ps:=["self"]) fun _ _ _ _ _ _ us hl=>by obtain⟨_,rfl⟩:=cF hl;rfl
 have F24:=aW (st:=vL) l24 c24 k24;have b24:=F24.binds (ps:=["self","row"]) fun _ _ _ _ _ _ us hl=>by obtain⟨_,_,rfl⟩:=bY hl;rfl
 have F25:=aW (st:=gZ) l25 c25 k25;have b25:=F25.binds (ps:=["self","k","size"]) fun _ _ _ _ _ _ us hl=>by obtain⟨_,_,_,rfl⟩:=eU hl;rfl
 have F26:=aW (st:=oI) l26 c26 k26;have b26:=F26.binds (ps:=["self"]) fun _ _ _ _ _ _ us hl=>by obtain⟨_,rfl⟩:=cF hl;rfl
 have F27:=aW (st:=kJ) l27 c27 k27;have m27:=PySem.W.mg_of X G a27;have b27:=F27.binds (ps:=["rows","numbers","point"]) fun _ _ _ _ _ _ us hl=>by obtain⟨_,_,_,rfl⟩:=eU hl;rfl
 have F28:=aW (st:=mY) l28 c28 k28;have m28:=PySem.W.mg_of X G a28;have b28:=F28.binds (ps:=["waiting"]) fun _ _ _ _ _ _ us hl=>by obtain⟨_,rfl⟩:=cF hl;rfl
 have F29:=aW (st:=nF) l29 c29 k29;have m29:=PySem.W.mg_of X G a29;have b29:=F29.binds (ps:=["row"]) fun _ _ _ _ _ _ us hl=>by obtain⟨_,rfl⟩:=cF hl;rfl
 have F30:=aW (st:=kK) l30 c30 k30;have m30:=PySem.W.mg_of X G a30;have b30:=F30.binds (ps:=["net","a"]) fun _ _ _ _ _ _ us hl=>by obtain⟨_,_,rfl⟩:=bY hl;rfl
 have F31:=aW (st:=oO) l31 c31 k31;have m31:=PySem.W.mg_of X G a31;have b31:=F31.binds (ps:=["net","a"]) fun _ _ _ _ _ _ us hl=>by obtain⟨_,_,rfl⟩:=bY hl;rfl
 have F32:=aW (st:=nI) l32 c32 k32;have m32:=PySem.W.mg_of X G a32;have b32:=F32.binds (ps:=["net","road"]) fun _ _ _ _ _ _ us hl=>by obtain⟨_,_,rfl⟩:=bY hl;rfl
 have F33:=aW (st:=kF) l33 c33 k33;have m33:=PySem.W.mg_of X G a33;have b33:=F33.binds (ps:=["net","a","b"]) fun _ _ _ _ _ _ us hl=>by obtain⟨_,_,_,rfl⟩:=eU hl;rfl
 have F34:=aW (st:=oK) l34 c34 k34;have m34:=PySem.W.mg_of X G a34;have b34:=F34.binds (ps:=["_law_script","_law_k"]) fun _ _ _ _ _ _ us hl=>by obtain⟨_,_,rfl⟩:=bY hl;rfl
 have F35:=aW (st:=kQ) l35 c35 k35;have m35:=PySem.W.mg_of X G a35;have b35:=F35.binds (ps:=["_law_cell","_law_turn","_law_many"]) fun _ _ _ _ _ _ us hl=>by obtain⟨_,_,_,rfl⟩:=eU hl;rfl
 have F36:=aW (st:=wO) l36 c36 k36;have m36:=PySem.W.mg_of X G a36;have b36:=F36.binds (ps:=["_law_cell","_law_turn"]) fun _ _ _ _ _ _ us hl=>by obtain⟨_,_,rfl⟩:=bY hl;rfl
 have F37:=aW (st:=gR) l37 c37 k37;have m37:=PySem.W.mg_of X G a37;have b37:=F37.binds (ps:=["_law_top","_law_bottom"]) fun _ _ _ _ _ _ us hl=>by obtain⟨_,_,rfl⟩:=bY hl;rfl
 have F38:=aW (st:=kL) l38 c38 k38;have m38:=PySem.W.mg_of X G a38;have b38:=F38.binds (ps:=["_law_one","_law_other"]) fun _ _ _ _ _ _ us hl=>by obtain⟨_,_,rfl⟩:=bY hl;rfl
 have F39:=aW (st:=oF) l39 c39 k39;have m39:=PySem.W.mg_of X G a39;have b39:=F39.binds (ps:=["_law_found","_law_due"]) fun _ _ _ _ _ _ us hl=>by obtain⟨_,_,rfl⟩:=bY hl;rfl
 have F40:=aW (st:=kI) l40 c40 k40;have m40:=PySem.W.mg_of X G a40;have b40:=F40.binds (ps:=["_law_many","_law_rows_here"]) fun _ _ _ _ _ _ us hl=>by obtain⟨_,_,rfl⟩:=bY hl;rfl
 have F41:=aW (st:=jZ) l41 c41 k41;have m41:=PySem.W.mg_of X G a41;have b41:=F41.binds (ps:=["_law_script","_law_many"]) fun _ _ _ _ _ _ us hl=>by obtain⟨_,_,rfl⟩:=bY hl;rfl
 have F42:=aW (st:=vZ) l42 c42 k42;have m42:=PySem.W.mg_of X G a42;have b42:=F42.binds (ps:=["_law_one","_law_other","_law_size"]) fun _ _ _ _ _ _ us hl=>by obtain⟨_,_,_,rfl⟩:=eU hl;rfl
 have F43:=aW (st:=vU) l43 c43 k43;have m43:=PySem.W.mg_of X G a43;have b43:=F43.binds (ps:=["_law_rows_here","_law_told_here","_law_many","_law_point"]) fun _ _ _ _ _ _ us hl=>by obtain⟨_,_,_,_,rfl⟩:=uW hl;rfl
 have F44:=aW (st:=oE) l44 c44 k44;have m44:=PySem.W.mg_of X G a44;have b44:=F44.binds (ps:=["_law_rows_here","_law_step_here"]) fun _ _ _ _ _ _ us hl=>by obtain⟨_,_,rfl⟩:=bY hl;rfl
 have F45:=aW (st:=oP) l45 c45 k45;have m45:=PySem.W.mg_of X G a45;have b45:=F45.binds (ps:=["_law_rows_here","_law_road","_law_point"]) fun _ _ _ _ _ _ us hl=>by obtain⟨_,_,_,rfl⟩:=eU hl;rfl
 have F46:=aW (st:=vF) l46 c46 k46;have m46:=PySem.W.mg_of X G a46;have b46:=F46.binds (ps:=["_law_rows_here","_law_point","_law_cells"]) fun _ _ _ _ _ _ us hl=>by obtain⟨_,_,_,rfl⟩:=eU hl;rfl
 have F47:=aW (st:=wJ) l47 c47 k47;have m47:=PySem.W.mg_of X G a47;have b47:=F47.binds (ps:=["_law_net_here","_law_point","_law_other"]) fun _ _ _ _ _ _ us hl=>by obtain⟨_,_,_,rfl⟩:=eU hl;rfl
 have F48:=aW (st:=vS) l48 c48 k48;have m48:=PySem.W.mg_of X G a48;have b48:=F48.binds (ps:=["_law_net_here","_law_rows_here","_law_many","_law_point","_law_cell"]) fun _ _ _ _ _ _ us hl=>by obtain⟨_,_,_,_,_,rfl⟩:=Ay hl;rfl
 have F49:=aW (st:=oU) l49 c49 k49;have m49:=PySem.W.mg_of X G a49;have b49:=F49.binds (ps:=["_law_script"]) fun _ _ _ _ _ _ us hl=>by obtain⟨_,rfl⟩:=cF hl;rfl
 have mv_NOUGHT:=PySem.W.mg_of X G v_NOUGHT;have mv_MOST_POINTS:=PySem.W.mg_of X G v_MOST_POINTS;have mv_MOST_ROWS:=PySem.W.mg_of X G v_MOST_ROWS;have n_isinstance:=PySem.W.mg_none_of X G z1;have n_int:=PySem.W.mg_none_of X G z2;have n_bool:=PySem.W.mg_none_of X G z3;have n_abs:=PySem.W.mg_none_of X G z4;have n_len:=PySem.W.mg_none_of X G z5;have n_range:=PySem.W.mg_none_of X G z6;have n_str:=PySem.W.mg_none_of X G z7;have n_tuple:=PySem.W.mg_none_of X G z8;have n_list:=PySem.W.mg_none_of X G z9;have n_all:=PySem.W.mg_none_of X G z10;have n_enumerate:=PySem.W.mg_none_of X G z11;have n_min:=PySem.W.mg_none_of X G z12;refine⟨PySem.W.fnOf "law" "law" (aP oU) (aJ oU) (aE oU) .none kV49 dc49 pm49 an49 cd49 ct49,fun s v=>.of_eq rfl,fun base _ _=>?_⟩;have bl:Bl mg:=⟨n_isinstance,n_int,n_bool,n_abs⟩
 have T:RT K mg c_Row (kd3 c_Piece c_Push c_Hold):=⟨fG ⟨pg_Piece,hd_Piece,po_Piece,sa_Piece⟩ ⟨pg_Push,hd_Push,po_Push,sa_Push⟩ ⟨pg_Hold,hd_Hold,po_Hold,sa_Hold⟩,fG na_Piece_start na_Push_start na_Hold_start,fG na_Piece_goal na_Push_goal na_Hold_goal,fG na_Piece_size na_Push_size na_Hold_size,fG t1_Piece t1_Push t1_Hold,tt2,tt3,fG t4_Piece t4_Push t4_Hold,fG isR_Piece isR_Push isR_Hold,fG (fG (lE _ _) isK_Piece_Push isK_Piece_Hold) (fG isK_Push_Piece (lE _ _) isK_Push_Hold) (fG isK_Hold_Piece isK_Hold_Push (lE _ _)),mc_Row,fG mc_Piece mc_Push mc_Hold⟩
 have fN:∀H,Fq K H aN (0,1):=Fq.mod lN;have NTx:NT K mg c_Net:=⟨⟨pg_Net,hd_Net,po_Net,sa_Net⟩,na_Net_point_count,na_Net_kept,t1_Net,tt2,tt3,t4_Net,mc_Net⟩
 have R1:=yL (P:=l.prog) (w:=w) (K:=K) (mg:=mg) (base:=base) (CX:=CX0) F1 bl;have R2:=Fv (P:=l.prog) (w:=w) (K:=K) (mg:=mg) (base:=base) (CX:=CX0) F2 bl;have R3:=wY (P:=l.prog) (w:=w) (K:=K) (mg:=mg) (base:=base) (CX:=CX0) F3;have R4:=Bg (P:=l.prog) (w:=w) (K:=K) (mg:=mg) (base:=base) (CX:=CX0) F4  R1 b1 k1 m1 R2 b2 k2 m2;have R5:=zR (P:=l.prog) (w:=w) (K:=K) (mg:=mg) (base:=base) (CX:=CX0) F5  R4 b4 k4 m4;have R6:=yW (P:=l.prog) (w:=w) (K:=K) (mg:=mg) (base:=base) (CX:=CX0) F6 fN mv_NOUGHT R5 b5 k5 m5;have R7:=Es (P:=l.prog) (w:=w) (K:=K) (mg:=mg) (base:=base) (CX:=CX0) F7 bl n_len n_tuple R1 b1 k1 m1 R2 b2 k2 m2;have R8:=xG (P:=l.prog) (w:=w) (K:=K) (mg:=mg) (base:=base) (CX:=CX0) F8 T;have R9:=rM (P:=l.prog) (w:=w) (K:=K) (mg:=mg) (base:=base) (CX:=CX0) F9;have R10:=tE (P:=l.prog) (w:=w) (K:=K) (mg:=mg) (base:=base) (CX:=CX0) F10;have R11:=sR (P:=l.prog) (w:=w) (K:=K) (mg:=mg) (base:=base) (CX:=CX0) F11;have GW:∀k,aK l.prog w K mg base CX0 1 (kd3 f9 f10 f11 k) (kd3 _ _ _ k) ["self"] (jX k):=fG (R9) (R10) (R11);have bW:∀k,aR K (kd3 _ _ _ k) ["self"] []:=fG (b9) (b10) (b11);have mW:∀k,gE K (kd3 c_Piece c_Push c_Hold k) "word" (kd3 f9 f10 f11 k):=fG (⟨a9_0,i9,k9⟩) (⟨a10_0,i10,k10⟩) (⟨a11_0,i11,k11⟩);have R12:=qC (P:=l.prog) (w:=w) (K:=K) (mg:=mg) (base:=base) (CX:=CX0) F12;have R13:=rD (P:=l.prog) (w:=w) (K:=K) (mg:=mg) (base:=base) (CX:=CX0) F13;have R14:=rE (P:=l.prog) (w:=w) (K:=K) (mg:=mg) (base:=base) (CX:=CX0) F14;have GJ:∀k,aK l.prog w K mg base CX0 1 (kd3 f12 f13 f14 k) (kd3 _ _ _ k) ["self"] (iP k):=fG (R12) (R13) (R14);have bJ:∀k,aR K (kd3 _ _ _ k) ["self"] []:=fG (b12) (b13) (b14);have mJ:∀k,gE K (kd3 c_Piece c_Push c_Hold k) "joins" (kd3 f12 f13 f14 k):=fG (⟨a12_0,i12,k12⟩) (⟨a13_0,i13,k13⟩) (⟨a14_0,i14,k14⟩);have R15:=yU (P:=l.prog) (w:=w) (K:=K) (mg:=mg) (base:=base) (CX:=CX0) F15 T GW bW mW;have mT:∀k,gE K (kd3 c_Piece c_Push c_Hold k) "told" f15:=fG (⟨a15_0,i15,k15⟩) (⟨a15_1,i15,k15⟩) (⟨a15_2,i15,k15⟩);have MK:∀k,Mk K (kd3 c_Piece c_Push c_Hold k) f8:=fG (⟨mk_Piece,a8_0,i8,kc_Piece⟩) (⟨mk_Push,a8_1,i8,kc_Push⟩) (⟨mk_Hold,a8_2,i8,kc_Hold⟩);have R16:=xX (P:=l.prog) (w:=w) (K:=K) (mg:=mg) (base:=base) (CX:=CX0) F16 T bl n_str R8 b8 MK;have R17:=Hl (P:=l.prog) (w:=w) (K:=K) (mg:=mg) (base:=base) (CX:=CX0) F17 fN mv_NOUGHT (qL R7) b7 k7 m7 R3 b3 k3 m3;have R18:=Fw (P:=l.prog) (w:=w) (K:=K) (mg:=mg) (base:=base) (CX:=CX0) F18  R1 b1 k1 m1;have R19:=Ga (P:=l.prog) (w:=w) (K:=K) (mg:=mg) (base:=base) (CX:=CX0) F19 (qL R7) b7 k7 m7 R17 b17 k17 m17;have R20:=Ei (P:=l.prog) (w:=w) (K:=K) (mg:=mg) (base:=base) (CX:=CX0) F20 n_all R18 b18 k18 m18;have R21:=Gm (P:=l.prog) (w:=w) (K:=K) (mg:=mg) (base:=base) (CX:=CX0) F21  R18 b18 k18 m18;have R22:=zA (P:=l.prog) (w:=w) (K:=K) (mg:=mg) (base:=base) (CX:=CX0) F22 NTx mv_MOST_POINTS R1 b1 k1 m1;have R23:=Al (P:=l.prog) (w:=w) (K:=K) (mg:=mg) (base:=base) (CX:=CX0) F23 NTx;have R24:=Ff (P:=l.prog) (w:=w) (K:=K) (mg:=mg) (base:=base) (CX:=CX0) F24 NTx mv_MOST_ROWS n_len T R15 b15 mT (Ex R20) b20 k20 m20 R19 b19 k19 m19;have R25:=vY (P:=l.prog) (w:=w) (K:=K) (mg:=mg) (base:=base) (CX:=CX0) F25 NTx n_len R21 b21 k21 m21 R19 b19 k19 m19;have R26:=Ae (P:=l.prog) (w:=w) (K:=K) (mg:=mg) (base:=base) (CX:=CX0) F26 NTx R16 b16 k16 m16;have MN:Mk K c_Net f22:=⟨mk_Net,a22_0,i22,kc_Net⟩
 have R27:=zH (P:=l.prog) (w:=w) (K:=K) (mg:=mg) (base:=base) (CX:=CX0) F27 T;have R28:=Am (P:=l.prog) (w:=w) (K:=K) (mg:=mg) (base:=base) (CX:=CX0) F28  R3 b3 k3 m3;have R29:=zP (P:=l.prog) (w:=w) (K:=K) (mg:=mg) (base:=base) (CX:=CX0) F29 T fN mv_NOUGHT GW bW mW;have R30:=yM (P:=l.prog) (w:=w) (K:=K) (mg:=mg) (base:=base) (CX:=CX0) F30 n_enumerate n_len NTx T fN mv_NOUGHT GJ bJ mJ R26 b26 ⟨a26_0,i26,k26⟩ (vR R28) b28 k28 m28 R27 b27 k27 m27 R5 b5 k5 m5 R29 b29 k29 m29 R3 b3 k3 m3;have R31:=Ar (P:=l.prog) (w:=w) (K:=K) (mg:=mg) (base:=base) (CX:=CX0) F31 NTx n_range R23 b23 ⟨a23_0,i23,k23⟩ R20 b20 k20 m20 R30 b30 k30 m30;have R32:=Ab (P:=l.prog) (w:=w) (K:=K) (mg:=mg) (base:=base) (CX:=CX0) F32 NTx T R26 b26 ⟨a26_0,i26,k26⟩ R6 b6 k6 m6 R29 b29 k29 m29;have R33:=yQ (P:=l.prog) (w:=w) (K:=K) (mg:=mg) (base:=base) F33 NTx mc_NoRoad x1_NoRoad R23 b23 ⟨a23_0,i23,k23⟩ R20 b20 k20 m20 R30 b30 k30 m30;have R34:=zV (P:=l.prog) (w:=w) (K:=K) (mg:=mg) (base:=base) (CX:=CX0) F34;have R35:=Ee (P:=l.prog) (w:=w) (K:=K) (mg:=mg) (base:=base) (CX:=CX0) F35 n_range;have R36:=Dr (P:=l.prog) (w:=w) (K:=K) (mg:=mg) (base:=base) (CX:=CX0) F36 n_range;have R37:=wT (P:=l.prog) (w:=w) (K:=K) (mg:=mg) (base:=base) (CX:=CX0) F37 bl;have R38:=xK (P:=l.prog) (w:=w) (K:=K) (mg:=mg) (base:=base) (CX:=CX0) F38  R37 b37 k37 m37;have R39:=Au (P:=l.prog) (w:=w) (K:=K) (mg:=mg) (base:=base) (CX:=CX0) F39 bl n_len n_tuple;have R40:=xM (P:=l.prog) (w:=w) (K:=K) (mg:=mg) (base:=base) (CX:=CX0) F40 NTx R24 b24 ⟨a24_0,i24,k24⟩ R22 b22 MN R16 b16 k16 m16;have R41:=wW (P:=l.prog) (w:=w) (K:=K) (mg:=mg) (base:=base) (CX:=CX0) F41  R35 b35 k35 m35 R37 b37 k37 m37 R36 b36 k36 m36;have R42:=Fb (P:=l.prog) (w:=w) (K:=K) (mg:=mg) (base:=base) (CX:=CX0) F42;have R43:=Ez (P:=l.prog) (w:=w) (K:=K) (mg:=mg) (base:=base) (CX:=CX0) F43 n_len bl n_list n_all R39 b39 k39 m39 R42 b42 k42 m42;have R44:=Ah (P:=l.prog) (w:=w) (K:=K) (mg:=mg) (base:=base) (CX:=CX0) F44 n_len bl n_tuple;have R45:=Ao (P:=l.prog) (w:=w) (K:=K) (mg:=mg) (base:=base) (CX:=CX0) F45  R44 b44 k44 m44 R38 b38 k38 m38;have R46:=Dq (P:=l.prog) (w:=w) (K:=K) (mg:=mg) (base:=base) (CX:=CX0) F46 n_len n_range R44 b44 k44 m44 R38 b38 k38 m38 R35 b35 k35 m35;have R47:=Er (P:=l.prog) (w:=w) (K:=K) (mg:=mg) (base:=base) (CX:=CX0) F47 mc_NoRoad xm_R R33 b33 k33 m33;have R48:=Eg (P:=l.prog) (w:=w) (K:=K) (mg:=mg) (base:=base) (CX:=CX0) F48 n_len bl n_list n_range n_min R31 b31 k31 m31 R43 b43 k43 m43 R35 b35 k35 m35 R47 b47 k47 m47 (rK R33) b33 k33 m33 R45 b45 k45 m45 R39 b39 k39 m39 R32 b32 k32 m32;exact Ct (P:=l.prog) (w:=w) (K:=K) (mg:=mg) (base:=base) (CX:=CX0) F49 NTx n_len n_list n_range R25 b25 ⟨a25_0,i25,k25⟩ R34 b34 k34 m34 R41 b41 k41 m41 R40 b40 k40 m40 R35 b35 k35 m35 R48 b48 k48 m48 R46 b46 k46 m46 R39 b39 k39 m39 R32 b32 k32 m32 R37 b37 k37 m37
theorem Jf {l:PySem.W.OpenLaw}{q:Program}{loose:List Str}{XP:(Str->Option Value)->Heap->Prop}{YP:World->Heap->Prop}{d:DefRec}{K:Params->PySem.W.Frag}(hn:l.most=some 63)(hdf:d.params.defaults=[])(hY:∀(w:World) (h:Heap),YP w h->(K w.params).In h)(F:∀(w:World) (mg:Str->Option Value) (fa:Addr) (h:Heap),(K w.params).In h->h.Ns mainGlobals mg->mg d.name=some (.ref fa)->
   ∃fd:FuncData,(∀(s:Shared) (u:Value),BindsTo s fd ⟨[u],[]⟩ [("_law_script",u)])/\∀base:Heap,(K w.params).In base->base.Ns mainGlobals mg->aK l.prog w (K w.params) mg base CX0 9 fa fd ["_law_script"] (tL (K w.params))) :
  PySem.W.WalkO q loose XP YP l.row.toRowW d [] (fun f vs=>PySem.call f vs):=
 L2.zT (n:=63) (k:=9) (x:="_law_script") (CX:=fun _=>CX0) (sp:=fun w=>tL (K w.params)) hn (by decide) hdf ⟨rfl,by decide,by decide⟩ hY F (fun _ _ a ns hl _ hS=>⟨a,ns,rfl,hS,hl,fun _=>rfl⟩) fun _ _ _ _ _ z=>z
end K62
namespace PySem.W.Fast
def tw2176749741896527630:=0
def tw14112820909154105907:=0
def tw17108581620291676848:=0
def tw11968877325047223960:=0
def tw12812249184972463963:=0
def tw5017170195464645654:=0
def tw7344736100726797821:=0
def tw15346239752076286468:=0
def tw7349504109998745402:=0
def tw12034927257470089994:=0
def tw7342148092842589966:=0
def tw2755867565478433833:=0
def tw15778383809052448456:=0
def tw9335948995550164411:=0
def tw7525003437505405602:=0
def tw8096104578546214297:=0
def tw17292103207890260050:=0
def tw8884419587991008469:=0
def tw16377806329173390672:=0
def tw4822742029249917546:=0
def tw10636541223948769848:=0
def tw4298336744618601127:=0
def tw12340419580042520303:=0
def tw8595178092327781601:=0
def tw5608494818754983548:=0
def tw11949856741961188692:=0
def tw1989490575938224573:=0
def tw8226642708904445581:=0
def tw10584731547928578002:=0
def tw5948431646528091196:=0
def tw3843529638256196506:=0
def tw12443527463304191938:=0
def tw8709799091206123208:=0
def tw15229957594372217196:=0
def tw16244940847263755176:=0
def tw4022147935641647582:=0
def tw2304443005352217726:=0
def tw4675580208320913625:=0
def tw8635385618768494383:=0
def tw1489393354887528956:=0
def tw13835930026640906127:=0
def tw3304396297576842139:=0
def tw1483122056354425603:=0
def tw9608947558778062102:=0
def tw7535580157733112202:=0
def tw790728158734565119:=0
def tw3311502961995336835:=0
def tw6661141718314851982:=0
def tw7209226833965920752:=0
def tw13036040183836423738:=0
def tw6794843143418094474:=0
def tw13743482957937512196:=0
def tw1001667390084734729:=0
def tw2448505327522425710:=0
def tw497810848707997632:=0
def tw11390396027047108131:=0
def tw8724613962706490942:=0
def tw15552206226464987106:=0
def tw10055568273924754972:=0
def tw9856551734391926409:=0
def tw2482775545839106428:=0
def tw8494038944982501302:=0
def tw1388230610329350131:=0
def tw4648616073041011919:=0
def tw7881339286882961155:=0
def tw2874901910718445790:=0
def tw4694384018497159758:=0
def tw17748566486763084409:=0
def tw12488831899325806726:=0
def tw9674401761174235600:=0
def tw562935563678355590:=0
def tw18033649169634221861:=0
def tw5118328510011877513:=0
def tw689546011485508646:=0
def tw14892670567962791148:=0
def tw542508982881527198:=0
def tw15423775122752272104:=0
def tw14553679801993118416:=0
def tw16635899130145253919:=0
def tw1443812804913350524:=0
def tw12149628465824968203:=0
def tw14990482483010626286:=0
def tw9140521782055682005:=0
def tw7616463301636624913:=0
def tw15440206033584533059:=0
def tw5211354940016188964:=0
def tw11597546962369263225:=0
def tw4616592762613158668:=0
def tw17772249615704794385:=0
def tw10294332822459457680:=0
def tw6656353881972930130:=0
def tw8384095008909761621:=0
def tw4259750033513326519:=0
def tw16065075545503312701:=0
def tw4596614100741839594:=0
def tw2894768001462953095:=0
def tw14911280106155794541:=0
def tw17135626903601013872:=0
def tw12721040224502273070:=0
def tw12004553874591918818:=0
def tw10981945705478579766:=0
def tw6589919389821452487:=0
def tw11935773254486170459:=0
def tw3017965768596684811:=0
def tw2801913747603181414:=0
def tw12310713144345439652:=0
def tw8499565936736736872:=0
def tw15427730567447881230:=0
def tw12818833863867206447:=0
def tw5169336891732443412:=0
def tw10371512993833842878:=0
def tw3924235798716880053:=0
def tw1348362834740043569:=0
def tw16444817333340222975:=0
def tw17362795132250758238:=0
def tw7982959958151965834:=0
def tw9101185113286041433:=0
def tw8189523766056522407:=0
def tw15608597052843240602:=0
def tw2412215312062621420:=0
def tw13134756167396923012:=0
def tw13118559512180701309:=0
def tw15928852885120061059:=0
def tw9654716023026561667:=0
def tw11139785386680416551:=0
def tw49497431130584957:=0
def tw5754987023097243405:=0
def tw4020708507481453428:=0
def tw15225279824816725518:=0
def tw5233903098120125236:=0
def tw17001041105994026019:=0
def tw17956383459289473136:=0
def tw2530791072993349623:=0
def tw2495263170269690629:=0
def tw9958623487359513940:=0
def tw13992268834976306632:=0
def tw13114488848732331895:=0
def tw3187081071443934100:=0
def tw844415929454332074:=0
def tw15859329699929967229:=0
def tw18446349656776637741:=0
def tw9120448316390126516:=0
def tw449026997849174101:=0
def tw2162113621752545670:=0
def tw8258387556018239899:=0
def tw2746086757371725794:=0
def tw3500207257288658370:=0
def tw9835968442122264804:=0
def tw12281411505006434281:=0
def tw11222717904977262233:=0
def tw2418152582535306910:=0
def tw12698883974208360571:=0
def tw8887980526350915724:=0
def tw1342107595826944615:=0
def tw10557499233072134668:=0
def tw13823277535245861407:=0
def tw3590065232184575204:=0
def tw18041507303853985618:=0
def tw1242535606229273705:=0
def tw12635865796496539990:=0
def tw8863200759527518734:=0
def tw2157407141459608650:=0
def tw12540344828552553190:=0
def tw15343167893900930879:=0
def tw3060552766565129195:=0
def tw10097091858626484077:=0
def tw5897045534933168152:=0
def tw5647419821937727878:=0
def tw1303891973785006789:=0
def tw4487279344599610854:=0
def tw16450669359820933178:=0
def tw16624694311342162720:=0
def tw5404575837821434816:=0
def tw10844789715900952249:=0
def tw4545625878562968533:=0
def tw314398758907333382:=0
def tw6082362188344226412:=0
def tw4860983448341801885:=0
def tw13288333726243600430:=0
def tw6576831461979379657:=0
def tw12602643491068996708:=0
def tw18329439127767171622:=0
def tw8349376399263963382:=0
def tw6244548663186503154:=0
def tw4347713031665789944:=0
def tw3024588294528308552:=0
def tw6557745733930477580:=0
def tw15283265185322542127:=0
def tw7952372311455893254:=0
def tw533257125165298926:=0
def tw3590440801815129522:=0
def tw9868441341978167483:=0
def tw7260329638142771277:=0
def tw1294536375146900019:=0
def tw10445369164931678587:=0
def tw7059722582415233785:=0
def tw3248080684001453062:=0
def tw2179715047795764328:=0
def tw1446098050141283788:=0
def tw15324868194802166127:=0
def tw6471371386746332392:=0
def tw13021113798776346271:=0
def tw16478634373137126449:=0
def tw18098297823009001103:=0
def tw14877225922172805025:=0
def tw163952981806385777:=0
def tw6922623619177840082:=0
def tw2322901318349425561:=0
def tw10924762006901689718:=0
def tw9396332624616012414:=0
def tw17109726103535579318:=0
def tw4398321836022774226:=0
def tw11116169365562626098:=0
def tw11977681715630599772:=0
def tw8366419945255246273:=0
def tw10596222958544248560:=0
def tw15748282143064578551:=0
def tw2601296807183323844:=0
def tw12131741135933499762:=0
def tw3180433268046086270:=0
def tw4440948799783904534:=0
def tw7766275878861488729:=0
def tw13536559594024713202:=0
def tw12562446327559317077:=0
def tw13388586956683692023:=0
def tw5758575877814695334:=0
def tw8273470075079506923:=0
def tw4373745731243804930:=0
def tw4858901347992566980:=0
def tw16123934192903352521:=0
def tw18019465206365162353:=0
def tw9866169669264708831:=0
def tw3671079363167098804:=0
def tw6691840821917235407:=0
def tw13232419507474592567:=0
def tw4617054270312053556:=0
def tw8347780819758011575:=0
def tw14781831284910033395:=0
def tw7336619274081867538:=0
def tw11650904977240548472:=0
def tw10344775717290339102:=0
def tw8172982711421064577:=0
def tw6855355417492818288:=0
def tw14579113314173910239:=0
def tw8207359967171945691:=0
def tw12467145783623831338:=0
def tw3163221278108924668:=0
def tw4768707893120689250:=0
def tw17350287266623953790:=0
def tw12544927621973827272:=0
def tw16176788021953606362:=0
def tw17449505899758833088:=0
def tw3780121362465533910:=0
def tw1515716630102577895:=0
def tw1106033173247817389:=0
def tw13000602897011035826:=0
def tw16955267416050317128:=0
def tw8622210796654569918:=0
def tw3269145319492325664:=0
def tw9085362172246783576:=0
def tw16715373578778829193:=0
def tw18032370509330706319:=0
def tw6287821295576688833:=0
def tw15733074323121666548:=0
def tw9346119368961167536:=0
def tw12083490241869089240:=0
def tw16189447121649612762:=0
def tw12357298826628786255:=0
def tw12708832158115302613:=0
def tw3234992906066359746:=0
def tw18037584813048935141:=0
def tw4199621238824661906:=0
def tw141335174093944802:=0
def tw7934146132419045594:=0
def tw12281792219225600800:=0
def tw8842544541703716830:=0
def tw17737030170178470332:=0
def tw3969175244957182338:=0
def tw8835614245683791561:=0
def tw2093799954571236157:=0
def tw17811776305133302031:=0
def tw6194925414278875164:=0
def tw18412171627718311852:=0
def tw14469681859003658115:=0
def tw9957968068317102223:=0
def tw11144109799079970148:=0
def tw12374755246134885350:=0
def tw11101879165542217919:=0
def tw10076633365010097663:=0
def tw17793478264783334454:=0
def tw2324225071090920489:=0
def tw10364702945583658939:=0
def tw18395285288221925426:=0
def tw1068763498246050129:=0
def tw5950980512153826387:=0
def tw11278592240974485495:=0
def tw5365793866151306708:=0
def tw5867810639426453138:=0
def tw173711149862156683:=0
def tw2328795758680277392:=0
def tw4053223301930046646:=0
def tw11413121814382923994:=0
def tw4632681201276736120:=0
def tw16397738962772344917:=0
def tw10421176286693582058:=0
def tw11869153305820227969:=0
def tw6437426190742607963:=0
def tw1504875219045036069:=0
def tw18256096348113705370:=0
def tw14883810090500135070:=0
def tw2961267005545378660:=0
def tw16906569773009376584:=0
def tw4463870821586061841:=0
def tw11906685376863495499:=0
def tw1983978243123558902:=0
def tw13987607892009861746:=0
def tw13143644521702926194:=0
def tw2935309641196701076:=0
def tw5214236701350217248:=0
def tw2255669253095742139:=0
def tw17791766570927384374:=0
def tw15433243161837807401:=0
def tw13044447451962195754:=0
def tw13049630120055488319:=0
def tw4376731306998781962:=0
end PySem.W.Fast
open PySem PySem.W PyProof.Rows
set_option maxRecDepth 100000 in
set_option maxHeartbeats 0 in
theorem PySem.Challenge.cw_ohmyard_k62_least_roads_holds : PySem.Challenge.rw_ohmyard_k62_least_roads.Holds := by
  w_on; o_law; z_head; (case hw => w_witness2)
  k_fill
  refine L2.xO (fun _ => by kernel_rfl) (K62.Jf (l := PySem.Challenge.rw_ohmyard_k62_least_roads) rfl rfl (fun w h Y => Y) ?F)
  case F =>
    intro w mg fa h KX G hmg
    refine' K62.Dw KX G hmg ?y_NoRoad ?y_Row ?y_Piece ?y_Push ?y_Hold ?y_Net ?a1 ?l1 ?c1 ?k1 ?a2 ?l2 ?c2 ?k2 ?a3 ?l3 ?c3 ?k3 ?a4 ?l4 ?c4 ?k4 ?lt4 ?a5 ?l5 ?c5 ?k5 ?a6 ?l6 ?c6 ?k6 ?a7 ?l7 ?c7 ?k7 ?a8_0 ?a8_1 ?a8_2 ?i8 ?l8 ?c8 ?k8 ?a9_0 ?i9 ?l9 ?c9 ?k9 ?a10_0 ?i10 ?l10 ?c10 ?k10 ?a11_0 ?i11 ?l11 ?c11 ?k11 ?a12_0 ?i12 ?l12 ?c12 ?k12 ?a13_0 ?i13 ?l13 ?c13 ?k13 ?a14_0 ?i14 ?l14 ?c14 ?k14 ?a15_0 ?a15_1 ?a15_2 ?i15 ?l15 ?c15 ?k15 ?a16 ?l16 ?c16 ?k16 ?a17 ?l17 ?c17 ?k17 ?a18 ?l18 ?c18 ?k18 ?a19 ?l19 ?c19 ?k19 ?a20 ?l20 ?c20 ?k20 ?a21 ?l21 ?c21 ?k21 ?a22_0 ?i22 ?l22 ?c22 ?k22 ?a23_0 ?i23 ?l23 ?c23 ?k23 ?a24_0 ?i24 ?l24 ?c24 ?k24 ?a25_0 ?i25 ?l25 ?c25 ?k25 ?a26_0 ?i26 ?l26 ?c26 ?k26 ?a27 ?l27 ?c27 ?k27 ?a28 ?l28 ?c28 ?k28 ?a29 ?l29 ?c29 ?k29 ?a30 ?l30 ?c30 ?k30 ?a31 ?l31 ?c31 ?k31 ?a32 ?l32 ?c32 ?k32 ?a33 ?l33 ?c33 ?k33 ?a34 ?l34 ?c34 ?k34 ?a35 ?l35 ?c35 ?k35 ?a36 ?l36 ?c36 ?k36 ?a37 ?l37 ?c37 ?k37 ?a38 ?l38 ?c38 ?k38 ?a39 ?l39 ?c39 ?k39 ?a40 ?l40 ?c40 ?k40 ?a41 ?l41 ?c41 ?k41 ?a42 ?l42 ?c42 ?k42 ?a43 ?l43 ?c43 ?k43 ?a44 ?l44 ?c44 ?k44 ?a45 ?l45 ?c45 ?k45 ?a46 ?l46 ?c46 ?k46 ?a47 ?l47 ?c47 ?k47 ?a48 ?l48 ?c48 ?k48 ?a49 ?l49 ?c49 ?k49 ?v_NOUGHT ?v_MOST_POINTS ?v_MOST_ROWS ?lN ?pg_Piece ?hd_Piece ?po_Piece ?sa_Piece ?mk_Piece ?kc_Piece ?t1_Piece ?t4_Piece ?na_Piece_start ?na_Piece_goal ?na_Piece_size ?pg_Push ?hd_Push ?po_Push ?sa_Push ?mk_Push ?kc_Push ?t1_Push ?t4_Push ?na_Push_start ?na_Push_goal ?na_Push_size ?pg_Hold ?hd_Hold ?po_Hold ?sa_Hold ?mk_Hold ?kc_Hold ?t1_Hold ?t4_Hold ?na_Hold_start ?na_Hold_goal ?na_Hold_size ?tt2 ?tt3 ?isR_Piece ?isR_Push ?isR_Hold ?isK_Piece_Push ?isK_Piece_Hold ?isK_Push_Piece ?isK_Push_Hold ?isK_Hold_Piece ?isK_Hold_Push ?pg_Net ?hd_Net ?po_Net ?sa_Net ?mk_Net ?kc_Net ?t1_Net ?t4_Net ?na_Net_point_count ?na_Net_kept ?x1_NoRoad ?x2_NoRoad ?x3_NoRoad ?x4_NoRoad ?x5_NoRoad ?x6_NoRoad ?x7_NoRoad ?x8_NoRoad ?x9_NoRoad ?xm_R ?z1 ?z2 ?z3 ?z4 ?z5 ?z6 ?z7 ?z8 ?z9 ?z10 ?z11 ?z12
    (case y_NoRoad=>k_is)
    (case y_Row=>k_is)
    (case y_Piece=>k_is)
    (case y_Push=>k_is)
    (case y_Hold=>k_is)
    (case y_Net=>k_is)
    (case a1=>k_is);(case l1=>k_is);(case c1=>k_is);(case k1=>k_is)
    (case a2=>k_is);(case l2=>k_is);(case c2=>k_is);(case k2=>k_is)
    (case a3=>k_is);(case l3=>k_is);(case c3=>k_is);(case k3=>k_is)
    (case a4=>k_is);(case l4=>k_is);(case c4=>k_is);(case k4=>k_is);(case lt4=>k_is)
    (case a5=>k_is);(case l5=>k_is);(case c5=>k_is);(case k5=>k_is)
    (case a6=>k_is);(case l6=>k_is);(case c6=>k_is);(case k6=>k_is)
    (case a7=>k_is);(case l7=>k_is);(case c7=>k_is);(case k7=>k_is)
    (case a8_0=>k_is);(case a8_1=>k_is);(case a8_2=>k_is);(case i8=>k_is);(case l8=>k_is);(case c8=>k_is);(case k8=>k_is)
    (case a9_0=>k_is);(case i9=>k_is);(case l9=>k_is);(case c9=>k_is);(case k9=>k_is)
    (case a10_0=>k_is);(case i10=>k_is);(case l10=>k_is);(case c10=>k_is);(case k10=>k_is)
    (case a11_0=>k_is);(case i11=>k_is);(case l11=>k_is);(case c11=>k_is);(case k11=>k_is)
    (case a12_0=>k_is);(case i12=>k_is);(case l12=>k_is);(case c12=>k_is);(case k12=>k_is)
    (case a13_0=>k_is);(case i13=>k_is);(case l13=>k_is);(case c13=>k_is);(case k13=>k_is)
    (case a14_0=>k_is);(case i14=>k_is);(case l14=>k_is);(case c14=>k_is);(case k14=>k_is)
    (case a15_0=>k_is);(case a15_1=>k_is);(case a15_2=>k_is);(case i15=>k_is);(case l15=>k_is);(case c15=>k_is);(case k15=>k_is)
    (case a16=>k_is);(case l16=>k_is);(case c16=>k_is);(case k16=>k_is)
    (case a17=>k_is);(case l17=>k_is);(case c17=>k_is);(case k17=>k_is)
    (case a18=>k_is);(case l18=>k_is);(case c18=>k_is);(case k18=>k_is)
    (case a19=>k_is);(case l19=>k_is);(case c19=>k_is);(case k19=>k_is)
    (case a20=>k_is);(case l20=>k_is);(case c20=>k_is);(case k20=>k_is)
    (case a21=>k_is);(case l21=>k_is);(case c21=>k_is);(case k21=>k_is)
    (case a22_0=>k_is);(case i22=>k_is);(case l22=>k_is);(case c22=>k_is);(case k22=>k_is)
    (case a23_0=>k_is);(case i23=>k_is);(case l23=>k_is);(case c23=>k_is);(case k23=>k_is)
    (case a24_0=>k_is);(case i24=>k_is);(case l24=>k_is);(case c24=>k_is);(case k24=>k_is)
    (case a25_0=>k_is);(case i25=>k_is);(case l25=>k_is);(case c25=>k_is);(case k25=>k_is)
    (case a26_0=>k_is);(case i26=>k_is);(case l26=>k_is);(case c26=>k_is);(case k26=>k_is)
    (case a27=>k_is);(case l27=>k_is);(case c27=>k_is);(case k27=>k_is)
    (case a28=>k_is);(case l28=>k_is);(case c28=>k_is);(case k28=>k_is)
    (case a29=>k_is);(case l29=>k_is);(case c29=>k_is);(case k29=>k_is)
    (case a30=>k_is);(case l30=>k_is);(case c30=>k_is);(case k30=>k_is)
    (case a31=>k_is);(case l31=>k_is);(case c31=>k_is);(case k31=>k_is)
    (case a32=>k_is);(case l32=>k_is);(case c32=>k_is);(case k32=>k_is)
    (case a33=>k_is);(case l33=>k_is);(case c33=>k_is);(case k33=>k_is)
    (case a34=>k_is);(case l34=>k_is);(case c34=>k_is);(case k34=>k_is)
    (case a35=>k_is);(case l35=>k_is);(case c35=>k_is);(case k35=>k_is)
    (case a36=>k_is);(case l36=>k_is);(case c36=>k_is);(case k36=>k_is)
    (case a37=>k_is);(case l37=>k_is);(case c37=>k_is);(case k37=>k_is)
    (case a38=>k_is);(case l38=>k_is);(case c38=>k_is);(case k38=>k_is)
    (case a39=>k_is);(case l39=>k_is);(case c39=>k_is);(case k39=>k_is)
    (case a40=>k_is);(case l40=>k_is);(case c40=>k_is);(case k40=>k_is)
    (case a41=>k_is);(case l41=>k_is);(case c41=>k_is);(case k41=>k_is)
    (case a42=>k_is);(case l42=>k_is);(case c42=>k_is);(case k42=>k_is)
    (case a43=>k_is);(case l43=>k_is);(case c43=>k_is);(case k43=>k_is)
    (case a44=>k_is);(case l44=>k_is);(case c44=>k_is);(case k44=>k_is)
    (case a45=>k_is);(case l45=>k_is);(case c45=>k_is);(case k45=>k_is)
    (case a46=>k_is);(case l46=>k_is);(case c46=>k_is);(case k46=>k_is)
    (case a47=>k_is);(case l47=>k_is);(case c47=>k_is);(case k47=>k_is)
    (case a48=>k_is);(case l48=>k_is);(case c48=>k_is);(case k48=>k_is)
    (case a49=>k_is);(case l49=>k_is);(case c49=>k_is);(case k49=>k_is)
    (case v_NOUGHT=>k_is)
    (case v_MOST_POINTS=>k_is)
    (case v_MOST_ROWS=>k_is)
    (case lN=>k_is)
    (case pg_Piece=>k_is)
    (case hd_Piece=>k_is)
    (case po_Piece=>k_is)
    (case sa_Piece=>k_is)
    (case mk_Piece=>k_is)
    (case kc_Piece=>k_is)
    (case t1_Piece=>k_is)
    (case t4_Piece=>k_is)
    (case na_Piece_start=>k_is)
    (case na_Piece_goal=>k_is)
    (case na_Piece_size=>k_is)
    (case pg_Push=>k_is)
    (case hd_Push=>k_is)
    (case po_Push=>k_is)
    (case sa_Push=>k_is)
    (case mk_Push=>k_is)
    (case kc_Push=>k_is)
    (case t1_Push=>k_is)
    (case t4_Push=>k_is)
    (case na_Push_start=>k_is)
    (case na_Push_goal=>k_is)
    (case na_Push_size=>k_is)
    (case pg_Hold=>k_is)
    (case hd_Hold=>k_is)
    (case po_Hold=>k_is)
    (case sa_Hold=>k_is)
    (case mk_Hold=>k_is)
    (case kc_Hold=>k_is)
    (case t1_Hold=>k_is)
    (case t4_Hold=>k_is)
    (case na_Hold_start=>k_is)
    (case na_Hold_goal=>k_is)
    (case na_Hold_size=>k_is)
    (case tt2=>k_is)
    (case tt3=>k_is)
    (case isR_Piece=>kit_is)
    (case isR_Push=>kit_is)
    (case isR_Hold=>kit_is)
    (case isK_Piece_Push=>kit_is)
    (case isK_Piece_Hold=>kit_is)
    (case isK_Push_Piece=>kit_is)
    (case isK_Push_Hold=>kit_is)
    (case isK_Hold_Piece=>kit_is)
    (case isK_Hold_Push=>kit_is)
    (case pg_Net=>k_is)
    (case hd_Net=>k_is)
    (case po_Net=>k_is)
    (case sa_Net=>k_is)
    (case mk_Net=>k_is)
    (case kc_Net=>k_is)
    (case t1_Net=>k_is)
    (case t4_Net=>k_is)
    (case na_Net_point_count=>k_is)
    (case na_Net_kept=>k_is)
    (case x1_NoRoad=>k_exc)
    (case x2_NoRoad=>k_is)
    (case x3_NoRoad=>k_is)
    (case x4_NoRoad=>k_is)
    (case x5_NoRoad=>k_is)
    (case x6_NoRoad=>k_is)
    (case x7_NoRoad=>k_is)
    (case x8_NoRoad=>k_is)
    (case x9_NoRoad=>first | k_is | rfl | decide)
    (case xm_R=>kts_exm)
    (case z1=>k_is)
    (case z2=>k_is)
    (case z3=>k_is)
    (case z4=>k_is)
    (case z5=>k_is)
    (case z6=>k_is)
    (case z7=>k_is)
    (case z8=>k_is)
    (case z9=>k_is)
    (case z10=>k_is)
    (case z11=>k_is)
    (case z12=>k_is)
