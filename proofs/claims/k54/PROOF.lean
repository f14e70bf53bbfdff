import PyProof.Rows.All
import Wide.Line
import OpenK.KOwn
import KE.RegKIsAll
import KE.RegKTryMore
import Wide.FinOn
import Lean
import PyProof.EqAt
import PyProof.EqKinds
import PyProof.TupleCall
import PyProof.Cells
import PyProof.SumWalkG
import PyProof.EnumStmt
import PyProof.EnumMake
import PyProof.InstStoreFacts
import KE.KDictList
import KE.KItem
import KE.KIntText
import PyProof.Rows.SeqMore2
import PyProof.Rows.SortWalk
import PySem.Challenge.RW_ohmyard_k54_brought_by_inner_heights
set_option Elab.async false
set_option linter.all false
local macro_rules|`(tactic|exists $x,*)=>`(tactic|refine ⟨$x,*⟩)
local macro_rules|`(())=>`(by lia)
local macro_rules|`(∅)=>`(by decide +kernel)
local macro_rules|`(⋯)=>`(by simp)
set_option maxRecDepth 100000
open PySem.W (Frag)
set_option maxHeartbeats 4000000
open List
namespace L2
open PySem PySem.Spec PyProof.Rows
abbrev Key:=Sum Int Str
def yW:Key->Value->Bool
 | .inl k,v=>Value.isInt k v
 | .inr x,v=>Value.isStrOf x v
def qq9 (w:World):Key->Int
 | .inl k=>hashInt k
 | .inr x=>hashStr w x
theorem dS:∀{k:Key} {v:Value},yW k v=true->(∃i t,k=Sum.inl i/\v=Value.int i t)\/(∃x t,k=Sum.inr x/\v=Value.str x t)
 | .inl i,v,h=>by
  obtain⟨t,e⟩:=Value.isInt_shape (k:=i) (v:=v) h;exact .inl ⟨i,t,rfl,e⟩
 | .inr x,v,h=>by
  obtain⟨t,e⟩:=Value.isStrOf_shape (x:=x) (v:=v) h;exact .inr ⟨x,t,rfl,e⟩
theorem Mf (i:Int)(t:Tok):yW (.inl i) (.int i t)=true:=by simp[yW,Value.isInt]
theorem Mm (x:Str)(t:Tok):yW (.inr x) (.str x t)=true:=by simp[yW,Value.isStrOf]
theorem qi5 (a b:Int):decide ((Sum.inl a:Key)=Sum.inl b)=(a == b):=by
 by_cases e:a=b
 .subst e;simp
 .have h:¬(Sum.inl a:Key)=Sum.inl b:=λq=>e (Sum.inl.inj q);rw[decide_eq_false h];exact(beq_eq_false_iff_ne.mpr e).symm
theorem qc5 (a b:Str):decide ((Sum.inr a:Key)=Sum.inr b)=decide (a=b):=by
 by_cases e:a=b
 .subst e;simp
 .have h:¬(Sum.inr a:Key)=Sum.inr b:=λq=>e (Sum.inr.inj q);rw[decide_eq_false h,decide_eq_false e]
theorem qg5 (a:Int)(b:Str):decide ((Sum.inl a:Key)=Sum.inr b)=false:=decide_eq_false (λq=>nomatch q)
theorem Zk (a:Str)(b:Int):decide ((Sum.inr a:Key)=Sum.inl b)=false:=decide_eq_false (λq=>nomatch q)
def dW (prog:Program)(w:World):PySem.KeyKind prog w Key where
 is:=yW
 hash:=qq9 w
 inj:=λv a b ha hb=>by
  rcases dS ha with ⟨i,t,rfl,rfl⟩ | ⟨x,t,rfl,rfl⟩
  .rcases dS hb with ⟨j,u,rfl,e⟩ | ⟨y,u,rfl,e⟩
   .injection e with e1 _;rw[e1]
   .exact nomatch e
  .rcases dS hb with ⟨j,u,rfl,e⟩ | ⟨y,u,rfl,e⟩
   .exact nomatch e
   .injection e with e1 _;rw[e1]
 byValue:=λk v h=>by
  rcases dS h with ⟨i,t,rfl,rfl⟩ | ⟨x,t,rfl,rfl⟩<;>rfl
 pyHash:=λhv h=>by
  rcases dS hv with ⟨i,t,rfl,rfl⟩ | ⟨x,t,rfl,rfl⟩
  .exact wpAny_pyHash_int h
  .exact wpAny_pyHash_str h
 eqBool:=λhu hv h=>by
  rcases dS hu with ⟨i,t,rfl,rfl⟩ | ⟨x,t,rfl,rfl⟩
  .rcases dS hv with ⟨j,u,rfl,rfl⟩ | ⟨y,u,rfl,rfl⟩
   .rw[qi5] at h;exact wpAny_eqBool_int h
   .rw[qg5] at h;exact SeqAt.EqAt.int_str i t y u _ _ _ _ h
  .rcases dS hv with ⟨j,u,rfl,rfl⟩ | ⟨y,u,rfl,rfl⟩
   .rw[Zk] at h;exact SeqAt.EqAt.str_int x t j u _ _ _ _ h
   .rw[qc5] at h;exact wpAny_eqBool_str h
 «strs»:=λk x t v h=>by
  rcases dS h with ⟨i,u,rfl,e⟩ | ⟨y,u,rfl,e⟩
  .exact nomatch e
  .injection e with e1 _
   subst e1
   cases v<;>rfl
theorem Fp (prog:Program)(w:World)(i:Int)(t:Tok):(dW prog w).is (.inl i) (.int i t)=true:=Mf i t
theorem Fh (prog:Program)(w:World)(x:Str)(t:Tok):(dW prog w).is (.inr x) (.str x t)=true:=Mm x t
inductive V where
 |non | bl (b:Bool) | int (i:Int) | str (x:Str) | byt (b:Array UInt8) | flt (b:UInt64) | ref (a:Addr) | ty (n:String)
 deriving DecidableEq
def cL:V->Value->Prop
 | .non,u=>u=Value.none
 | .bl b,u=>u=Value.bool b
 | .int i,u=>∃t,u=Value.int i t
 | .str x,u=>∃t,u=Value.str x t
 | .byt b,u=>∃t,u=Value.bytes b t
 | .flt b,u=>∃t,u=Value.float b t
 | .ref a,u=>u=Value.ref a
 | .ty n,u=>u=Value.type n
abbrev cA:List V->List Value->Prop:=Paired cL
theorem cA.length (r:cA xs us):xs.length=us.length:=Paired.length r
theorem cA.get:∀{xs:List V} {us:List Value} {i:Nat} {x:V},cA xs us->xs[i]?=some x->∃u,us[i]?=some u/\cL x u
 |_,_,_,_,.nil,e=>by simp at e
 |_,_,0,_,.cons r _,e=>by simp at e;subst e;exists _,rfl,r
 |_,_,i+1,x,.cons _ t,e=>by
  obtain⟨u,h1,h2⟩:=cA.get (i:=i) (x:=x) t (by simpa using e);exists u,by simpa using h1,h2
theorem cA.set (r:cL x u):∀{xs:List V} {us:List Value} (i:Nat),cA xs us->cA (xs.set i x) (us.set i u)
 |_,_,_,.nil=>.nil
 |_,_,0,.cons _ t=>.cons r t
 |_,_,i+1,.cons q t=>.cons q (cA.set r i t)
theorem cA.append:∀{xs ys:List V} {us ws:List Value},cA xs us->cA ys ws->cA (xs++ys) (us++ws)
 |_,_,_,_,.nil,s=>s
 |_,_,_,_,.cons r t,s=>.cons r (cA.append t s)
theorem cA.take:∀{xs:List V} {us:List Value} (n:Nat),cA xs us->cA (xs.take n) (us.take n)
 |_,_,0,_=>.nil
 |_,_,_+1,.nil=>.nil
 |_,_,n+1,.cons r t=>.cons r (cA.take n t)
theorem cA.drop:∀{xs:List V} {us:List Value} (n:Nat),cA xs us->cA (xs.drop n) (us.drop n)
 |_,_,0,r=>r
 |_,_,_+1,.nil=>.nil
 |_,_,n+1,.cons _ t=>cA.drop n t
def jZ:Option V->Option Value->Prop
 |some v,some u=>cL v u
 |none,none=>True
 |_,_=>False
def KV {κ:Type}:List (κ × V)->List (κ × Value)->Prop:=Paired λ(p:κ × V) (q:κ × Value)=>p.1=q.1/\cL p.2 q.2
def kV:Key->V
 | .inl i=>.int i
 | .inr x=>.str x
inductive HO where
 |lst (xs:List V)
 |tup (xs:List V)
 |dK (kvs:List (Key × V)) | dT (kvs:List (List Key × V))
 |set (S:Int->Bool) (n:Nat)
 |ins (C dx:Addr) (fs:List (Str × V))
 |own (x:Addr)
 |xd (fs:List (Str × V))
 |met (f x:Addr)
 |rng (lo hi:Int)
 |frz (o:Obj) (u:HO)
 |tbl (ps:Array Value)
 |ext (φ:Heap->Prop)
abbrev Hp:=Addr->Option HO
def upd (H:Hp)(a:Addr)(o:HO):Hp:=λb=>if b=a then some o else H b
theorem aB:upd H a o a=some o:=by unfold upd;rw[if_pos rfl]
theorem aU (h:b≠a):upd H a o b=H b:=by unfold upd;rw[if_neg h]
theorem qG:upd (upd H a o) a u=upd H a u:=by
 funext b;unfold upd;split<;>rfl
theorem jG {H:Hp}(h:H a=some o)(h':H b=some u)(d:o≠u):a≠b:=by
 intro e;subst e;rw[h] at h';exact d (Option.some.inj h')
theorem bA {H:Hp}(h:H a=some o)(h':H b=none):a≠b:=by
 intro e;subst e;rw[h] at h';cases h'
section
variable (P:Program) (w:World)
def cY (H:Hp)(h:Heap)(a:Addr):HO->Prop
 | .lst xs=>xs.length<=sizeLine/\∃(its:List Value) (n:Nat),cA xs its/\h.get? a=some { cls:=.type "list",data:=.seq its.toArray n }
 | .tup xs=>xs.length<=sizeLine/\∃its:List Value,cA xs its/\IsTup h a its.toArray
 | .dK kvs=>kvs.length<=sizeLine/\(a == sysModules)=false/\∃vs,KV kvs vs/\h.DictOf (dW P w) a vs
 | .dT kvs=>kvs.length<=sizeLine/\(a == sysModules)=false/\∃xs:List (List Key × Addr × Value),
   Paired (λ(p:List Key × V) (q:List Key × Addr × Value)=>p.1=q.1/\H q.2.1=some (.tup (p.1.map kV))/\cL p.2 q.2.2) kvs xs/\
   ∃o es ep,h.get? a=some o/\o.ExactDict/\o.data=.dict es ep/\es.toList=xs.map (entryOfKey (tupleKind (dW P w)))/\(xs.map (·.1)).Nodup
 | .set S n=>h.SetOf (intKind P w) a S n
 | .ins C dx fs=>H dx=some (.own a)/\fs.length<=1000/\dx≠a/\h.get? a=some (W.instObj C dx)/\
   ∃mA,h.Ns1 dx mA/\(∀f,jZ (fs.lookup f) (mA f))/\PySem.Within mA (fs.map (·.1))
 | .own _=>∃o,h.get? a=some o
 | .xd fs=>∃mA,h.Ns1 a mA/\∀f,jZ (fs.lookup f) (mA f)
 | .rng lo hi=>∃t u v,h.get? a=some { cls:=.type "range",data:=.fields #[.int lo t,.int hi u,.int 1 v] }
 | .frz o u=>h.get? a=some o/\cY H h a u
 | .tbl ps=>h.get? a=some { cls:=.none,data:=.fields ps }
 | .met f x=>h.get? a=some (W.methodObj (.ref f) (.ref x))
 | .ext φ=>φ h/\(∃o,h.get? a=some o)/\∀h1 h2:Heap,φ h1->(∀o,h1.get? a=some o->h2.get? a=some o)->φ h2
def HOk (H:Hp)(h:Heap):Prop:=∀a o,H a=some o->cY P w H h a o
end
section
variable {P:Program} {w:World} {H H':Hp} {h h':Heap} {a:Addr} {o:HO}
theorem cY.lt (x:cY P w H h a o):a < h.objs.size:=by
 cases o with
 |lst xs=>obtain⟨_,_,_,_,e⟩:=x;exact Heap.lt_size e
 |tup xs=>obtain⟨_,_,_,p⟩:=x;exact p.lt
 |dK kvs=>obtain⟨_,_,_,_,o,_,_,e,_⟩:=x;exact Heap.lt_size e
 |dT kvs=>obtain⟨_,_,_,_,o,_,_,e,_⟩:=x;exact Heap.lt_size e
 |set S n=>obtain⟨o,_,_,_,e,_⟩:=x;exact Heap.lt_size e
 |ins C dx fs=>obtain⟨_,_,_,e,_⟩:=x;exact Heap.lt_size e
 |own y=>obtain⟨_,e⟩:=x;exact Heap.lt_size e
 |xd fs=>obtain⟨_,⟨_,_,_,e,_⟩,_⟩:=x;exact Heap.lt_size e
 |rng lo hi=>obtain⟨_,_,_,e⟩:=x;exact Heap.lt_size e
 |frz ob u=>obtain⟨e,_⟩:=x;exact Heap.lt_size e
 |tbl ps=>exact Heap.lt_size (show h.get? a=some _ from x)
 |met f y=>exact Heap.lt_size (show h.get? a=some _ from x)
 |ext φ=>obtain⟨_,⟨_,e⟩,_⟩:=x;exact Heap.lt_size e
theorem Paired.mapP:∀{l₁:List α} {l₂:List β},Paired F l₁ l₂->(∀a b,F a b->G a b)->Paired G l₁ l₂
 |_,_,.nil,_=>.nil
 |_,_,.cons r t,f=>.cons (f _ _ r) (Paired.mapP t f)
theorem cY.stay (x:cY P w H h a o)(k:∀b u,(b=a\/H b=some (.own a))->h.get? b=some u->h'.get? b=some u)(ho:∀b,H b=some (.own a)->H' b=some (.own a))(ht:∀b xs,H b=some (.tup xs)->H' b=some (.tup xs)):cY P w H' h' a o:=by
 induction o with
 |lst xs=>obtain⟨z,its,n,r,e⟩:=x;exists z,its,n,r,k _ _ (.inl rfl) e
 |tup xs=>obtain⟨z,its,r,ob,e,c⟩:=x;exists z,its,r,ob,k _ _ (.inl rfl) e,c
 |dK kvs=>obtain⟨z,y,vs,r,ob,es,ep,e,c⟩:=x;exists z,y,vs,r,ob,es,ep,k _ _ (.inl rfl) e,c
 |dT kvs=>
  obtain⟨z,y,xs,r,ob,es,ep,e,c⟩:=x;exists z,y,xs,Paired.mapP r λp q z=>⟨z.1,ht _ _ z.2.1,z.2.2⟩,ob,es,ep,k _ _ (.inl rfl) e,c
 |set S n=>obtain⟨ob,es,ep,t,e,c⟩:=x;exists ob,es,ep,t,k _ _ (.inl rfl) e,c
 |ins C dx fs=>
  obtain⟨d,z,ne,e,mA,⟨od,es,ep,e2,c⟩,r⟩:=x;exists ho _ d,z,ne,k _ _ (.inl rfl) e,mA,⟨od,es,ep,k _ _ (.inr d) e2,c⟩,r
 |own y=>obtain⟨ob,e⟩:=x;exists ob,k _ _ (.inl rfl) e
 |xd fs=>obtain⟨mA,⟨od,es,ep,e,c⟩,r⟩:=x;exists mA,⟨od,es,ep,k _ _ (.inl rfl) e,c⟩,r
 |rng lo hi=>obtain⟨t,u,v,e⟩:=x;exists t,u,v,k _ _ (.inl rfl) e
 |frz ob u ih=>obtain⟨e,q⟩:=x;exists k _ _ (.inl rfl) e,ih q
 |tbl ps=>
  have e:h.get? a=some { cls:=.none,data:=.fields ps }:=x;show h'.get? a=some { cls:=.none,data:=.fields ps };exact k a _ (.inl rfl) e
 |met f y=>
  have e:h.get? a=some (W.methodObj (.ref f) (.ref y)):=x;show h'.get? a=some (W.methodObj (.ref f) (.ref y));exact k a _ (.inl rfl) e
 |ext φ=>obtain⟨p,⟨o,e⟩,st⟩:=x;exists st _ _ p λo q=>k _ _ (.inl rfl) q,⟨o,k _ _ (.inl rfl) e⟩,st
theorem HOk.lt (x:HOk P w H h)(e:H a=some o):a < h.objs.size:=(x a o e).lt
theorem HOk.fresh (x:HOk P w H h)(e:h.objs.size<=a):H a=none:=by
 cases q:H a with
 |none=>rfl
 |some u=>exact absurd (Nat.lt_of_lt_of_le (x.lt q) e) (Nat.lt_irrefl _)
theorem HOk.kept (x:HOk P w H h)(k:∀b u,h.get? b=some u->h'.get? b=some u):HOk P w H h':=λa o e=>
 (x a o e).stay (λb u _ q=>k b u q) (λ_ q=>q) λ_ _ q=>q
theorem HOk.laid (x:HOk P w H h)(k:∀b u,h.get? b=some u->h'.get? b=some u)(hp:h.objs.size<=a)(new:cY P w (upd H a o) h' a o):HOk P w (upd H a o) h':=λb u e=>by
 have hn:=x.fresh hp
 by_cases hb:b=a
 .subst hb;rw[aB] at e;cases e;exact new
 .rw[aU hb] at e;exact(x b u e).stay (λc v _ q=>k c v q) (λc q=>by rw[aU (bA q hn)];exact q) λc xs q=>by rw[aU (bA q hn)];exact q
end
def Rd (H:Hp)(a:Addr)(u:HO):Prop:=H a=some u\/∃o,H a=some (.frz o u)
theorem Rd.ok (r:Rd H a u)(x:HOk P w H h):cY P w H h a u:=by
 rcases r with r | ⟨o,r⟩
 .exact x a u r
 .obtain⟨_,q⟩:=x a _ r;exact q
def Mut:Option HO->Prop
 |some (.lst _)=>True
 |some (.dK _)=>True
 |some (.dT _)=>True
 |some (.set _ _)=>True
 |some (.ins _ _ _)=>True
 |some (.ext _)=>True
 |_=>False
section
variable {P:Program} {w:World} {H:Hp} {h h':Heap} {x e:Addr} {o':HO}
theorem HOk.write (ok:HOk P w H h)(mu:Mut (H x))(he:e=x\/H e=some (.own x))(k:∀b u,b≠e->h.get? b=some u->h'.get? b=some u)(heo:∃u,h'.get? e=some u)(new:cY P w (upd H x o') h' x o'):HOk P w (upd H x o') h':=λb u q=>by
 have nown:∀c y,H c=some (.own y)->c≠x:=λc y r z=>by subst z;rw[r] at mu;exact mu
 have ntup:∀c xs,H c=some (.tup xs)->c≠x:=λc xs r z=>by subst z;rw[r] at mu;exact mu
 by_cases hb:b=x
 .subst hb;rw[aB] at q;cases q;exact new
 .rw[aU hb] at q
  by_cases hbe:b=e
  .have q':H b=some (.own x):=by
    rcases he with z | z
    .exact absurd (hbe.trans z) hb
    .rw[hbe];exact z
   rw[q] at q';cases q';obtain⟨v,hv⟩:=heo;exists v,by rw[hbe];exact hv
  .refine(ok b u q).stay (λc v hc r=>k c v ?_ r) (λc r=>by rw[aU (nown c b r)];exact r) λc xs r=>by rw[aU (ntup c xs r)];exact r
   rcases hc with rfl | hc
   .exact hbe
   .rintro rfl;rcases he with z | z
    .exact nown c b hc z
    .rw[hc] at z;cases z;exact hb rfl
end
structure Un (fs ex:List Addr) (H H':Hp) (h h':Heap):Prop where
 keep:∀b o,h.get? b=some o->H b=none->b∉fs->b∉ex->h'.get? b=some o
 slot:∀b o,h.get? b=some o->H b=none->b∈fs->b∉ex->∃sl,h'.get? b=some { o with slots:=sl }
 free:∀b o,h.get? b=some o->H b=none->b∉ex->H' b=none
 there:∀b o,h.get? b=some o->b∉ex->∃o',h'.get? b=some o'
 tups:∀b xs,H b=some (.tup xs)->H' b=some (.tup xs)
 frzs:∀b o u,H b=some (.frz o u)->H' b=some (.frz o u)
 tbls:∀b ps,H b=some (.tbl ps)->∃more,H' b=some (.tbl (ps++more))
section
variable {fs fs' ex ex':List Addr} {H H1 H2:Hp} {h h1 h2 h':Heap} {a x e:Addr} {o:HO}
theorem Un.any (u:Un fs ex H H1 h h1)(q:h.get? b=some ob)(n:H b=none)(hx:b∉ex):∃sl,h1.get? b=some { ob with slots:=sl }:=by
 by_cases hb:b∈fs
 .exact u.slot b ob q n hb hx
 .exists ob.slots,u.keep b ob q n hb hx
theorem Un.kept (k:∀b u,h.get? b=some u->h'.get? b=some u):Un fs ex H H h h':=
 ⟨λb ob q _ _ _=>k b ob q,λb ob q _ _ _=>⟨ob.slots,k b ob q⟩,λ_ _ _ n _=>n,λb ob q _=>⟨ob,k b ob q⟩,λ_ _ q=>q,λ_ _ _ q=>q,λ_ ps q=>⟨#[],by rw[q];simp⟩⟩
theorem Un.refl:Un fs ex H H h h:=Un.kept λ_ _ q=>q
theorem Un.laid (k:∀b u,h.get? b=some u->h'.get? b=some u)(hp:h.objs.size<=a)(hn:H a=none):Un fs ex H (upd H a o) h h' where
 keep:=λb u q _ _ _=>k b u q
 slot:=λb u q _ _ _=>⟨u.slots,k b u q⟩
 free:=λb u q n _=>by rw[aU (Nat.ne_of_lt (Nat.lt_of_lt_of_le (Heap.lt_size q) hp))];exact n
 there:=λb u q _=>⟨u,k b u q⟩
 tups:=λb xs q=>by rw[aU (bA q hn)];exact q
 frzs:=λb u xs q=>by rw[aU (bA q hn)];exact q
 tbls:=λb ps q=>⟨#[],by rw[aU (bA q hn),q];simp⟩
theorem Un.write (mu:Mut (H x))(he:e=x\/H e=some (.own x))(k:∀b u,b≠e->h.get? b=some u->h'.get? b=some u)(heo:∃u,h'.get? e=some u):Un fs ex H (upd H x o) h h':=by
 have hx:∀b,H b=none->b≠x:=λb n z=>by subst z;rw[n] at mu;exact mu
 have hb:∀b,H b=none->b≠e:=λb n z=>by
  subst z;rcases he with r | r
  .exact hx b n r
  .rw[n] at r;cases r
 have hm:∀b u,H b=some u->¬Mut (some u)->b≠x:=λb u q nm z=>by subst z;rw[q] at mu;exact nm mu
 refine⟨λb u q n _ _=>k b u (hb b n) q,λb u q n _ _=>⟨u.slots,k b u (hb b n) q⟩,λb u q n _=>by rw[aU (hx b n)];exact n,λb u q _=>?_,
  λb xs q=>by rw[aU (hm b _ q λz=>z)];exact q,λb u xs q=>by rw[aU (hm b _ q λz=>z)];exact q,λb ps q=>⟨#[],by rw[aU (hm b _ q λz=>z),q];simp⟩⟩
 by_cases hbe:b=e
 .subst hbe;exact heo
 .exists u,k b u hbe q
end
def trk (h:Heap)(H:Hp):List Addr:=(List.range h.objs.size).filter λa=>(H a).isSome
def Ch (h:Heap)(H:Hp):Heap:=W.hideAll h (trk h H)
theorem Ni (h:Heap)(H:Hp):(Ch h H).objs.size=h.objs.size:=W.hideAll_size _ _
theorem Sg (e:h.get? b=some o)(n:H b=none):(Ch h H).get? b=some o:=
 W.hideAll_get _ e λhm=>by
  have q:(H b).isSome=true:=(mem_filter.mp hm).2;rw[n] at q;simp at q
theorem Vf (e:(Ch h H).get? b=some o):h.get? b=some o/\H b=none:=by
 have e':h.get? b=some o:=W.of_hideAll (trk h H) e;exists e',?_
 cases q:H b with
 |none=>rfl
 |some x=>
  have hm:b∈trk h H:=mem_filter.mpr ⟨mem_range.mpr (Heap.lt_size e'),by simp[q]⟩;have z:(Ch h H).get? b=none:=W.hideAll_none (trk h H) hm;rw[z] at e;cases e
structure Mod (K:Frag) (mg:Str->Option Value) (base:Heap):Prop where
 kin:K.In base
 glob:base.Ns mainGlobals mg
 blt:∃mb,base.Ns builtinsNs mb/\∀x:Str,x≠"__name__"->mb x=bootBuiltins x
 nolimit:base.NoLimit
structure Cx where
 prog:Program
 w:World
 K:Frag
 mg:Str->Option Value
 base:Heap
 A:Around
 N:List Str
 s₀:Shared
 H₀:Hp
 env:Env
 outer:List Env
 stack:List Env
 ex:List Addr
 fn:Str->Bool
 calm:Bool
 pn:List (Addr × Obj)
 xe:Value->Shared->Prop
def frs (l:List Env):List Addr:=l.filterMap (·.frame)
abbrev Cx.fs (X:Cx):List Addr:=frs X.outer
def Vis (sc:Scope)(x:Str):Prop:=sc.names.lookup x=some .local\/sc.names.lookup x=some .cell\/sc.names.lookup x=some .free
def Loc (sc:Scope)(x:Str):Prop:=sc.names.lookup x=some .local\/sc.names.lookup x=some .cell
def qs4 (env:Env)(h:Heap)(m:Str->Option Value)(x:Str)(u:Value):Prop:=
 (env.kindOf x=some .local/\m x=some u)\/((env.kindOf x=some .cell\/env.kindOf x=some .free)/\∃c,env.cells.lookup x=some c/\h.IsCell c (some u))
structure Cx.Ok (X:Cx):Prop where
 mod:Mod X.K X.mg X.base
 kind:X.env.scope.kind=.function
 glob:X.env.globals=mainGlobals
 blt:X.env.builtins=builtinsNs
 above:X.s₀.heap.objs.size<=X.env.locals
 inj:∀x y c,X.env.cells.lookup x=some c->X.env.cells.lookup y=some c->x=y
 has:∀x,(X.env.kindOf x=some .cell\/X.env.kindOf x=some .free)->∃c,X.env.cells.lookup x=some c
 cab:∀x c,X.fn x=true->X.env.cells.lookup x=some c->X.s₀.heap.objs.size<=c
 hd:X.calm=true->X.A.handled=none
 frames:X.A.frames=some X.stack
 stk:X.stack=X.outer\/(X.stack=X.env :: X.outer/\X.env.frame=some X.env.locals)
 exf:∀b∈X.ex,b≠X.env.locals/\∀x c,X.env.cells.lookup x=some c->c≠b
 bs:∀b o,X.base.get? b=some o->X.s₀.heap.get? b=some o/\X.H₀ b=none
 bsz:X.base.objs.size<=X.s₀.heap.objs.size
 noex:∀b o,X.base.get? b=some o->b∉X.ex
 exfs:∀b∈X.ex,b∉X.fs
 funs:X.s₀.heap.FunFrames X.base X.outer
 frf:∀b∈X.fs,X.H₀ b=none
structure Inv (X:Cx) (pins:List (Addr × Obj)) (σ:List (Option V)) (H:Hp) (s:Shared):Prop where
 ok:X.Ok
 os:s.os=X.s₀.os
 bare:AllBare s.gens
 base:Un X.fs X.ex X.H₀ H X.s₀.heap s.heap
 loc:∃m,s.heap.Ns X.env.locals m/\∀(i:Nat) (x:Str) (v:V),X.N[i]?=some x->σ[i]?=some (some v)->Vis X.env.scope x->∃u,cL v u/\qs4 X.env s.heap m x u
 cell:∀x c,X.env.cells.lookup x=some c->∃v,s.heap.IsCell c v
 free:H X.env.locals=none
 freeC:∀x c,X.env.cells.lookup x=some c->H c=none
 pin:∀p∈X.pn++pins,s.heap.get? p.1=some p.2/\H p.1=none/\p.1≠X.env.locals/\p.1∉X.fs/\∀v,p.2.data≠.cell v
 hok:HOk X.prog X.w H s.heap
 len:σ.length=X.N.length
section
variable {X:Cx} {pins:List (Addr × Obj)} {σ:List (Option V)} {H H':Hp} {s:Shared} {h':Heap}
theorem Cx.Ok.nofr (ok:X.Ok)(e:X.base.get? b=some o):b∉X.fs:=λhb=>by
 have:=(ok.funs.mem hb).1;rw[e] at this;cases this
theorem Inv.bs (I:Inv X pins σ H s):∀b o,X.base.get? b=some o->s.heap.get? b=some o/\H b=none:=λb o e=>
 ⟨I.base.keep b o (I.ok.bs b o e).1 (I.ok.bs b o e).2 (I.ok.nofr e) (I.ok.noex b o e),I.base.free b o (I.ok.bs b o e).1 (I.ok.bs b o e).2 (I.ok.noex b o e)⟩
theorem Inv.bk (I:Inv X pins σ H s):∀b o,X.base.get? b=some o->s.heap.get? b=some o:=λb o e=>(I.bs b o e).1
theorem Inv.mod (I:Inv X pins σ H s):Mod X.K X.mg X.base:=I.ok.mod
theorem Inv.kIn (I:Inv X pins σ H s):X.K.In s.heap:=I.ok.mod.kin.keeps I.bk
theorem Inv.lt (I:Inv X pins σ H s):X.env.locals < s.heap.objs.size:=let ⟨_,hn,_⟩:=I.loc;hn.lt
theorem Inv.sz (I:Inv X pins σ H s):X.s₀.heap.objs.size<=s.heap.objs.size:=Nat.le_trans I.ok.above (Nat.le_of_lt I.lt)
theorem Inv.nofs (I:Inv X pins σ H s)(h:s.heap.objs.size<=a):a∉X.fs:=λhb=>by
 obtain⟨_,o,ho,_⟩:=I.ok.funs.mem hb;exact absurd (Nat.lt_of_lt_of_le (Heap.lt_size ho) (Nat.le_trans I.sz h)) (Nat.lt_irrefl _)
theorem Inv.cne (I:Inv X pins σ H s):∀x c,X.env.cells.lookup x=some c->c≠X.env.locals:=λx c e z=>by
 obtain⟨v,o,ho,hd⟩:=I.cell x c e;obtain⟨m,⟨o',es,ep,ho',hd',_⟩,_⟩:=I.loc;rw[z,ho'] at ho;cases ho;rw[hd'] at hd;cases hd
theorem Inv.funs (I:Inv X pins σ H s):s.heap.FunFrames X.base X.outer:=by
 have all:∀(l:List Env),(∀b∈frs l,b∈X.fs)->X.s₀.heap.FunFrames X.base l->s.heap.FunFrames X.base l:=by
  intro l
  induction l with
  |nil=>intro _ _;trivial
  |cons env r ih=>
   intro hs hl;obtain⟨hk,⟨L,o,hf,hn,ho,hd⟩,hr⟩:=hl;have hL:L∈X.fs:=hs L (by unfold frs;rw[filterMap_cons,hf];exact mem_cons_self);obtain⟨sl,e⟩:=I.base.slot L o ho (I.ok.frf L hL) hL λz=>I.ok.exfs L z hL;exists hk,⟨L,_,hf,hn,e,hd⟩,ih (λb hb=>hs b (by unfold frs;rw[filterMap_cons,hf];exact mem_cons_of_mem _ hb)) hr
 exact all X.outer (λ_ hb=>hb) I.ok.funs
theorem Inv.stack (I:Inv X pins σ H s):s.heap.FunFrames X.base X.stack:=by
 rcases I.ok.stk with e | ⟨e,hf⟩
 .rw[e];exact I.funs
 .rw[e];obtain⟨m,hn,_⟩:=I.loc;refine .cons (by rw[I.ok.kind];decide) hf hn ?_ I.funs;exact Heap.get?_none_of_le (Nat.le_trans I.ok.bsz I.ok.above)
theorem Inv.stkSub (I:Inv X pins σ H s):∀b∈frs X.stack,b∈X.env.locals :: X.fs:=λb hb=>by
 rcases I.ok.stk with e | ⟨e,hf⟩
 .rw[e] at hb;exact mem_cons_of_mem _ hb
 .rw[e] at hb;unfold frs at hb;rw[filterMap_cons,hf] at hb;exact hb
theorem Inv.stkFree (I:Inv X pins σ H s):∀b∈frs X.stack,H b=none:=λb hb=>by
 rcases mem_cons.mp (I.stkSub b hb) with e | hb
 .rw[e];exact I.free
 .obtain⟨_,o,ho,_⟩:=I.ok.funs.mem hb;exact I.base.free b o ho (I.ok.frf b hb) λz=>I.ok.exfs b z hb
theorem Inv.step {ch:List Addr}(I:Inv X pins σ H s)(hch:∀b∈ch,(b∈X.ex\/X.s₀.heap.objs.size<=b)/\b≠X.env.locals/\(∀x c,X.env.cells.lookup x=some c->c≠b)/\∀p∈X.pn++pins,p.1≠b)(keep:∀b o,b≠X.env.locals->b∉X.fs->b∉ch->s.heap.get? b=some o->H b=none->h'.get? b=some o)(slot:∀b o,b≠X.env.locals->b∈X.fs->b∉ch->s.heap.get? b=some o->H b=none->∃sl,h'.get? b=some { o with slots:=sl })(free:∀b o,b∉ch->s.heap.get? b=some o->H b=none->H' b=none)(there:∀b o,b∉ch->s.heap.get? b=some o->∃o',h'.get? b=some o')(tups:∀b xs,H b=some (.tup xs)->H' b=some (.tup xs))(frzs:∀b o u,H b=some (.frz o u)->H' b=some (.frz o u))(tbls:∀b ps,H b=some (.tbl ps)->∃more,H' b=some (.tbl (ps++more)))(ns:∀m,s.heap.Ns X.env.locals m->h'.Ns X.env.locals m)(hok:HOk X.prog X.w H' h')(hg:AllBare g'):
  Inv X pins σ H' { s with heap:=h',gens:=g',drawn:=d',toks:=t' }:=by
 have neL:∀b o,X.s₀.heap.get? b=some o->b≠X.env.locals:=λb o e=>Nat.ne_of_lt (Nat.lt_of_lt_of_le (Heap.lt_size e) I.ok.above);have neC:∀b o,X.s₀.heap.get? b=some o->b∉X.ex->b∉ch:=λb o e hx hb=>by
  rcases (hch b hb).1 with z | z
  .exact hx z
  .exact absurd (Nat.lt_of_lt_of_le (Heap.lt_size e) z) (Nat.lt_irrefl _)
 have cellK:∀x c,X.env.cells.lookup x=some c->∀v,s.heap.IsCell c v->h'.IsCell c v:=λx c e v ⟨o,ho,hd⟩=>by
  have nch:c∉ch:=λz=>(hch c z).2.2.1 x c e rfl
  by_cases hc:c∈X.fs
  .obtain⟨sl,q⟩:=slot c o (I.cne x c e) hc nch ho (I.freeC x c e);exists _,q,hd
  .exists o,keep c o (I.cne x c e) hc nch ho (I.freeC x c e),hd
 exists I.ok,I.os,hg,⟨λb o e n hb hx=>?_,λb o e n hb hx=>?_,λb o e n hx=>?_,λb o e hx=>?_,λb xs e=>tups b xs (I.base.tups b xs e),λb o xs e=>frzs b o xs (I.base.frzs b o xs e),λb ps e=>?_⟩,?_,λx c e=>?_,?_,λx c e=>?_,λp hp=>?_,hok,I.len
 .exact keep b o (neL b o e) hb (neC b o e hx) (I.base.keep b o e n hb hx) (I.base.free b o e n hx)
 .obtain⟨sl,e1⟩:=I.base.slot b o e n hb hx;obtain⟨sl',e2⟩:=slot b _ (neL b o e) hb (neC b o e hx) e1 (I.base.free b o e n hx);exists sl',e2
 .obtain⟨o',e1⟩:=I.base.there b o e hx;exact free b o' (neC b o e hx) e1 (I.base.free b o e n hx)
 .obtain⟨o',e1⟩:=I.base.there b o e hx;exact there b o' (neC b o e hx) e1
 .obtain⟨m1,e1⟩:=I.base.tbls b ps e;obtain⟨m2,e2⟩:=tbls b _ e1;exists m1++m2,by rw[e2,Array.append_assoc]
 .obtain⟨m,hn,hl⟩:=I.loc;exists m,ns m hn,λi x v e1 e2 e3=>?_;obtain⟨u,r,l⟩:=hl i x v e1 e2 e3;exists u,r,?_;rcases l with l | ⟨k,c,e,z⟩
  .exact .inl l
  .exact .inr ⟨k,c,e,cellK x c e _ z⟩
 .obtain⟨v,z⟩:=I.cell x c e;exists v,cellK x c e v z
 .obtain⟨m,⟨o,_,_,ho,_⟩,_⟩:=I.loc;exact free _ o (λz=>(hch _ z).2.1 rfl) ho I.free
 .obtain⟨v,o,ho,hd⟩:=I.cell x c e;exact free c o (λz=>(hch c z).2.2.1 x c e rfl) ho (I.freeC x c e)
 .obtain⟨e,n,ne,nf,d⟩:=I.pin p hp;have nch:p.1∉ch:=λz=>(hch p.1 z).2.2.2 p hp rfl;exists keep p.1 p.2 ne nf nch e n,free p.1 p.2 nch e n,ne,nf,d
theorem Inv.un (I:Inv X pins σ H s)(u:Un X.fs [] H H' s.heap h')(hok:HOk X.prog X.w H' h'):Inv X pins σ H' { s with heap:=h',toks:=t' }:=by
 obtain⟨m,⟨o,es,ep,ho,r⟩,_⟩:=id I.loc;obtain⟨sl,hL⟩:=u.any ho I.free ⋯;exact I.step (g':=s.gens) (d':=s.drawn) (ch:=[]) (λ_ z=>nomatch z) (λb o _ hb _ e n=>u.keep b o e n hb ⋯) (λb o _ hb _ e n=>u.slot b o e n hb ⋯) (λb o _ e n=>u.free b o e n ⋯) (λb o _ e=>u.there b o e ⋯) u.tups u.frzs u.tbls (λm' hm=>by
  obtain⟨o',es',ep',ho',r'⟩:=hm;rw[ho] at ho';cases ho';exact⟨_,es',ep',hL,r'⟩) hok I.bare
theorem Inv.call (I:Inv X pins σ H s)(u:Un (frs X.stack) ch H H' s.heap h')(hok:HOk X.prog X.w H' h')(hg:AllBare g')(hch:∀b∈ch,(b∈X.ex\/X.s₀.heap.objs.size<=b)/\b≠X.env.locals/\(∀x c,X.env.cells.lookup x=some c->c≠b)/\∀p∈X.pn++pins,p.1≠b):
  Inv X pins σ H' { s with heap:=h',gens:=g',drawn:=d',toks:=t' }:=by
 obtain⟨m,⟨o,es,ep,ho,r⟩,_⟩:=id I.loc;obtain⟨sl,hL⟩:=u.any ho I.free λz=>(hch _ z).2.1 rfl;exact I.step (ch:=ch) hch (λb o hL hb hc e n=>u.keep b o e n (λz=>(mem_cons.mp (I.stkSub b z)).elim hL hb) hc) (λb o _ _ hc e n=>u.any e n hc) (λb o hc e n=>u.free b o e n hc) (λb o hc e=>u.there b o e hc) u.tups u.frzs u.tbls (λm' hm=>by
  obtain⟨o',es',ep',ho',r'⟩:=hm;rw[ho] at ho';cases ho';exact⟨_,es',ep',hL,r'⟩) hok hg
theorem Inv.turned (I:Inv X pins σ H s)(k:∀b o,b≠it->s.heap.get? b=some o->h'.get? b=some o)(hn:H it=none)(hL:it≠X.env.locals)(h1:it∈X.ex\/X.s₀.heap.objs.size<=it)(h2:∀x c,X.env.cells.lookup x=some c->c≠it)(h3:∀p∈X.pn++pins,p.1≠it):Inv X pins σ H { s with heap:=h',toks:=t' }:=by
 have nit:∀b u,H b=some u->b≠it:=λb u e z=>by rw[z,hn] at e;cases e
 refine I.step (g':=s.gens) (d':=s.drawn) (ch:=[it]) (λb hb=>?_) (λb o _ _ hc e _=>k b o (λz=>hc (by simp[z])) e) (λb o _ _ hc e _=>⟨o.slots,k b o (λz=>hc (by simp[z])) e⟩) (λ_ _ _ _ n=>n)
  (λb o hc e=>⟨o,k b o (λz=>hc (by simp[z])) e⟩) (λ_ _ e=>e) (λ_ _ _ e=>e) (λb ps e=>⟨#[],by rw[e];simp⟩) (λm hm=>?_) (λb u e=>?_) I.bare
 .have e:b=it:=by simpa using hb
  subst e;exists h1,hL,h2,h3
 .obtain⟨o,es,ep,ho,r⟩:=hm;exists o,es,ep,k _ o (Ne.symm hL) ho,r
 .refine(I.hok b u e).stay (λc v hc q=>k c v ?_ q) (λ_ q=>q) λ_ _ q=>q;rcases hc with z | z
  .rw[z];exact nit b u e
  .exact nit c _ z
theorem Inv.tok (I:Inv X pins σ H s)(t:Nat):Inv X pins σ H { s with toks:=t }:=I.un (h':=s.heap) (t':=t) Un.refl I.hok
theorem Inv.kept (I:Inv X pins σ H s)(k:∀b u,s.heap.get? b=some u->h'.get? b=some u):Inv X pins σ H { s with heap:=h',toks:=t' }:=I.un (Un.kept k) (I.hok.kept k)
theorem Inv.laid (I:Inv X pins σ H s)(k:∀b u,s.heap.get? b=some u->h'.get? b=some u)(hp:s.heap.objs.size<=a)(new:cY X.prog X.w (upd H a o) h' a o):
  Inv X pins σ (upd H a o) { s with heap:=h',toks:=t' }:=I.un (Un.laid k hp (I.hok.fresh hp)) (I.hok.laid k hp new)
theorem Inv.write (I:Inv X pins σ H s)(mu:Mut (H x))(he:e=x\/H e=some (.own x))(k:∀b u,b≠e->s.heap.get? b=some u->h'.get? b=some u)(heo:∃u,h'.get? e=some u)(new:cY X.prog X.w (upd H x o) h' x o):Inv X pins σ (upd H x o) { s with heap:=h',toks:=t' }:=I.un (Un.write mu he k heo) (I.hok.write mu he k heo new)
theorem Inv.weak (I:Inv X pins σ H s)(hl:σ'.length=σ.length)(w:∀(i:Nat) v,σ'[i]?=some (some v)->σ[i]?=some (some v)):Inv X pins σ' H s:=
 ⟨I.ok,I.os,I.bare,I.base,let ⟨m,hn,hl'⟩:=I.loc;⟨m,hn,λi x v e1 e2 e3=>hl' i x v e1 (w i v e2) e3⟩,I.cell,I.free,I.freeC,I.pin,I.hok,hl.trans I.len⟩
theorem Inv.pins_of (I:Inv X pins σ H s)(h:∀p∈pins',s.heap.get? p.1=some p.2/\H p.1=none/\p.1≠X.env.locals/\p.1∉X.fs/\∀v,p.2.data≠.cell v):Inv X pins' σ H s:=
 ⟨I.ok,I.os,I.bare,I.base,I.loc,I.cell,I.free,I.freeC,λp hp=>(mem_append.mp hp).elim (λz=>I.pin p (mem_append_left _ z)) (h p),I.hok,I.len⟩
theorem vI {N:List Str}(hN:N.Nodup){i j:Nat}(a:N[i]?=some x)(b:N[j]?=some x):i=j:=by
 obtain⟨h1,e1⟩:=List.getElem?_eq_some_iff.mp a;obtain⟨h2,e2⟩:=List.getElem?_eq_some_iff.mp b;exact(getElem_inj hN).mp (e1.trans e2.symm)
theorem yR (I:Inv X pins σ H s)(hN:X.N.Nodup)(hi:X.N[i]?=some x)(hx:Loc X.env.scope x)(r:cL v u)(h:∀s',Inv X pins (σ.set i (some v)) H s'->(∃a,Heap.SameBut a s.heap s'.heap/\(a=X.env.locals\/X.env.cells.lookup x=some a))->Q .unit s')(hf:X.fn x=true\/X.env.scope.names.lookup x=some .local:=by first | exact .inl rfl | exact .inr rfl | assumption):wpAny M A (storeName X.env x u) Q E s:=by
 obtain⟨m,hn,hl⟩:=id I.loc;have hcls:(X.env.scope.kind == .class || (X.env.scope.kind == .module && X.env.locals != X.env.globals))=false:=by rw[I.ok.kind];rfl
 have hiσ:i < σ.length:=by rw[I.len];exact(List.getElem?_eq_some_iff.mp hi).1
 have cne:=I.cne;have tracked:∀{a:Addr} {h':Heap},(∃o,s.heap.get? a=some o/\H a=none)->Heap.SameBut a s.heap h'->HOk X.prog X.w H h':=λ{a h'} ha hs b ob e=>by
  obtain⟨_,_,hfree⟩:=ha;refine(I.hok b ob e).stay (λc w' hc q=>(hs.2 c ?_).trans q) (λ_ q=>q) λ_ _ q=>q;rintro rfl;rcases hc with rfl | hc
  .rw[hfree] at e;cases e
  .rw[hfree] at hc;cases hc
 rcases hx with hk | hk
 .refine wpAny_storeName_local hk hn (λh' hn' hs=>?_) hcls;obtain⟨oL,_,_,hoL,_⟩:=id hn;refine h _ ⟨I.ok,I.os,I.bare,⟨λb o e n hb hx=>?_,λb o e n hb hx=>?_,I.base.free,λb o e hx=>?_,I.base.tups,I.base.frzs,I.base.tbls⟩,⟨_,hn',λj y v' e1 e2 e3=>?_⟩,λy c e=>?_,I.free,I.freeC,λp hp=>?_,tracked ⟨oL,hoL,I.free⟩ hs,by simpa using I.len⟩ ⟨_,hs,.inl rfl⟩
  .exact(hs.2 b (Nat.ne_of_lt (Nat.lt_of_lt_of_le (Heap.lt_size e) I.ok.above))).trans (I.base.keep b o e n hb hx)
  .obtain⟨sl,e1⟩:=I.base.slot b o e n hb hx;exists sl,(hs.2 b (Nat.ne_of_lt (Nat.lt_of_lt_of_le (Heap.lt_size e) I.ok.above))).trans e1
  .obtain⟨o',e1⟩:=I.base.there b o e hx;exists o',(hs.2 b (Nat.ne_of_lt (Nat.lt_of_lt_of_le (Heap.lt_size e) I.ok.above))).trans e1
  .by_cases hj:j=i
   .subst hj;rw[hi] at e1;cases e1;rw[getElem?_set_self hiσ] at e2
    cases e2
    exists u,r,.inl ⟨hk,⋯⟩
   .rw[getElem?_set_ne (Ne.symm hj)] at e2;obtain⟨u',r',q⟩:=hl j y v' e1 e2 e3;exists u',r',?_;rcases q with ⟨k,e⟩ | ⟨k,c,e,z⟩
    .refine .inl ⟨k,?_⟩;have:y≠x:=λe=>hj (vI hN e1 (e ▸ hi));simp[this,e]
    .exact .inr ⟨k,c,e,z.sameBut hs (cne y c e)⟩
  .obtain⟨w',z⟩:=I.cell y c e;exists w',z.sameBut hs (cne y c e)
  .obtain⟨e,n,ne,nf,d⟩:=I.pin p hp;exists (hs.2 p.1 ne).trans e,n,ne,nf,d
 .have hfn:X.fn x=true:=by
   rcases hf with z | z
   .exact z
   .rw[z] at hk;cases hk
  obtain⟨c,hc⟩:=I.ok.has x (.inl hk);obtain⟨w',z⟩:=I.cell x c hc;refine wpAny_storeName_cell I.ok.kind hk hc z (λh' hc' hs=>?_);obtain⟨oc,hoc,hocd⟩:=id z;refine h { s with heap:=h' } ⟨I.ok,I.os,I.bare,⟨λb o e n hb hx=>?_,λb o e n hb hx=>?_,I.base.free,λb o e hx=>?_,I.base.tups,I.base.frzs,I.base.tbls⟩,⟨m,hn.sameBut hs (Ne.symm (cne x c hc)),λj y v' e1 e2 e3=>?_⟩,λy c' e=>?_,I.free,I.freeC,λp hp=>?_,tracked ⟨oc,hoc,I.freeC x c hc⟩ hs,by simpa using I.len⟩ ⟨c,hs,.inr hc⟩
  .exact(hs.2 b (Nat.ne_of_lt (Nat.lt_of_lt_of_le (Heap.lt_size e) (I.ok.cab x c hfn hc)))).trans (I.base.keep b o e n hb hx)
  .obtain⟨sl,e1⟩:=I.base.slot b o e n hb hx;exists sl,(hs.2 b (Nat.ne_of_lt (Nat.lt_of_lt_of_le (Heap.lt_size e) (I.ok.cab x c hfn hc)))).trans e1
  .obtain⟨o',e1⟩:=I.base.there b o e hx;exists o',(hs.2 b (Nat.ne_of_lt (Nat.lt_of_lt_of_le (Heap.lt_size e) (I.ok.cab x c hfn hc)))).trans e1
  .by_cases hj:j=i
   .subst hj;rw[hi] at e1;cases e1;rw[getElem?_set_self hiσ] at e2
    cases e2
    exists u,r,.inr ⟨.inl hk,c,hc,hc'⟩
   .rw[getElem?_set_ne (Ne.symm hj)] at e2;obtain⟨u',r',q⟩:=hl j y v' e1 e2 e3;exists u',r',?_;rcases q with q | ⟨k,c',e,z'⟩
    .exact .inl q
    .refine .inr ⟨k,c',e,z'.sameBut hs ?_⟩;rintro rfl;exact hj (vI hN e1 (I.ok.inj _ _ _ e hc ▸ hi))
  .by_cases hcc:c'=c
   .subst hcc;exists _,hc'
   .obtain⟨w2,z2⟩:=I.cell y c' e;exists w2,z2.sameBut hs hcc
  .obtain⟨e,n,ne,nf,d⟩:=I.pin p hp;exists (hs.2 p.1 ?_).trans e,n,ne,nf,d;intro q;rw[q,hoc] at e;have q':oc=p.2:=Option.some.inj e;exact d w' (by rw[<- q'];exact hocd)
theorem kB (I:Inv X pins σ H s)(hN:X.N.Nodup)(hi:X.N[i]?=some x)(hx:Loc X.env.scope x)(r:cL v u)(h:∀s',Inv X pins (σ.set i (some v)) H s'->Q .unit s')(hf:X.fn x=true\/X.env.scope.names.lookup x=some .local:=by first | exact .inl rfl | exact .inr rfl | assumption):wpAny M A (storeName X.env x u) Q E s:=
 yR I hN hi hx r (λs' I' _=>h s' I') hf
theorem Inv.call' (I:Inv X pins σ H s)(ho:s'.os=s.os)(u:Un (frs X.stack) ch H H' s.heap s'.heap)(hok:HOk X.prog X.w H' s'.heap)(hg:AllBare s'.gens)(hch:∀b∈ch,(b∈X.ex\/X.s₀.heap.objs.size<=b)/\b≠X.env.locals/\(∀x c,X.env.cells.lookup x=some c->c≠b)/\∀p∈X.pn++pins,p.1≠b):Inv X pins σ H' s':=by
 obtain⟨h',g',d',t',o'⟩:=s';have e:o'=s.os:=ho;subst e;exact I.call (g':=g') (t':=t') (d':=d') u hok hg hch
end
abbrev XK:=Value->Option Addr->Hp->Prop
abbrev St:=List (Option V)
abbrev VK:=V->Hp->Prop
abbrev TE:=St->Hp->VK->Prop
abbrev TT:=St->Hp->(Bool->Hp->Prop)->Prop
abbrev TA:=St->Hp->(List V->Hp->Prop)->Prop
structure jN where
 nx:St->Hp->Prop
 rt:VK
 bk:St->Hp->Prop:=λ_ _=>False
 ct:St->Hp->Prop:=λ_ _=>False
abbrev TS:=jN->St->Hp->Prop
def EP (X:Cx)(pins:List (Addr × Obj))(σ:St)(Q:VK)(u:Value)(s':Shared):Prop:=∃v H',Inv X pins σ H' s'/\cL v u/\Q v H'
def TP (X:Cx)(pins:List (Addr × Obj))(σ:St)(Q:Bool->Hp->Prop)(b:Bool)(s':Shared):Prop:=∃H',Inv X pins σ H' s'/\Q b H'
def AP (X:Cx)(pins:List (Addr × Obj))(σ:St)(Q:List V->Hp->Prop)(us:List Value)(s':Shared):Prop:=∃vs H',Inv X pins σ H' s'/\cA vs us/\Q vs H'
def SP (X:Cx)(pins:List (Addr × Obj))(D:jN)(f:Flow)(s':Shared):Prop:=
 match f with
 | .next=>∃σ' H',Inv X pins σ' H' s'/\D.nx σ' H'
 | .brk=>∃σ' H',Inv X pins σ' H' s'/\D.bk σ' H'
 | .cont=>∃σ' H',Inv X pins σ' H' s'/\D.ct σ' H'
 | .ret u=>∃v σ' H',Inv X pins σ' H' s'/\cL v u/\D.rt v H'
def PE (X:Cx)(e:Expr)(t:TE):Prop:=
 ∀(pins:List (Addr × Obj)) (s:Shared) (σ:St) (H:Hp) (Q:VK),Inv X pins σ H s->t σ H Q->wpAny (model X.prog X.w) X.A (eval e X.env) (EP X pins σ Q) X.xe s
def PT (X:Cx)(e:Expr)(t:TT):Prop:=
 ∀(pins:List (Addr × Obj)) (s:Shared) (σ:St) (H:Hp) (Q:Bool->Hp->Prop),Inv X pins σ H s->t σ H Q->wpAny (model X.prog X.w) X.A (isTrue e X.env (eval e X.env)) (TP X pins σ Q) X.xe s
def PW (X:Cx)(e:Expr)(t:TT):Prop:=
 ∀(whole:Sem Value) (pins:List (Addr × Obj)) (s:Shared) (σ:St) (H:Hp) (Q:Bool->Hp->Prop),Inv X pins σ H s->t σ H Q->wpAny (model X.prog X.w) X.A (isTrue e X.env whole) (TP X pins σ Q) X.xe s
theorem PW.pt (h:PW X e t):PT X e t:=h _
def PA (X:Cx)(es:List Expr)(t:TA):Prop:=
 ∀(pos:Pos) (pins:List (Addr × Obj)) (s:Shared) (σ:St) (H:Hp) (Q:List V->Hp->Prop),Inv X pins σ H s->t σ H Q->wpAny (model X.prog X.w) X.A (spliced (backTo pos (starEach es X.env))) (AP X pins σ Q) X.xe s
def PS (X:Cx)(st:Stmt)(t:TS):Prop:=
 ∀(pins:List (Addr × Obj)) (s:Shared) (σ:St) (H:Hp) (D:jN),Inv X pins σ H s->t D σ H->wpAny (model X.prog X.w) X.A (exec st X.env) (SP X pins D) X.xe s
def PSs (X:Cx)(st:List Stmt)(t:TS):Prop:=
 ∀(pins:List (Addr × Obj)) (s:Shared) (σ:St) (H:Hp) (D:jN),Inv X pins σ H s->t D σ H->wpAny (model X.prog X.w) X.A (execs st X.env) (SP X pins D) X.xe s
theorem thn (h:wpAny M A t Q E s)(hQ:∀a s,Q a s->Q' a s):wpAny M A t Q' E s:=wpAny_mono h hQ λ_ _ x=>x
section
variable {X:Cx}
inductive Pp (i:Nat) (σ:St) (H:Hp) (Q:VK):Prop where
 |mk (v):σ[i]?=some (some v)->Q v H->Pp i σ H Q
def tC (v:V):TE:=λ_ H Q=>Q v H
theorem Pt (hN:X.N[i]?=some x)(hv:Vis X.env.scope x)(hd:(x == ("__debug__":Str))=false:=by decide)(hcd:(x == ("__classdict__":Str))=false:=by decide):PE X (.Name x pos) (Pp i):=by
 intro pins s σ H Q I h;obtain⟨v,e,h⟩:=h;obtain⟨m,hn,hl⟩:=I.loc;obtain⟨u,r,l⟩:=hl i x v hN e hv;have fin:EP X pins σ Q u s:=⟨v,H,I,r,h⟩
 rcases l with ⟨hk,hm⟩ | ⟨hk,c,hc,hcell⟩
 .exact wpAny_Name (wpAny_loadName_local I.ok.kind hk hn hm fin) hd
 .rcases hk with hk | hk
  .exact wpAny_Name (wpAny_loadName_cell I.ok.kind hk hc hcell fin) hd
  .exact wpAny_Name (wpAny_loadName_free I.ok.kind hk hc hcell fin hcd) hd
theorem aF {i j pos}:PE X (.Constant (.int i) j pos) (tC (.int i)):=λ_ _ _ H _ I h=>wpAny_Constant_int ⟨.int i,H,I.tok _,⟨_,rfl⟩,h⟩
theorem gO {b j pos}:PE X (.Constant (.bool b) j pos) (tC (.bl b)):=λ_ _ _ H _ I h=>Constant_bool ⟨.bl b,H,I,rfl,h⟩
theorem Hl {j pos}:PE X (.Constant .none j pos) (tC .non):=λ_ _ _ H _ I h=>Constant_none ⟨.non,H,I,rfl,h⟩
theorem dH {x j pos}:PE X (.Constant (.str x) j pos) (tC (.str x)):=λ_ _ _ H _ I h=>Calls.Constant_str ⟨.str x,H,I.tok _,⟨_,rfl⟩,h⟩
def Gl (X:Cx)(x:Str):Prop:=X.env.kindOf x=some .globalImplicit
theorem jS (I:Inv X pins σ H s)(hg:Gl X x)(hm:X.mg x=some u)(h:Q u s)(hd:(x == ("__debug__":Str))=false:=by decide):wpAny (model X.prog X.w) X.A (eval (.Name x pos) X.env) Q E s:=
 Calls.Name_function_global I.ok.kind hg (Calls.loadGlobal_global (by rw[I.ok.glob];exact I.mod.glob.keeps I.bk) hm h) hd
theorem iG (I:Inv X pins σ H s)(hg:Gl X x)(hm:X.mg x=none)(hv:bootBuiltins x=some u)(h:Q u s)(hn:x≠"__name__":=by decide)(hd:(x == ("__debug__":Str))=false:=by decide):wpAny (model X.prog X.w) X.A (eval (.Name x pos) X.env) Q E s:=by
 obtain⟨mb,h1,h2⟩:=I.mod.blt;exact Calls.Name_function_global I.ok.kind hg (Calls.loadGlobal_builtin (by rw[I.ok.glob];exact I.mod.glob.keeps I.bk) hm (by rw[I.ok.blt];exact h1.keeps I.bk) ((h2 x hn).trans hv) h) hd
theorem gK (hg:Gl X x)(hm:X.mg x=some u)(r:cL v u)(hd:(x == ("__debug__":Str))=false:=by decide):PE X (.Name x pos) (tC v):=
 λ_ _ _ H _ I h=>jS I hg hm ⟨v,H,I,r,h⟩ hd
theorem Ve (hg:Gl X x)(hm:X.mg x=none)(hv:bootBuiltins x=some u)(r:cL v u)(hn:x≠"__name__":=by decide)(hd:(x == ("__debug__":Str))=false:=by decide):PE X (.Name x pos) (tC v):=
 λ_ _ _ H _ I h=>iG I hg hm hv ⟨v,H,I,r,h⟩ hn hd
variable {a b:Expr} {ta tb:TE} {pos:Pos}
def PC (X:Cx)(op:CmpOp)(a b:Expr)(t:TE):Prop:=
 ∀(pins:List (Addr × Obj)) (s:Shared) (σ:St) (H:Hp) (Q:VK),Inv X pins σ H s->t σ H Q->
  wpAny (model X.prog X.w) X.A (eval a X.env) (λv s₁=>wpAny (model X.prog X.w) X.A (eval b X.env) (λu s₂=>wpAny (model X.prog X.w) X.A (compareOp op v u) (EP X pins σ Q) X.xe s₂) X.xe s₁) X.xe s
theorem Ow (b:Expr)(h:op≠.In)(h2:op≠.NotIn):behindInMarks op b=false:=by
 have e1:(op == CmpOp.In)=false:=by cases op<;>first | rfl | exact absurd rfl h
 have e2:(op == CmpOp.NotIn)=false:=by cases op<;>first | rfl | exact absurd rfl h2
 cases b<;>simp[behindInMarks,e1,e2]
def qp5 (ta:TE):TE:=λσ H Q=>ta σ H λx H1=>Q (.bl (decide (x=.non))) H1
theorem cL.none_iff (r:cL x v):(v == Value.none)=decide (x=.non):=by
 cases x with
 |non=>cases r;rfl
 |bl _=>cases r;rfl
 |int _=>obtain⟨t,rfl⟩:=r;rfl
 |str _=>obtain⟨t,rfl⟩:=r;rfl
 |byt _=>obtain⟨t,rfl⟩:=r;rfl
 |flt _=>obtain⟨t,rfl⟩:=r;rfl
 |ref _=>cases r;rfl
 |ty _=>cases r;rfl
theorem qf0 {j pos'}(ha:PE X a ta):PC X .Is a (.Constant .none j pos') (qp5 ta):=by
 intro pins s σ H Q I h;refine thn (ha pins s σ H _ I h) λv s1 ⟨x,H1,I1,r1,q1⟩=>?_;exact Constant_none (is_none_gen ⟨.bl _,H1,I1,by rw[r1.none_iff];rfl,q1⟩)
inductive BlT (x:V) (q:Bool->Prop):Prop where
 |mk (c:Bool) (_:x=.bl c) (_:q c):BlT x q
def tB (t:TE):TT:=λσ H Q=>t σ H λx H1=>BlT x λc=>Q c H1
theorem qf8 (h:PC X op a b t)(h1:behindInMarks op b=false:=by first | exact Ow _ ∅ ∅ | rfl):PT X (.Compare a [op] [b] pos) (tB t):=by
 intro pins s σ H Q I hw;refine wpAny_isTrue_Compare1 (thn (h pins s σ H _ I hw) λv s1 h1=>thn h1 λu s2 h2=>thn h2 λc s3 ⟨x,H1,I1,r1,q1⟩=>?_) h1;obtain⟨d,rfl,q⟩:=q1
 cases r1
 exact wpAny_truthy_bool ⟨H1,I1,q⟩
theorem cV (h:PE X e t)(he:∀whole,isTrue e X.env whole=(do let v <- whole;standAt e.pos;holding [v] (truthy v)):=by intro _;rfl):PT X e (tB t):=by
 intro pins s σ H Q I hw;refine isTrue_plain (thn (h pins s σ H _ I hw) λv s1 ⟨x,H1,I1,r1,q1⟩=>?_) (he _);obtain⟨d,rfl,q⟩:=q1
 cases r1
 exact wpAny_truthy_bool ⟨H1,I1,q⟩
variable {tA tB':TT} {rest:List Expr}
def qq8 (t u:TT):TT:=λσ H Q=>t σ H λc H1=>if c=true then u σ H1 Q else Q false H1
def tOr (t u:TT):TT:=λσ H Q=>t σ H λc H1=>if c=true then Q true H1 else u σ H1 Q
def qr6 (t:TT):TT:=λσ H Q=>t σ H λc H1=>Q (!c) H1
theorem uI (ha:PT X a tA):PW X (.BoolOp .And [a] pos) tA:=by
 intro wh pins s σ H Q I h;refine isTrue_and (thn (ha pins s σ H Q I h) λc s1 e=>?_)
 cases c with
 |true=>exact isTrue_and_nil e
 |false=>exact e
theorem gV (ha:PT X a tA):PW X (.BoolOp .Or [a] pos) tA:=by
 intro wh pins s σ H Q I h;refine isTrue_or (thn (ha pins s σ H Q I h) λc s1 e=>?_)
 cases c with
 |false=>exact isTrue_or_nil e
 |true=>exact e
theorem zJ (ha:PT X a tA)(hb:PW X (.BoolOp .And (b :: rest) pos) tB'):PW X (.BoolOp .And (a :: b :: rest) pos) (qq8 tA tB'):=by
 intro wh pins s σ H Q I h;refine isTrue_and (thn (ha pins s σ H _ I h) λc s1 ⟨H1,I1,q1⟩=>?_)
 cases c with
 |true=>exact hb wh pins s1 σ H1 Q I1 q1
 |false=>exact⟨H1,I1,q1⟩
theorem gM (ha:PT X a tA)(hb:PW X (.BoolOp .Or (b :: rest) pos) tB'):PW X (.BoolOp .Or (a :: b :: rest) pos) (tOr tA tB'):=by
 intro wh pins s σ H Q I h;refine isTrue_or (thn (ha pins s σ H _ I h) λc s1 ⟨H1,I1,q1⟩=>?_)
 cases c with
 |true=>exact⟨H1,I1,q1⟩
 |false=>exact hb wh pins s1 σ H1 Q I1 q1
theorem dJ (ha:PT X a tA):PT X (.UnaryOp .Not a pos) (qr6 tA):=by
 intro pins s σ H Q I h;exact isTrue_not (ha pins s σ H (λc H1=>Q (!c) H1) I h)
def qo0 (ta tb:TE):TE:=λσ H Q=>ta σ H λx H1=>BlT x λc=>if c=true then tb σ H1 Q else Q (.bl false) H1
def qk7 (ta:TE):TE:=λσ H Q=>ta σ H λx H1=>BlT x λc=>Q (.bl (!c)) H1
theorem oV {op}(h:PE X a t):PE X (.BoolOp op [a] pos) t:=λpins s σ H Q I hw=>BoolOp_one (h pins s σ H Q I hw)
theorem jW (ha:PE X a ta)(hb:PE X (.BoolOp .And (b :: rest) pos) tb):PE X (.BoolOp .And (a :: b :: rest) pos) (qo0 ta tb):=by
 intro pins s σ H Q I h;refine BoolOp_and (thn (ha pins s σ H _ I h) λv s1 ⟨x,H1,I1,r1,q1⟩=>?_);obtain⟨c,rfl,q1⟩:=q1
 cases r1
 refine wpAny_truthy_bool ?_
 cases c with
 |true=>exact hb pins s1 σ H1 Q I1 q1
 |false=>exact⟨.bl false,H1,I1,rfl,q1⟩
theorem qg4 (ha:PE X a ta):PE X (.UnaryOp .Not a pos) (qk7 ta):=by
 intro pins s σ H Q I h;refine UnaryOp_ (thn (ha pins s σ H _ I h) λv s1 ⟨x,H1,I1,r1,q1⟩=>?_);obtain⟨c,rfl,q1⟩:=q1
 cases r1
 exact not_of (wpAny_truthy_bool ⟨.bl (!c),H1,I1,rfl,q1⟩)
def tIf (t:TT)(ta tb:TE):TE:=λσ H Q=>t σ H λc H1=>if c=true then ta σ H1 Q else tb σ H1 Q
theorem vJ (hc:PT X c tA)(ha:PE X a ta)(hb:PE X b tb):PE X (.IfExp c a b pos) (tIf tA ta tb):=by
 intro pins s σ H Q I h;refine wpAny_IfExp (thn (hc pins s σ H _ I h) λd s1 ⟨H1,I1,q1⟩=>?_)
 cases d with
 |true=>exact ha pins s1 σ H1 Q I1 q1
 |false=>exact hb pins s1 σ H1 Q I1 q1
end
def SqL (K:Frag)(H:Hp)(a:Addr)(xs:List V):Prop:=
 Rd H a (.lst xs)\/
  ∃(o:Obj) (its:Array Value) (n:Nat),K.lookup a=some o/\o.cls=.type "list"/\o.dict=none/\o.data=.seq its n/\its.size<=sizeLine/\cA xs its.toList
def SqT (K:Frag)(H:Hp)(a:Addr)(xs:List V):Prop:=
 Rd H a (.tup xs)\/
  ∃(o:Obj) (its:Array Value) (n:Nat),K.lookup a=some o/\o.cls=.type "tuple"/\o.data=.seq its n/\its.size<=sizeLine/\cA xs its.toList
def qs6:Value->Option V
 | .none=>some .non
 | .bool b=>some (.bl b)
 | .int i _=>some (.int i)
 | .str x _=>some (.str x)
 | .bytes b _=>some (.byt b)
 | .float b _=>some (.flt b)
 | .ref a=>some (.ref a)
 | .type n=>some (.ty n)
 |_=>none
theorem cL.abs (r:cL x u):qs6 u=some x:=by
 cases x with
 |non=>cases r;rfl
 |bl _=>cases r;rfl
 |int _=>obtain⟨t,rfl⟩:=r;rfl
 |str _=>obtain⟨t,rfl⟩:=r;rfl
 |byt _=>obtain⟨t,rfl⟩:=r;rfl
 |flt _=>obtain⟨t,rfl⟩:=r;rfl
 |ref _=>cases r;rfl
 |ty _=>cases r;rfl
theorem cL.inj (r:cL x u)(q:cL y u):x=y:=Option.some.inj (r.abs.symm.trans q.abs)
theorem cA.inj:∀{xs ys:List V} {us:List Value},cA xs us->cA ys us->xs=ys
 |_,_,_,.nil,.nil=>rfl
 |_,_,_,.cons r t,.cons r' t'=>by rw[r.inj r',cA.inj t t']
section
variable {X:Cx} {pins:List (Addr × Obj)} {σ:St} {H:Hp} {s:Shared} {a:Addr} {xs ys:List V}
theorem SqL.of {K:Frag}(h:H a=some (.lst xs)):SqL K H a xs:=.inl (.inl h)
theorem SqT.of {K:Frag}(h:H a=some (.tup xs)):SqT K H a xs:=.inl (.inl h)
theorem Inv.list (I:Inv X pins σ H s)(h:SqL X.K H a xs):∃its:List Value,cA xs its/\PlainL s.heap a its.toArray/\xs.length<=sizeLine:=by
 rcases h with h | ⟨o,its,n,hk,hc,hd,hs,hz,r⟩
 .obtain⟨z,its,n,r,e⟩:=h.ok I.hok;exists its,r,⟨_,n,e,rfl,rfl,rfl⟩,z
 .exists its.toList,r,⟨o,n,I.kIn a o hk,hc,hd,by simpa using hs⟩,?_;have e:=r.length;simp only[Array.length_toList] at e;lia
theorem Inv.tuple (I:Inv X pins σ H s)(h:SqT X.K H a xs):∃its:List Value,cA xs its/\IsTup s.heap a its.toArray/\xs.length<=sizeLine:=by
 rcases h with h | ⟨o,its,n,hk,hc,hs,hz,r⟩
 .obtain⟨z,its,r,p⟩:=h.ok I.hok;exists its,r,p,z
 .exists its.toList,r,⟨o,I.kIn a o hk,hc,n,by simpa using hs⟩,?_;have e:=r.length;simp only[Array.length_toList] at e;lia
theorem Inv.list_inj (I:Inv X pins σ H s)(h:SqL X.K H a xs)(h':SqL X.K H a ys):xs=ys:=by
 obtain⟨its,r,⟨o,n,e,_,_,d⟩,_⟩:=I.list h;obtain⟨its',r',⟨o',n',e',_,_,d'⟩,_⟩:=I.list h';rw[e] at e';cases e';rw[d] at d';injection d' with d1 _
 have:its=its':=by simpa using congrArg Array.toList d1
 subst this;exact r.inj r'
theorem Inv.tuple_inj (I:Inv X pins σ H s)(h:SqT X.K H a xs)(h':SqT X.K H a ys):xs=ys:=by
 obtain⟨its,r,⟨o,e,_,n,d⟩,_⟩:=I.tuple h;obtain⟨its',r',⟨o',e',_,n',d'⟩,_⟩:=I.tuple h';rw[e] at e';cases e';rw[d] at d';injection d' with d1 _
 have:its=its':=by simpa using congrArg Array.toList d1
 subst this;exact r.inj r'
end
abbrev Cx.wish (X:Cx)(E:Value->Shared->Prop):Cx:={ X with xe:=E }
abbrev Cx.nox (X:Cx):Cx:=X.wish λ_ _=>False
theorem Cx.Ok.wish {X:Cx}(ok:X.Ok)(E:Value->Shared->Prop):(X.wish E).Ok:=
 ⟨ok.mod,ok.kind,ok.glob,ok.blt,ok.above,ok.inj,ok.has,ok.cab,ok.hd,ok.frames,ok.stk,ok.exf,ok.bs,ok.bsz,ok.noex,ok.exfs,ok.funs,ok.frf⟩
theorem Cx.Ok.unwish {X:Cx}(ok:(X.wish E).Ok):X.Ok:=
 ⟨ok.mod,ok.kind,ok.glob,ok.blt,ok.above,ok.inj,ok.has,ok.cab,ok.hd,ok.frames,ok.stk,ok.exf,ok.bs,ok.bsz,ok.noex,ok.exfs,ok.funs,ok.frf⟩
section
variable {X:Cx} {pins:List (Addr × Obj)} {σ:St} {H:Hp} {s:Shared} {E:Value->Shared->Prop}
theorem Inv.wish (I:Inv X pins σ H s)(E:Value->Shared->Prop):Inv (X.wish E) pins σ H s:=⟨I.ok.wish E,I.os,I.bare,I.base,I.loc,I.cell,I.free,I.freeC,I.pin,I.hok,I.len⟩
theorem Inv.unwish (I:Inv (X.wish E) pins σ H s):Inv X pins σ H s:=⟨I.ok.unwish,I.os,I.bare,I.base,I.loc,I.cell,I.free,I.freeC,I.pin,I.hok,I.len⟩
theorem SP.unwish (h:SP (X.wish E) pins D f s'):SP X pins D f s':=by
 cases f with
 |next=>obtain⟨σ',H',I,q⟩:=h;exists σ',H',I.unwish,q
 |brk=>obtain⟨σ',H',I,q⟩:=h;exists σ',H',I.unwish,q
 |cont=>obtain⟨σ',H',I,q⟩:=h;exists σ',H',I.unwish,q
 |ret u=>obtain⟨v,σ',H',I,r,q⟩:=h;exists v,σ',H',I.unwish,r,q
theorem PSs.nox {st:List Stmt}(h:PSs X.nox st t):PSs X st t:=λpins s σ H D I hw=>
 wpAny_mono (h pins s σ H D (I.wish _) hw) (λ_ _ q=>q.unwish) λ_ _ z=>False.elim z
end
section
variable {X:Cx} {st:Stmt} {rest:List Stmt} {t u:TS} {e:Expr} {te:TE} {pos:Pos}
def qm1:TS:=λD σ H=>D.nx σ H
def lT (t u:TS):TS:=λD σ H=>t { D with nx:=u D } σ H
theorem bH:PSs X [] qm1:=λ_ _ σ H _ I h=>wpAny_execs_nil ⟨σ,H,I,h⟩
theorem aD (h1:PS X st t)(h2:PSs X rest u):PSs X (st :: rest) (lT t u):=by
 intro pins s σ H D I h;refine wpAny_execs_cons (thn (h1 pins s σ H { D with nx:=u D } I h) λf s1 q=>?_)
 cases f with
 |next=>
  obtain⟨σ',H',I',q⟩:=q;exact h2 pins s1 σ' H' D I' q
 |ret v=>exact q
 |brk=>exact q
 |cont=>exact q
theorem aG (h1:PS X st t):PSs X [st] t:=by
 intro pins s σ H D I h;refine wpAny_execs_cons (thn (h1 pins s σ H D I h) λf s1 q=>?_)
 cases f with
 |next=>exact wpAny_execs_nil q
 |ret v=>exact q
 |brk=>exact q
 |cont=>exact q
def qo2:TS:=λD σ H=>D.ct σ H
theorem Ct:PS X (.Continue pos) qo2:=λ_ _ σ H _ I h=>wpAny_Continue ⟨σ,H,I,h⟩
theorem Inv.quiet (I:Inv X pins σ H s):interactive X.env=false:=by simp[interactive,I.ok.kind]
def qk5 (te:TE):TS:=λD σ H=>te σ H λ_ H1=>D.nx σ H1
theorem cD (he:PE X e te)(hs:swapsWith e none pos.line X.env=pure false:=by rfl):PS X (.Expr e pos) (qk5 te):=by
 intro pins s σ H D I h;exact wpAny_Expr_any (thn (he pins s σ H _ I h) λv s1 ⟨x,H1,I1,r1,q1⟩=>⟨σ,H1,I1,q1⟩) I.quiet hs
def qp6 (te:TE):TS:=λD σ H=>te σ H D.rt
theorem aY (he:PE X e te):PS X (.Return (some e) pos) (qp6 te):=by
 intro pins s σ H D I h;exact wpAny_Return_some (thn (he pins s σ H _ I h) λv s1 ⟨x,H1,I1,r1,q1⟩=>⟨x,σ,H1,I1,r1,q1⟩)
def qr8 (c:TT)(t u:TS):TS:=λD σ H=>c σ H λb H1=>if b=true then t D σ H1 else u D σ H1
theorem cN (hc:PT X c tc)(ha:PSs X a t)(hb:PSs X b u):PS X (.If c a b pos) (qr8 tc t u):=by
 intro pins s σ H D I h;refine wpAny_If (thn (hc pins s σ H _ I h) λd s1 ⟨H1,I1,q1⟩=>?_)
 cases d with
 |true=>exact ha pins s1 σ H1 D I1 q1
 |false=>exact hb pins s1 σ H1 D I1 q1
def Qy:TS:=λ_ _ _=>False
theorem iN:PS X st Qy:=λ_ _ _ _ _ _ h=>h.elim
theorem Nh:PSs X sts Qy:=λ_ _ _ _ _ _ h=>h.elim
end
abbrev TG:=V->St->Hp->(St->Hp->Prop)->Prop
abbrev TGs:=List V->St->Hp->(St->Hp->Prop)->Prop
def PG (X:Cx)(target:Expr)(t:TG):Prop:=
 ∀(pins:List (Addr × Obj)) (s:Shared) (σ:St) (H:Hp) (v:V) (u:Value) (Q:St->Hp->Prop),Inv X pins σ H s->cL v u->t v σ H Q->
  wpAny (model X.prog X.w) X.A (assign target X.env u) (λ_ s'=>∃σ' H',Inv X pins σ' H' s'/\Q σ' H') X.xe s
def PGs (X:Cx)(ts:List Expr)(t:TGs):Prop:=
 ∀(pins:List (Addr × Obj)) (s:Shared) (σ:St) (H:Hp) (vs:List V) (us:List Value) (Q:St->Hp->Prop),Inv X pins σ H s->cA vs us->t vs σ H Q->
  wpAny (model X.prog X.w) X.A (assignInOrder ((assignEach ts X.env).map (·.2)) us) (λ_ s'=>∃σ' H',Inv X pins σ' H' s'/\Q σ' H') X.xe s
abbrev qb5:=V->V->V->Hp->(Hp->Prop)->Prop
def qk0 (X:Cx)(t:qb5):Prop:=
 ∀(pins:List (Addr × Obj)) (s:Shared) (σ:St) (H:Hp) (o i v:V) (ov iv u:Value) (Q:Hp->Prop),Inv X pins σ H s->cL o ov->cL i iv->cL v u->t o i v H Q->
  wpAny (model X.prog X.w) X.A (setItem ov iv u) (λ_ s'=>∃H',Inv X pins σ H' s'/\Q H') X.xe s
abbrev TIp:=V->V->Hp->VK->Prop
def PIp (X:Cx)(op:Operator)(t:TIp):Prop:=
 ∀(pins:List (Addr × Obj)) (s:Shared) (σ:St) (H:Hp) (x y:V) (v u:Value) (Q:VK),Inv X pins σ H s->cL x v->cL y u->t x y H Q->
  wpAny (model X.prog X.w) X.A (inplaceOp op v u) (EP X pins σ Q) X.xe s
section
variable {X:Cx} {pos:Pos}
def iB (i:Nat):TG:=λv σ H Q=>Q (σ.set i (some v)) H
theorem aR (hN:X.N.Nodup)(hi:X.N[i]?=some x)(hx:Loc X.env.scope x)(hf:X.fn x=true\/X.env.scope.names.lookup x=some .local:=by first | exact .inl rfl | exact .inr rfl | assumption):PG X (.Name x pos) (iB i):=by
 intro pins s σ H v u Q I r h;exact wpAny_assign_Name (kB I hN hi hx r (λs' I'=>⟨_,H,I',h⟩) hf)
theorem qQ0 (hN:X.N.Nodup)(hi:X.N[i]?=some x:=by rfl)(hx:Loc X.env.scope x:=by exact .inl rfl)(hf:X.fn x=true\/X.env.scope.names.lookup x=some .local:=by first | exact .inl rfl | exact .inr rfl | assumption):PG X (.Name x pos) (iB i):=aR hN hi hx hf
def Di:TGs:=λvs σ H Q=>vs=[]/\Q σ H
def jK (t:TG)(u:TGs):TGs:=λvs σ H Q=>∃v r,vs=v :: r/\t v σ H λσ' H'=>u r σ' H' Q
theorem eO:PGs X [] Di:=by
 intro pins s σ H vs us Q I r h;obtain⟨e,h⟩:=h;subst e
 cases r
 exact assignInOrder_nil ⟨σ,H,I,h⟩
theorem bO (h1:PG X e t)(h2:PGs X es u)(hs:(assignEach (e :: es) X.env).map (·.2)=assign e X.env :: (assignEach es X.env).map (·.2):=by rfl):PGs X (e :: es) (jK t u):=by
 intro pins s σ H vs us Q I r h;obtain⟨v,vr,e1,h⟩:=h;subst e1
 cases r with
 |cons r rr=>
  rw[hs];refine assignInOrder_cons (thn (h1 pins s σ H _ _ _ I r h) λ_ s1 ⟨σ1,H1,I1,q1⟩=>?_);exact h2 pins s1 σ1 H1 _ _ Q I1 rr q1
def Ez (K:Frag)(n:Nat)(t:TGs):TG:=λv σ H Q=>∃a xs,v=.ref a/\SqT K H a xs/\xs.length=n/\t xs σ H Q
theorem gC (hc:X.calm=true)(h:PGs X es t)(hn:(assignEach es X.env).length=n:=by rfl)(hst:(assignEach es X.env).findIdx? (·.1)=none:=by rfl):PG X (.Tuple es k pos) (Ez X.K n t):=by
 intro pins s σ H v u Q I r hw;obtain⟨a,xs,e1,hq,hl,hw⟩:=hw;subst e1
 cases r
 obtain⟨its,rv,ht,hz⟩:=I.tuple hq;refine assign_Tuple_tuple (I.ok.hd hc) ht (by simp[hn,<- hl,rv.length]) hst λh' hx=>?_;have I1:Inv X pins σ H { s with heap:=h' }:=I.kept (t':=s.toks) λb o e=>hx b o (Nat.ne_of_lt (Heap.lt_size e)) e;exact h pins _ σ H xs _ Q I1 (by simpa using rv) hw
def qq1 (to ti:TE)(t:qb5):TG:=λv σ H Q=>to σ H λo H1=>ti σ H1 λi H2=>t o i v H2 λH3=>Q σ H3
theorem pE (ho:PE X o to)(hi:PE X i ti)(hs:qk0 X t)(ha:∀v,assign (.Subscript o i pos) X.env v=(do
   let ov <- holding [v] (eval o X.env)
   let iv <- holding [v,ov] (eval i X.env)
   standAt pos
   holding [v,ov,iv] (setItem ov iv v)
   release [v,ov,iv] []):=by intro _;rfl):PG X (.Subscript o i pos) (qq1 to ti t):=by
 intro pins s σ H v u Q I r h;rw[ha];refine wpAny_bind (wpAny_holding (thn (ho pins s σ H _ I h) λov s1 ⟨x,H1,I1,r1,q1⟩=>?_));refine wpAny_bind (wpAny_holding (thn (hi pins s1 σ H1 _ I1 q1) λiv s2 ⟨y,H2,I2,r2,q2⟩=>?_));refine wpAny_bind (wpAny_standAt (wpAny_bind (wpAny_holding (thn (hs pins s2 σ H2 x y v ov iv u _ I2 r1 r2 r q2) λ_ s3 ⟨H3,I3,q3⟩=>?_))));exact wpAny_release ⟨σ,H3,I3,q3⟩
def qf5 (te:TE)(g:TG):TS:=λD σ H=>te σ H λx H1=>g x σ H1 D.nx
theorem kW (he:PE X e te)(hg:PG X tg g)(hs:swapsWithSole [tg] e pos.line X.env=pure false:=by rfl)(hw:swappedStores [tg] e X.env=pure none:=by rfl)(h1:(assignEach [tg] X.env).map (·.2)=[assign tg X.env]:=by rfl):PS X (.Assign [tg] e pos) (qf5 te g):=by
 intro pins s σ H D I h;refine wpAny_Assign_stores (thn (he pins s σ H _ I h) λv s1 ⟨x,H1,I1,r1,q1⟩=>?_) hs hw;rw[h1];exact thn (hg pins s1 σ H1 x v _ I1 r1 q1) λ_ s2 q=>q
theorem aW (hN:X.N.Nodup)(hi:X.N[i]?=some x)(hx:Loc X.env.scope x)(he:PE X e te)(hs:swapsWith e (some (.Name x pos')) pos.line X.env=pure false:=by rfl)(hf:X.fn x=true\/X.env.scope.names.lookup x=some .local:=by first | exact .inl rfl | exact .inr rfl | assumption):
  PS X (.Assign [.Name x pos'] e pos) (qf5 te (iB i)):=by
 intro pins s σ H D I h;refine wpAny_Assign_Name (thn (he pins s σ H _ I h) λv s1 ⟨y,H1,I1,r1,q1⟩=>?_) hs;exact kB I1 hN hi hx r1 (λs2 I2=>⟨_,H1,I2,q1⟩) hf
theorem qQ1 (hN:X.N.Nodup)(he:PE X e te)(hi:X.N[i]?=some x:=by rfl)(hx:Loc X.env.scope x:=by exact .inl rfl)(hs:swapsWith e (some (.Name x pos')) pos.line X.env=pure false:=by rfl)(hf:X.fn x=true\/X.env.scope.names.lookup x=some .local:=by first | exact .inl rfl | exact .inr rfl | assumption):
  PS X (.Assign [.Name x pos'] e pos) (qf5 te (iB i)):=aW hN hi hx he hs hf
inductive Yu (i j:Nat) (D:jN) (σ:St) (vs:List V) (H1:Hp):Prop where
 |mk (v w):vs=[v,w]->D.nx ((σ.set i (some v)).set j (some w)) H1->Yu i j D σ vs H1
def qr3 (i j:Nat)(ta:TA):TS:=λD σ H=>ta σ H λvs H1=>Yu i j D σ vs H1
theorem Pg {kt k2 pt2}(hc:X.calm=true)(hN:X.N.Nodup)(hi:X.N[i]?=some x)(hj:X.N[j]?=some y)(hij:i≠j)(hx:X.env.scope.names.lookup x=some .local)(hy:X.env.scope.names.lookup y=some .local)(ha:PA X [a,b] ta)(hw:swappedStores [.Tuple [.Name x px,.Name y py] kt pt] (.Tuple [a,b] k2 pt2) X.env=pure (some [x,y]))(hs:swapsWithSole [.Tuple [.Name x px,.Name y py] kt pt] (.Tuple [a,b] k2 pt2) pos.line X.env=pure false:=by rfl):
  PS X (.Assign [.Tuple [.Name x px,.Name y py] kt pt] (.Tuple [a,b] k2 pt2) pos) (qr3 i j ta):=by
 intro pins s σ H D I h;rw[exec_Assign_arm];refine wpAny_bind (wpAny_standAt ?_);rw[hs];refine wpAny_bind (wpAny_pure ?_);rw[if_neg ∅];refine wpAny_bind (Tuple_ (thn (ha _ pins s σ H _ I h) λus s1 ⟨vs,H1,I1,r1,q1⟩=>?_));obtain⟨v,w,e1,q1⟩:=q1;subst e1;obtain⟨u1,u2,rfl,rv,rw'⟩:∃u1 u2,us=[u1,u2]/\cL v u1/\cL w u2:=by
  cases r1 with
  |cons p q=>
   cases q with
   |cons p' q'=>
    cases q'
    exists _,_,rfl,p,p'
 refine wpAny_newObj_type ?_ (by show 2<=sizeLine;decide);have I2:Inv X pins σ H1 { s1 with heap:=s1.heap.push { cls:=.type "tuple",data:=.seq [u1,u2].toArray } }:=I1.kept (t':=s1.toks) λb o e=>Heap.get?_push_of_some _ e;rw[hw];refine wpAny_bind (wpAny_pure ?_);show wpAny (model X.prog X.w) X.A (do rule "assign.swapped-stores";let items <- unpackItems (.ref s1.heap.objs.size) 2 none;assignInOrder [λv=>bindName X.env y v,λv=>bindName X.env x v] items.reverse;pure Flow.next) _ _ _;refine wpAny_bind (wpAny_rule (wpAny_bind (unpackItems_tuple (items:=#[u1,u2]) (I.ok.hd hc) (IsTup.new s1.heap _) λh' hx'=>?_)));have I3:=I2.kept (h':=h') (t':=s1.toks) λb o e=>hx' b o (Nat.ne_of_lt (Heap.lt_size e)) e;show wpAny _ _ (assignInOrder [λv=>bindName X.env y v,λv=>bindName X.env x v] [u2,u1] >>= λ_=>pure Flow.next) _ _ _;refine wpAny_bind (assignInOrder_cons (wpAny_bindName (kB I3 hN hj (.inl hy) rw' (λs2 I4=>?_) (.inr hy))));refine assignInOrder_cons (wpAny_bindName (kB I4 hN hi (.inl hx) rv (λs3 I5=>assignInOrder_nil (wpAny_pure ?_)) (.inr hx)));rw[set_comm _ _ (Ne.symm hij)] at I5;exists _,H1,I5,q1
def qr0 (i:Nat)(te:TE)(ti:TIp):TS:=λD σ H=>∃x,σ[i]?=some (some x)/\te σ H λy H1=>ti x y H1 λz H2=>D.nx (σ.set i (some z)) H2
theorem qb8 (hN:X.N.Nodup)(hi:X.N[i]?=some x)(hx:Loc X.env.scope x)(he:PE X e te)(ho:PIp X op ti)(hf:X.fn x=true\/X.env.scope.names.lookup x=some .local:=by first | exact .inl rfl | exact .inr rfl | assumption):
  PS X (.AugAssign (.Name x pos') op e pos) (qr0 i te ti):=by
 intro pins s σ H D I h;obtain⟨v,e1,h⟩:=h;obtain⟨m,hn,hl⟩:=I.loc;have vis:Vis X.env.scope x:=by rcases hx with k | k;exact .inl k;exact .inr (.inl k)
 obtain⟨u,r,l⟩:=hl i x v hi e1 vis;refine wpAny_AugAssign_Name ?_;have go:wpAny (model X.prog X.w) X.A (eval e X.env) (λw s₂=>wpAny (model X.prog X.w) X.A (inplaceOp op u w) (λr s₃=>wpAny (model X.prog X.w) X.A (storeName X.env x r) (λ_=>SP X pins D .next) X.xe s₃) X.xe s₂) X.xe s:=by
  refine thn (he pins s σ H _ I h) λw s1 ⟨y,H1,I1,r1,q1⟩=>?_;refine thn (ho pins s1 σ H1 v y u w _ I1 r r1 q1) λz s2 ⟨zv,H2,I2,r2,q2⟩=>?_;exact kB I2 hN hi hx r2 (λs3 I3=>⟨_,H2,I3,q2⟩) hf
 rcases l with ⟨hk,hm⟩ | ⟨hk,c,hc,hcell⟩
 .exact wpAny_loadName_local I.ok.kind hk hn hm go
 .rcases hk with hk | hk
  .exact wpAny_loadName_cell I.ok.kind hk hc hcell go
  .rcases hx with k | k
   .have:X.env.scope.names.lookup x=some .free:=hk;rw[k] at this;cases this
   .have:X.env.scope.names.lookup x=some .free:=hk;rw[k] at this;cases this
def ipI (f:Int->Int->Int):TIp:=λx y H Q=>∃i j,x=.int i/\y=.int j/\Q (.int (f i j)) H
theorem Zx:PIp X .Add (ipI λi j=>i+j):=by
 intro pins s σ H x y v u Q I r1 r2 h;obtain⟨i,j,e1,e2,q⟩:=h;subst e1;subst e2;obtain⟨t,rfl⟩:=r1;obtain⟨t',rfl⟩:=r2;exact iadd_int ⟨.int _,H,I.tok _,⟨_,rfl⟩,q⟩
def Sw (c:TT)(tb:TS):TS:=λD σ H=>∃W:Nat->St->Hp->Prop,(∃m,W m σ H)/\∀m σ H,W m σ H->
 c σ H λb H1=>if b=true then ∃N:St->Hp->Prop,(∀σ' H',N σ' H'->∃m',m' < m/\W m' σ' H')/\tb { D with nx:=N,ct:=N,bk:=D.nx } σ H1 else D.nx σ H1
theorem Dz (hp:PassesOwn (model X.prog X.w) X.A X.env X.xe)(hc:PT X c tc)(hb:PSs X body tb):PS X (.While c body [] pos) (Sw tc tb):=by
 intro pins s σ H D I h;obtain⟨W,⟨m0,w0⟩,turn⟩:=h;refine wpAny_While (codeAny_whileLoop (λn s'=>∃σ' H',Inv X pins σ' H' s'/\W n σ' H') ?_ m0 ⟨σ,H,I,w0⟩);rintro n s1 ⟨σ1,H1,I1,w1⟩;refine wpAny_passesOwn hp (thn (hc pins s1 σ1 H1 _ I1 (turn n σ1 H1 w1)) λb s2 ⟨H2,I2,q2⟩=>?_)
 cases b with
 |true=>
  obtain⟨N,hN,q2⟩:=q2;rw[if_pos rfl];refine wpAny_passesOwn hp (thn (hb pins s2 σ1 H2 _ I2 q2) λf s3 q3=>?_)
  cases f with
  |next=>
   obtain⟨σ3,H3,I3,n3⟩:=q3;obtain⟨m',hm,w3⟩:=hN σ3 H3 n3;exists m',hm,σ3,H3,I3,w3
  |cont=>
   obtain⟨σ3,H3,I3,n3⟩:=q3;obtain⟨m',hm,w3⟩:=hN σ3 H3 n3;exists m',hm,σ3,H3,I3,w3
  |brk=>exact q3
  |ret v=>exact q3
 |false=>
  rw[if_neg Bool.false_ne_true];exact wpAny_execs_nil ⟨σ1,H2,I2,q2⟩
end
structure It where
 go:Nat->Hp->Prop
 yld:Nat->Hp->V->Hp->Prop
 stop:Nat->Hp->Prop
def jM (X:Cx)(pins:List (Addr × Obj))(H:Hp)(b:Addr):Prop:=
 H b=none/\b≠X.env.locals/\b∉X.fs/\(b∈X.ex\/X.s₀.heap.objs.size<=b)/\(∀x c,X.env.cells.lookup x=some c->c≠b)/\∀p∈X.pn++pins,p.1≠b
theorem Inv.fpOk (I:Inv X pins σ H s)(hb:s.heap.objs.size<=b)(hn:H' b=none):jM X pins H' b:=by
 exists hn,Nat.ne_of_gt (Nat.lt_of_lt_of_le I.lt hb),I.nofs hb,.inr (Nat.le_trans I.sz hb),λx c e z=>?_,λp hp z=>?_
 .obtain⟨v,q⟩:=I.cell x c e;exact absurd (Nat.lt_of_lt_of_le q.lt (by rw[z];exact hb)) (Nat.lt_irrefl _)
 .exact absurd (Nat.lt_of_lt_of_le (Heap.lt_size (I.pin p hp).1) (by rw[z];exact hb)) (Nat.lt_irrefl _)
structure Ms (P:Program) (w:World) (K:Frag) (tg:Expr) (J:It) (fp:List Addr) (it:Addr) (tn:Nat->Heap->Prop):Prop where
 mem:it∈fp
 obj:∀i h,tn i h->∀b∈fp,∃o,h.get? b=some o/\∀v,o.data≠.cell v
 keep:∀i h h',tn i h->(∀b∈fp,∀o,h.get? b=some o->h'.get? b=some o)->tn i h'
 item:∀(X:Cx),X.prog=P->X.w=w->X.K=K->X.calm=true->∀(i:Nat) (pins:List (Addr × Obj)) (s:Shared) (σ:St) (H:Hp) (E:Value->Shared->Prop),Inv X pins σ H s->(∀b∈fp,jM X pins H b)->tn i s.heap->J.go i H->
  wpAny (model P w) X.A (pyNext (.ref it)) (λr s1=>∃u,r=some u/\
   wpAny (model P w) X.A (letOwnedTupleGo tg (.ref it) u) (λ_ s2=>∃x H',Inv X pins σ H' s2/\cL x u/\J.yld i H x H'/\tn (i+1) s2.heap/\∀b∈fp,H' b=none) E s1) E s
 done:∀(X:Cx),X.prog=P->X.w=w->X.K=K->X.calm=true->∀(i:Nat) (pins:List (Addr × Obj)) (s:Shared) (σ:St) (H:Hp) (E:Value->Shared->Prop),Inv X pins σ H s->(∀b∈fp,jM X pins H b)->tn i s.heap->J.stop i H->
  wpAny (model P w) X.A (pyNext (.ref it)) (λr s1=>r=none/\Inv X pins σ H s1) E s
 self:∀(A:Around) (i:Nat) (s:Shared) (Q:Value->Shared->Prop) (E:Value->Shared->Prop),tn i s.heap->Q (.ref it) s->wpAny (model P w) A (pyIter (.ref it)) Q E s
abbrev TI:=St->Hp->(It->Hp->Prop)->Prop
def PIE (X:Cx)(pins:List (Addr × Obj))(σ:St)(tg:Expr)(R:It->Hp->Prop)(itv:Value)(s2:Shared):Prop:=
 ∃(it:Addr) (fp:List Addr) (tn:Nat->Heap->Prop) (J:It) (H':Hp),itv=.ref it/\Inv X pins σ H' s2/\Ms X.prog X.w X.K tg J fp it tn/\tn 0 s2.heap/\(∀b∈fp,jM X pins H' b)/\R J H'
def PI (X:Cx)(tg iter:Expr)(wi:TI):Prop:=
 ∀(pins:List (Addr × Obj)) (s:Shared) (σ:St) (H:Hp) (R:It->Hp->Prop),Inv X pins σ H s->wi σ H R->
  wpAny (model X.prog X.w) X.A (eval iter X.env) (λv s1=>wpAny (model X.prog X.w) X.A (pyIter v) (PIE X pins σ tg R) X.xe s1) X.xe s
theorem Rr (ho : s.heap.get? it = some o)(hc : o.cls = .type n)(hd : o.data = .fields vs)(hn : ["enumerate", "zip", "dict_itemiterator", "dict_reverseitemiterator", "odict_iterator", "itertools.zip_longest", "itertools.pairwise"].contains n = false)(hQ : Q .unit s): wpAny M A (letOwnedTupleGo tg (.ref it) u) Q E s := by
  unfold letOwnedTupleGo
  cases tg <;> first
    | exact wpAny_pure hQ
    | (cases u <;> first
        | exact wpAny_pure hQ
        | (refine wpAny_bind (wpAny_load ho ?_)
           rw [hc, hd];show wpAny M A (if (["enumerate", "zip", "dict_itemiterator", "dict_reverseitemiterator", "odict_iterator", "itertools.zip_longest", "itertools.pairwise"].contains n && vs[0]? == some (rawInt _)) = true then _ else _) Q E s;rw [if_neg (by intro h; rw [hn, Bool.false_and] at h; cases h)];exact wpAny_pure hQ))
def Itl (K:Frag)(a:Addr):It:=
 ⟨λi H=>∃xs x,SqL K H a xs/\xs[i]?=some x,λi H x H'=>H'=H/\∀xs,SqL K H a xs->xs[i]?=some x,λi H=>∃xs,SqL K H a xs/\xs.length<=i⟩
def Itt (K:Frag)(a:Addr):It:=
 ⟨λi H=>∃xs x,SqT K H a xs/\xs[i]?=some x,λi H x H'=>H'=H/\∀xs,SqT K H a xs->xs[i]?=some x,λi H=>∃xs,SqT K H a xs/\xs.length<=i⟩
def Itr (lo:Int)(n:Nat):It:=⟨λi _=>i < n,λi H x H'=>H'=H/\x=.int (lo+i),λi _=>n<=i⟩
theorem Oc {K:Frag}(a it:Addr):Ms P w K tg (Itl K a) [it] it (λi h=>h.IsListIter it a i) where
 mem:=by simp
 obj:=λi h st b hb=>by
  have e:b=it:=by simpa using hb
  subst e;obtain⟨o,e,c,d⟩:=st;exists o,e,λv z=>by rw[d] at z;cases z
 keep:=λi h h' st k=>st.at λo e=>k it ⋯ o e
 item:=by
  intro X hP hw hK hc i pins s σ H E I hf st hg;subst hP hw hK;obtain⟨xs,x,hq,hx⟩:=hg;obtain⟨its,rv,p,hz⟩:=I.list hq;obtain⟨u,hu,ru⟩:=rv.get hx;obtain⟨f0,f1,f2,f3,f4,f5⟩:=hf it ⋯;refine wpAny_pyNext_list_item st p.isList (x:=u) (by simpa using hu) λh' st' sb=>?_;have I1:Inv X pins σ H { s with heap:=h' }:=I.turned (t':=s.toks) (λb o hb e=>(sb.2 b hb).trans e) f0 f1 f3 f4 f5;obtain⟨o,e,c,d⟩:=id st';exists u,rfl,Rr (s:={ s with heap:=h' }) e c d ∅ ⟨x,H,I1,ru,⟨rfl,λys hy=>by rw[I.list_inj hy hq];exact hx⟩,st',λb hb=>(hf b hb).1⟩
 done:=by
  intro X hP hw hK hc i pins s σ H E I hf st hg;subst hP hw hK;obtain⟨xs,hq,hx⟩:=hg;obtain⟨its,rv,p,hz⟩:=I.list hq;obtain⟨f0,f1,f2,f3,f4,f5⟩:=hf it ⋯;have hl:=rv.length;exact wpAny_pyNext_list_end (I.ok.hd hc) st p.isList (by simp;lia) λh' eb=>⟨rfl,I.turned (t':=s.toks) (λb o hb e=>eb b o hb e) f0 f1 f3 f4 f5⟩
 self:=λ_ _ _ _ _ st h=>wpAny_pyIter_listiter st h
theorem Jn {K:Frag}(a it:Addr):Ms P w K tg (Itt K a) [it] it (λi h=>h.IsTupleIter it a i) where
 mem:=by simp
 obj:=λi h st b hb=>by
  have e:b=it:=by simpa using hb
  subst e;obtain⟨o,e,c,d⟩:=st;exists o,e,λv z=>by rw[d] at z;cases z
 keep:=λi h h' st k=>st.at λo e=>k it ⋯ o e
 item:=by
  intro X hP hw hK hc i pins s σ H E I hf st hg;subst hP hw hK;obtain⟨xs,x,hq,hx⟩:=hg;obtain⟨its,rv,p,hz⟩:=I.tuple hq;obtain⟨u,hu,ru⟩:=rv.get hx;obtain⟨f0,f1,f2,f3,f4,f5⟩:=hf it ⋯;refine wpAny_pyNext_tuple_item st (show s.heap.IsTuple a its.toArray from p) (x:=u) (by simpa using hu) λh' st' sb=>?_;have I1:Inv X pins σ H { s with heap:=h' }:=I.turned (t':=s.toks) (λb o hb e=>(sb.2 b hb).trans e) f0 f1 f3 f4 f5;obtain⟨o,e,c,d⟩:=id st';exists u,rfl,Rr (s:={ s with heap:=h' }) e c d ∅ ⟨x,H,I1,ru,⟨rfl,λys hy=>by rw[I.tuple_inj hy hq];exact hx⟩,st',λb hb=>(hf b hb).1⟩
 done:=by
  intro X hP hw hK hc i pins s σ H E I hf st hg;subst hP hw hK;obtain⟨xs,hq,hx⟩:=hg;obtain⟨its,rv,p,hz⟩:=I.tuple hq;obtain⟨f0,f1,f2,f3,f4,f5⟩:=hf it ⋯;have hl:=rv.length;exact wpAny_pyNext_tuple_end (I.ok.hd hc) st (show s.heap.IsTuple a its.toArray from p) (by simp;lia) λh' eb=>⟨rfl,I.turned (t':=s.toks) (λb o hb e=>eb b o hb e) f0 f1 f3 f4 f5⟩
 self:=λ_ _ _ _ _ st h=>wpAny_pyIter_tupleiter st h
theorem Hw {K:Frag}(it:Addr)(lo:Int)(n:Nat):Ms P w K tg (Itr lo n) [it] it (λi h=>IsRangeIter h it (lo+(i:Nat)*1) ((n:Int) - (i:Nat)) 1) where
 mem:=by simp
 obj:=λi h st b hb=>by
  have e:b=it:=by simpa using hb
  subst e;exact⟨_,st,λv z=>by
   have z':Data.fields _=Data.cell v:=z
   cases z'⟩
 keep:=λi h h' st k=>k it ⋯ _ st
 item:=by
  intro X hP hw hK hc i pins s σ H E I hf st hg;subst hP hw hK;obtain⟨f0,f1,f2,f3,f4,f5⟩:=hf it ⋯;have W:=Walks.range (prog:=X.prog) (w:=X.w) (I.ok.hd hc) it lo 1 n;refine W.item i s _ _ hg st λv h' tk hv st' kk=>?_;obtain⟨t,rfl⟩:=hv;have I1:Inv X pins σ H { s with heap:=h',toks:=tk }:=I.turned (λb o hb e=>kk b o (by simpa using hb) e) f0 f1 f3 f4 f5;exists _,rfl,Rr (s:={ s with heap:=h',toks:=tk }) (n:="range_iterator") st' rfl rfl ∅ ⟨.int (lo+i),H,I1,⟨t,?_⟩,⟨rfl,rfl⟩,st',λb hb=>(hf b hb).1⟩;rw[Int.mul_one]
 done:=by
  intro X hP hw hK hc i pins s σ H E I hf st hg;subst hP hw hK;obtain⟨f0,f1,f2,f3,f4,f5⟩:=hf it ⋯;exact wpAny_pyNext_range_end (I.ok.hd hc) st (by have:n<=i:=hg;lia) λh' eb=>⟨rfl,I.turned (t':=s.toks) (λb o hb e=>eb b o hb e) f0 f1 f3 f4 f5⟩
 self:=λ_ _ _ _ _ st h=>wpAny_pyIter_rangeiter st h
section
variable {X:Cx} {tg:Expr}
def Yp (K:Frag)(tl:TE):TI:=λσ H R=>tl σ H λx H1=>∃a,x=.ref a/\(∃xs,SqL K H1 a xs)/\R (Itl K a) H1
def qr9 (K:Frag)(tl:TE):TI:=λσ H R=>tl σ H λx H1=>∃a,x=.ref a/\(∃xs,SqT K H1 a xs)/\R (Itt K a) H1
theorem bZ (hl:PE X l tl):PI X tg l (Yp X.K tl):=by
 intro pins s σ H R I h;refine thn (hl pins s σ H _ I h) λv s1 ⟨x,H1,I1,r1,q1⟩=>?_;obtain⟨a,e,⟨xs,hq⟩,q⟩:=q1;subst e
 cases r1
 obtain⟨its,rv,p,hz⟩:=I1.list hq;refine wpAny_pyIter_list p.isList ?_;exists s1.heap.objs.size,[s1.heap.objs.size],_,_,H1,rfl,I1.kept (t':=s1.toks) λb o e=>Heap.get?_push_of_some _ e,Oc a _,⟨_,Heap.get?_push_size _ rfl,rfl,rfl⟩,λb hb=>?_,q;have e:b=s1.heap.objs.size:=by simpa using hb
 subst e;exact I1.fpOk (Nat.le_refl _) (I1.hok.fresh (Nat.le_refl _))
theorem qd0 (hl:PE X l tl):PI X tg l (qr9 X.K tl):=by
 intro pins s σ H R I h;refine thn (hl pins s σ H _ I h) λv s1 ⟨x,H1,I1,r1,q1⟩=>?_;obtain⟨a,e,⟨xs,hq⟩,q⟩:=q1;subst e
 cases r1
 obtain⟨its,rv,p,hz⟩:=I1.tuple hq;refine wpAny_pyIter_tuple (show s1.heap.IsTuple a its.toArray from p) ?_;exists s1.heap.objs.size,[s1.heap.objs.size],_,_,H1,rfl,I1.kept (t':=s1.toks) λb o e=>Heap.get?_push_of_some _ e,Jn a _,⟨_,Heap.get?_push_size _ rfl,rfl,rfl⟩,λb hb=>?_,q;have e:b=s1.heap.objs.size:=by simpa using hb
 subst e;exact I1.fpOk (Nat.le_refl _) (I1.hok.fresh (Nat.le_refl _))
theorem Fm {lo hi:Int}(I:Inv X pins σ H s)(h1:-(2 ^ 62)<=lo)(h2:lo < 2 ^ 62)(h3:-(2 ^ 62)<=hi)(h4:hi < 2 ^ 62)(q:R (Itr lo (hi - lo).toNat) H):wpAny (model X.prog X.w) X.A (pyIter (.ref s.heap.objs.size)) (PIE X pins σ tg R) E { s with heap:=s.heap.push { cls:=.type "range",data:=.fields #[.int lo t,.int hi u,.int 1 v] },toks:=tk }:=by
 refine wpAny_pyIter_range (IsRange.new ..) (small_one h1 h2 h3 h4) ?_;have I1:Inv X pins σ H { s with heap:=s.heap.push { cls:=.type "range",data:=.fields #[.int lo t,.int hi u,.int 1 v] },toks:=tk }:=I.kept λb o e=>Heap.get?_push_of_some _ e;refine⟨(s.heap.push { cls:=.type "range",data:=.fields #[.int lo t,.int hi u,.int 1 v] }).objs.size,[(s.heap.push { cls:=.type "range",data:=.fields #[.int lo t,.int hi u,.int 1 v] }).objs.size],_,_,H,rfl,
  I1.kept (t':=tk) λb o e=>Heap.get?_push_of_some _ e,Hw _ lo (hi - lo).toNat,?_,λb hb=>?_,q⟩
 .have e1:lo+((0:Nat):Int)*1=lo:=by simp
  have e2:(((hi - lo).toNat:Nat):Int) - ((0:Nat):Int)=Builtin.Range.rangeSize lo hi 1:=by rw[rangeSize_one];split<;>lia
  show IsRangeIter _ _ (lo+((0:Nat):Int)*1) ((((hi - lo).toNat:Nat):Int) - ((0:Nat):Int)) 1;rw[e1,e2];exact Heap.get?_push_size _ rfl
 .have e:b=(s.heap.push { cls:=.type "range",data:=.fields #[.int lo t,.int hi u,.int 1 v] }).objs.size:=by simpa using hb
  subst e;exact I1.fpOk (Nat.le_refl _) (I1.hok.fresh (Nat.le_refl _))
def qm9 (ta:TA):TI:=λσ H R=>ta σ H λvs H1=>∃j:Int,vs=[.int j]/\-(2 ^ 62)<=j/\j < 2 ^ 62/\R (Itr 0 j.toNat) H1
def qj7 (ta:TA):TI:=λσ H R=>ta σ H λvs H1=>∃i j:Int,vs=[.int i,.int j]/\(-(2 ^ 62)<=i/\i < 2 ^ 62/\-(2 ^ 62)<=j/\j < 2 ^ 62)/\R (Itr i (j - i).toNat) H1
theorem fE (hg:Gl X "range")(hm:X.mg "range"=none)(ha:PA X [a] ta)(hs:starEach [a] X.env=[(false,eval a X.env)]:=by rfl):PI X tg (.Call (.Name "range" p) [a] [] pos) (qm9 ta):=by
 intro pins s σ H R I h;refine Call_ (iG I hg hm boot_range (PyProof.Rows.callWith_type1 (thn (ha pos pins s σ H _ I h) λus s1 ⟨vs,H1,I1,r1,q1⟩=>?_) hs rfl));obtain⟨j,e,q1,q2,q⟩:=q1;subst e
 cases r1 with
 |cons r rr=>
  cases rr
  obtain⟨t,rfl⟩:=r;exact call_range_1 (Fm I1 () () q1 q2 (by simpa using q))
theorem yP (hg:Gl X "range")(hm:X.mg "range"=none)(ha:PA X [a,b] ta)(hs:starEach [a,b] X.env=[(false,eval a X.env),(false,eval b X.env)]:=by rfl)(hs2:starEach [b] X.env=[(false,eval b X.env)]:=by rfl):
  PI X tg (.Call (.Name "range" p) [a,b] [] pos) (qj7 ta):=by
 intro pins s σ H R I h;refine Call_ (iG I hg hm boot_range (PyProof.Rows.callWith_type1 (thn (ha pos pins s σ H _ I h) λus s1 ⟨vs,H1,I1,r1,q1⟩=>?_) (by rw[hs,hs2]) (by rw[hs2];rfl)));obtain⟨i,j,e,⟨q1,q2,q3,q4⟩,q⟩:=q1;subst e
 cases r1 with
 |cons r rr=>
  cases rr with
  |cons r' rr=>
   cases rr
   obtain⟨t,rfl⟩:=r;obtain⟨t',rfl⟩:=r';exact call_range_2 (Fm I1 q1 q2 q3 q4 q)
def qq3 (wi:TI)(g:TG)(tb:TS):TS:=λD σ H=>wi σ H λJ H1=>∃W:Nat->Nat->St->Hp->Prop,(∃m,W 0 m σ H1)/\∀i m σ H,W i m σ H->
 (J.stop i H/\D.nx σ H)\/(J.go i H/\∃N:St->Hp->Prop,(∀σ' H',N σ' H'->∃m',m' < m/\W (i+1) m' σ' H')/\∀x H',J.yld i H x H'->g x σ H' λσ2 H2=>tb { D with nx:=N,ct:=N,bk:=D.nx } σ2 H2)
def rL (fp:List Addr)(h:Heap):List (Addr × Obj):=fp.filterMap λb=>(h.get? b).map λo=>(b,o)
theorem iF (hb:b∈fp)(e:h.get? b=some o):(b,o)∈rL fp h:=mem_filterMap.mpr ⟨b,hb,by rw[e];rfl⟩
theorem Nq (hp:p∈rL fp h):p.1∈fp/\h.get? p.1=some p.2:=by
 obtain⟨b,hb,e⟩:=mem_filterMap.mp hp
 cases q:h.get? b with
 |none=>rw[q] at e;cases e
 |some o=>
  rw[q] at e;have e':(b,o)=p:=Option.some.inj e;subst e';exists hb,q
theorem Inv.pinned (I:Inv X pins σ H s)(hf:∀b∈fp,jM X pins H b)(ho:∀b∈fp,∃o,s.heap.get? b=some o/\∀v,o.data≠.cell v):Inv X (pins++rL fp s.heap) σ H s:=
 I.pins_of λp hp=>(mem_append.mp hp).elim (λz=>I.pin p (mem_append_right _ z)) λz=>by
  obtain⟨hb,e⟩:=Nq z;obtain⟨f0,f1,f2,_⟩:=hf p.1 hb;obtain⟨o,e',d⟩:=ho p.1 hb;rw[e] at e';cases e';exists e,f0,f1,f2,d
theorem Inv.unpinned (I:Inv X (pins++pl) σ H s):Inv X pins σ H s:=I.pins_of λp hp=>I.pin p (mem_append_right _ (mem_append_left _ hp))
theorem dY {iter:Expr}(hp:PassesOwn (model X.prog X.w) X.A X.env X.xe)(hc:X.calm=true)(hi:PI X tg iter wi)(hg:PG X tg g)(hb:PSs X body tb)(hs:∀x,foldedSetIterable iter X.env x=pure x:=by intro _;rfl):PS X (.For tg iter body [] pos) (qq3 wi g tb):=by
 intro pins s σ H D I h;refine wpAny_For (thn (hi pins s σ H _ I h) λv s1 h1=>thn h1 λitv s2 h2=>?_) hs;obtain⟨it,fp,tn,J,H2,e,I2,T,st2,f2,W,⟨m0,w0⟩,turn⟩:=h2;subst e;have stat:∀{H':Hp},(∀b∈fp,H' b=none)->∀b∈fp,jM X pins H' b:=λhn b hb=>⟨hn b hb,(f2 b hb).2⟩
 refine codeAny_forLoop_any (λn s'=>∃i σ' H',Inv X pins σ' H' s'/\tn i s'.heap/\(∀b∈fp,H' b=none)/\W i n σ' H') ?_ m0 ⟨0,σ,H2,I2,st2,λb hb=>(f2 b hb).1,w0⟩;rintro n s3 ⟨i,σ3,H3,I3,st3,fr3,w3⟩;rcases turn i n σ3 H3 w3 with ⟨stop,qn⟩ | ⟨go,N,hN,step⟩
 .refine wpAny_passesOwn hp (thn (T.done X rfl rfl rfl hc i pins s3 σ3 H3 X.xe I3 (stat fr3) st3 stop) λr s4 ⟨hr,I4⟩=>?_);subst hr;exact wpAny_execs_nil ⟨σ3,H3,I4,qn⟩
 .refine wpAny_passesOwn hp (thn (T.item X rfl rfl rfl hc i pins s3 σ3 H3 X.xe I3 (stat fr3) st3 go) λr s4 ⟨u,hr,h4⟩=>?_);subst hr;refine wpAny_passesOwn hp (thn h4 λ_ s5 ⟨x,H5,I5,r5,y5,st5,fr5⟩=>?_);have I5':=I5.pinned (stat fr5) (T.obj _ _ st5);refine wpAny_passesOwn hp (thn (hg _ s5 σ3 H5 x u _ I5' r5 (step x H5 y5)) λ_ s6 ⟨σ6,H6,I6,q6⟩=>?_);refine wpAny_passesOwn hp (thn (hb _ s6 σ6 H6 _ I6 q6) λf s7 q7=>?_);have again:∀{σ7:St} {H7:Hp},Inv X (pins++rL fp s5.heap) σ7 H7 s7->N σ7 H7->∃m,m < n/\∃i σ' H',Inv X pins σ' H' s7/\tn i s7.heap/\(∀b∈fp,H' b=none)/\W i m σ' H':=λ{σ7 H7} I7 n7=>by
   obtain⟨m',hm,w7⟩:=hN σ7 H7 n7;exists m',hm,i+1,σ7,H7,I7.unpinned,T.keep _ _ _ st5 λb hb o e=>(I7.pin (b,o) (mem_append_right _ (mem_append_right _ (iF hb e)))).1,λb hb=>?_,w7;obtain⟨o,e,d⟩:=T.obj _ _ st5 b hb;exact(I7.pin (b,o) (mem_append_right _ (mem_append_right _ (iF hb e)))).2.1
  cases f with
  |next=>obtain⟨σ7,H7,I7,n7⟩:=q7;exact again I7 n7
  |cont=>obtain⟨σ7,H7,I7,n7⟩:=q7;exact again I7 n7
  |brk=>obtain⟨σ7,H7,I7,q7⟩:=q7;exists σ7,H7,I7.unpinned,q7
  |ret v=>obtain⟨x7,σ7,H7,I7,r7,q7⟩:=q7;exists x7,σ7,H7,I7.unpinned,r7,q7
end
theorem fQ {K:Frag}{g:TG}{tb:TS}{D:jN}(Pv:Nat->St->Hp->Prop)(h0:Pv 0 σ H)(hl:∀i σ H,i<=xs.length->Pv i σ H->SqL K H a xs)(hs:∀i x σ H,xs[i]?=some x->Pv i σ H->g x σ H λσ2 H2=>tb { D with nx:=Pv (i+1),ct:=Pv (i+1),bk:=D.nx } σ2 H2)(hd:∀σ H,Pv xs.length σ H->D.nx σ H):
  ∃W:Nat->Nat->St->Hp->Prop,(∃m,W 0 m σ H)/\∀i m σ H,W i m σ H->
   ((Itl K a).stop i H/\D.nx σ H)\/((Itl K a).go i H/\∃N:St->Hp->Prop,(∀σ' H',N σ' H'->∃m',m' < m/\W (i+1) m' σ' H')/\∀x H',(Itl K a).yld i H x H'->g x σ H' λσ2 H2=>tb { D with nx:=N,ct:=N,bk:=D.nx } σ2 H2):=by
 exists λi m σ H=>m=xs.length - i/\i<=xs.length/\Pv i σ H,⟨xs.length,⋯,Nat.zero_le _,h0⟩,?_;rintro i m σ H ⟨rfl,hi,p⟩;have q:=hl i σ H hi p
 by_cases hlt:i < xs.length
 .refine .inr ⟨⟨xs,xs[i],q,by simp[hlt]⟩,Pv (i+1),λσ' H' p'=>⟨xs.length - (i+1),(),rfl,hlt,p'⟩,λx H' y=>?_⟩;obtain⟨e,y⟩:=y;subst e;exact hs i x σ _ (y xs q) p
 .have e:i=xs.length:=by lia
  subst e;exact .inl ⟨⟨xs,q,Nat.le_refl _⟩,hd σ H p⟩
theorem Xb {K:Frag}{g:TG}{tb:TS}{D:jN}(Pv:Nat->St->Hp->Prop)(h0:Pv 0 σ H)(hl:∀i σ H,i<=xs.length->Pv i σ H->SqT K H a xs)(hs:∀i x σ H,xs[i]?=some x->Pv i σ H->g x σ H λσ2 H2=>tb { D with nx:=Pv (i+1),ct:=Pv (i+1),bk:=D.nx } σ2 H2)(hd:∀σ H,Pv xs.length σ H->D.nx σ H):
  ∃W:Nat->Nat->St->Hp->Prop,(∃m,W 0 m σ H)/\∀i m σ H,W i m σ H->
   ((Itt K a).stop i H/\D.nx σ H)\/((Itt K a).go i H/\∃N:St->Hp->Prop,(∀σ' H',N σ' H'->∃m',m' < m/\W (i+1) m' σ' H')/\∀x H',(Itt K a).yld i H x H'->g x σ H' λσ2 H2=>tb { D with nx:=N,ct:=N,bk:=D.nx } σ2 H2):=by
 exists λi m σ H=>m=xs.length - i/\i<=xs.length/\Pv i σ H,⟨xs.length,⋯,Nat.zero_le _,h0⟩,?_;rintro i m σ H ⟨rfl,hi,p⟩;have q:=hl i σ H hi p
 by_cases hlt:i < xs.length
 .refine .inr ⟨⟨xs,xs[i],q,by simp[hlt]⟩,Pv (i+1),λσ' H' p'=>⟨xs.length - (i+1),(),rfl,hlt,p'⟩,λx H' y=>?_⟩;obtain⟨e,y⟩:=y;subst e;exact hs i x σ _ (y xs q) p
 .have e:i=xs.length:=by lia
  subst e;exact .inl ⟨⟨xs,q,Nat.le_refl _⟩,hd σ H p⟩
theorem oE {lo:Int}{g:TG}{tb:TS}{D:jN}(Pv:Nat->St->Hp->Prop)(h0:Pv 0 σ H)(hs:∀i σ H,i < n->Pv i σ H->g (.int (lo+i)) σ H λσ2 H2=>tb { D with nx:=Pv (i+1),ct:=Pv (i+1),bk:=D.nx } σ2 H2)(hd:∀σ H,Pv n σ H->D.nx σ H):
  ∃W:Nat->Nat->St->Hp->Prop,(∃m,W 0 m σ H)/\∀i m σ H,W i m σ H->
   ((Itr lo n).stop i H/\D.nx σ H)\/((Itr lo n).go i H/\∃N:St->Hp->Prop,(∀σ' H',N σ' H'->∃m',m' < m/\W (i+1) m' σ' H')/\∀x H',(Itr lo n).yld i H x H'->g x σ H' λσ2 H2=>tb { D with nx:=N,ct:=N,bk:=D.nx } σ2 H2):=by
 exists λi m σ H=>m=n - i/\i<=n/\Pv i σ H,⟨n,⋯,Nat.zero_le _,h0⟩,?_;rintro i m σ H ⟨rfl,hi,p⟩
 by_cases hlt:i < n
 .refine .inr ⟨hlt,Pv (i+1),λσ' H' p'=>⟨n - (i+1),(),rfl,hlt,p'⟩,λx H' y=>?_⟩;obtain⟨e,y⟩:=y;subst e y;exact hs i σ _ hlt p
 .have e:i=n:=by lia
  subst e;exact .inl ⟨Nat.le_refl _,hd σ H p⟩
theorem Dm (Pv:St->Hp->Prop)(μ:St->Hp->Nat)(h0:Pv σ H)(hs:∀σ H,Pv σ H->c σ H λb H1=>if b=true then tb { D with nx:=λσ' H'=>Pv σ' H'/\μ σ' H' < μ σ H,ct:=λσ' H'=>Pv σ' H'/\μ σ' H' < μ σ H,bk:=D.nx } σ H1 else D.nx σ H1)(mono:∀σ H Q Q',(∀b H1,Q b H1->Q' b H1)->c σ H Q->c σ H Q'):Sw c tb D σ H:=by
 exists λm σ H=>m=μ σ H/\Pv σ H,⟨_,rfl,h0⟩,?_;rintro m σ H ⟨rfl,p⟩;refine mono σ H _ _ (λb H1 q=>?_) (hs σ H p)
 cases b with
 |true=>exact⟨_,λσ' H' ⟨p',l⟩=>⟨_,l,rfl,p'⟩,q⟩
 |false=>exact q
abbrev R2:=V->V->Hp->VK->Prop
def OpR (X:Cx)(f:Value->Value->Sem Value)(r:R2):Prop:=
 ∀(pins:List (Addr × Obj)) (s:Shared) (σ:St) (H:Hp) (x y:V) (v u:Value) (Q:VK),Inv X pins σ H s->cL x v->cL y u->r x y H Q->
  wpAny (model X.prog X.w) X.A (f v u) (EP X pins σ Q) X.xe s
def UnR (X:Cx)(f:Value->Sem Value)(r:V->Hp->VK->Prop):Prop:=
 ∀(pins:List (Addr × Obj)) (s:Shared) (σ:St) (H:Hp) (x:V) (v:Value) (Q:VK),Inv X pins σ H s->cL x v->r x H Q->
  wpAny (model X.prog X.w) X.A (f v) (EP X pins σ Q) X.xe s
def kI (X:Cx)(f:Value)(r:List V->Hp->VK->Prop):Prop:=
 ∀(pins:List (Addr × Obj)) (s:Shared) (σ:St) (H:Hp) (xs:List V) (us:List Value) (Q:VK),Inv X pins σ H s->cA xs us->r xs H Q->
  wpAny (model X.prog X.w) X.A (call f us) (EP X pins σ Q) X.xe s
def tOp (r:R2)(ta tb:TE):TE:=λσ H Q=>ta σ H λx H1=>tb σ H1 λy H2=>r x y H2 Q
def tUn (r:V->Hp->VK->Prop)(ta:TE):TE:=λσ H Q=>ta σ H λx H1=>r x H1 Q
inductive rI (C:Int->Int->Prop) (g:Int->Int->V) (x:V) (y:V) (H:Hp) (Q:VK):Prop where
 |mk (i j):x=.int i->y=.int j->C i j->Q (g i j) H->rI C g x y H Q
inductive rI0 (g:Int->Int->V) (x:V) (y:V) (H:Hp) (Q:VK):Prop where
 |mk (i j):x=.int i->y=.int j->Q (g i j) H->rI0 g x y H Q
inductive rU (g:Int->V) (x:V) (H:Hp) (Q:VK):Prop where
 |mk (i):x=.int i->Q (g i) H->rU g x H Q
section
variable {X:Cx} {a b c:Expr} {ta tb tc:TE} {pos:Pos}
theorem qc2 (ha:PE X a ta)(hb:PE X b tb){R:V->V->Hp->Prop}(I:Inv X pins σ H s)(h:ta σ H λx H1=>tb σ H1 λy H2=>R x y H2){f:Value->Value->Sem Value}(hf:∀v u s2 x y H2,Inv X pins σ H2 s2->cL x v->cL y u->R x y H2->wpAny (model X.prog X.w) X.A (f v u) Q X.xe s2):
  wpAny (model X.prog X.w) X.A (eval a X.env) (λv s₁=>wpAny (model X.prog X.w) X.A (eval b X.env) (λu s₂=>wpAny (model X.prog X.w) X.A (f v u) Q X.xe s₂) X.xe s₁) X.xe s:=by
 refine thn (ha pins s σ H _ I h) λv s1 ⟨x,H1,I1,r1,q1⟩=>?_;refine thn (hb pins s1 σ H1 _ I1 q1) λu s2 ⟨y,H2,I2,r2,q2⟩=>?_;exact hf v u s2 x y H2 I2 r1 r2 q2
theorem aT (ho:OpR X (binaryOp op) r)(ha:PE X a ta)(hb:PE X b tb):PE X (.BinOp a op b pos) (tOp r ta tb):=by
 intro pins s σ H Q I h;exact wpAny_BinOp (qc2 ha hb I h λv u s2 x y H2 I2 rx ry q=>ho pins s2 σ H2 x y v u Q I2 rx ry q)
theorem Cs (ho:UnR X (unaryOp op) r)(ha:PE X a ta):PE X (.UnaryOp op a pos) (tUn r ta):=by
 intro pins s σ H Q I h;exact UnaryOp_ (thn (ha pins s σ H _ I h) λv s1 ⟨x,H1,I1,r1,q1⟩=>ho pins s1 σ H1 x v Q I1 r1 q1)
theorem opI {g:Int->Int->Int}(rule:∀(i j:Int) (t u:Tok) (s:Shared) (Q:Value->Shared->Prop) (E:Value->Shared->Prop),C i j->Q (.int (g i j) s.toks) { s with toks:=s.toks+1 }->wpAny (model X.prog X.w) X.A (f (.int i t) (.int j u)) Q E s):
  OpR X f (rI C λi j=>.int (g i j)):=by
 intro pins s σ H x y v u Q I rx ry h;obtain⟨i,j,rfl,rfl,hc,q⟩:=h;obtain⟨t,rfl⟩:=rx;obtain⟨t',rfl⟩:=ry;exact rule i j t t' s _ _ hc ⟨.int (g i j),H,I.tok _,⟨_,rfl⟩,q⟩
theorem ql8 {g:Int->Int->Int}(rule:∀(i j:Int) (t u:Tok) (s:Shared) (Q:Value->Shared->Prop) (E:Value->Shared->Prop),Q (.int (g i j) s.toks) { s with toks:=s.toks+1 }->wpAny (model X.prog X.w) X.A (f (.int i t) (.int j u)) Q E s):
  OpR X f (rI0 λi j=>.int (g i j)):=by
 intro pins s σ H x y v u Q I rx ry h;obtain⟨i,j,rfl,rfl,q⟩:=h;obtain⟨t,rfl⟩:=rx;obtain⟨t',rfl⟩:=ry;exact rule i j t t' s _ _ ⟨.int (g i j),H,I.tok _,⟨_,rfl⟩,q⟩
theorem qg1 {g:Int->Int->Bool}(rule:∀(i j:Int) (t u:Tok) (s:Shared) (Q:Value->Shared->Prop) (E:Value->Shared->Prop),Q (.bool (g i j)) s->wpAny (model X.prog X.w) X.A (f (.int i t) (.int j u)) Q E s):
  OpR X f (rI0 λi j=>.bl (g i j)):=by
 intro pins s σ H x y v u Q I rx ry h;obtain⟨i,j,rfl,rfl,q⟩:=h;obtain⟨t,rfl⟩:=rx;obtain⟨t',rfl⟩:=ry;exact rule i j t t' s _ _ ⟨.bl (g i j),H,I,rfl,q⟩
def qs1 (i j:Int):Prop:=0 < j/\j < 1073741824
def Zw (i j:Int):Prop:=(-(2 ^ 64) < i/\i < 2 ^ 64)\/(-(2 ^ 64) < j/\j < 2 ^ 64)
theorem Zw.ok (h:Zw i j):IntMulOk i j:=by
 rcases h with ⟨h1,h2⟩ | ⟨h1,h2⟩
 .exact .of_left (intBits_le_64 h1 h2)
 .exact .of_right (intBits_le_64 h1 h2)
theorem gE:OpR X (binaryOp .Add) (rI0 λi j=>.int (i+j)):=ql8 λ_ _ _ _ _ _ _ q=>add_int q
theorem oW:OpR X (binaryOp .Sub) (rI0 λi j=>.int (i - j)):=ql8 λ_ _ _ _ _ _ _ q=>sub_int q
theorem jC:OpR X (binaryOp .Mult) (rI Zw λi j=>.int (i*j)):=opI λ_ _ _ _ _ _ _ hc q=>mul_int q hc.ok
theorem tX:OpR X (binaryOp .FloorDiv) (rI qs1 λi j=>.int (i / j)):=opI λi j _ _ _ _ _ hc q=>by
 have h1:(0:Int) < j:=hc.1;have h2:j < 1073741824:=hc.2;exact floordiv_int () (by rw[Int.fdiv_eq_ediv_of_nonneg i ()];exact q) (.inl (PyProof.noPylong_small ()))
theorem dL:OpR X (binaryOp .Mod) (rI (λ_ j=>0 < j) λi j=>.int (i % j)):=opI λi j _ _ _ _ _ hc q=>by
 have h1:(0:Int) < j:=hc;exact mod_int' () (by rw[Int.fmod_eq_emod_of_nonneg i ()];exact q)
theorem nJ:OpR X (binaryOp .Mod) (rI (λ_ j=>j≠0) λi j=>.int (i.fmod j)):=opI λ_ _ _ _ _ _ _ hc q=>mod_int' hc q
theorem unI {g:Int->Int}(rule:∀(i:Int) (t:Tok) (s:Shared) (Q:Value->Shared->Prop) (E:Value->Shared->Prop),Q (.int (g i) s.toks) { s with toks:=s.toks+1 }->wpAny (model X.prog X.w) X.A (f (.int i t)) Q E s):
  UnR X f (rU λi=>.int (g i)):=by
 intro pins s σ H x v Q I rx h;obtain⟨i,rfl,q⟩:=h;obtain⟨t,rfl⟩:=rx;exact rule i t s _ _ ⟨.int (g i),H,I.tok _,⟨_,rfl⟩,q⟩
theorem uR:UnR X (unaryOp .USub) (rU λi=>.int (-i)):=unI λ_ _ _ _ _ q=>neg_int q
end
def qk6:V->V->Bool
 | .non,.non=>true | .non,.int _=>true | .int _,.non=>true | .non,.bl _=>true | .bl _,.non=>true | .non,.str _=>true | .str _,.non=>true
 | .int _,.int _=>true | .bl _,.bl _=>true | .str _,.str _=>true | .byt _,.byt _=>true
 | .int _,.str _=>true | .str _,.int _=>true | .bl _,.str _=>true | .str _,.bl _=>true
 |_,_=>false
def rEq:R2:=λx y H Q=>qk6 x y=true/\Q (.bl (decide (x=y))) H
def rNe:R2:=λx y H Q=>qk6 x y=true/\Q (.bl (!decide (x=y))) H
theorem Ks:decide (V.int i=V.int j)=(i == j):=by
 rw[Bool.eq_iff_iff];simp
theorem Tp:decide (V.bl i=V.bl j)=(i == j):=by
 rw[Bool.eq_iff_iff];simp
theorem Ld:decide (V.str i=V.str j)=(i == j):=by
 rw[Bool.eq_iff_iff];simp
theorem Lr:decide (V.byt i=V.byt j)=(i.toList == j.toList):=by
 rw[Bool.eq_iff_iff]
 cases i
 cases j
 simp
section
variable {X:Cx} {a b c:Expr} {ta tb tc:TE} {pos:Pos}
theorem cX (I:Inv X pins σ H s)(q:Q (.bl k) H)(e:k=k'):EP X pins σ Q (.bool k') s:=by
 subst e;exists .bl k,H,I,rfl,q
theorem fK:OpR X (compareOp .Eq) rEq:=by
 intro pins s σ H x y v u Q I rx ry h;obtain⟨hs,q⟩:=h
 cases x with
 |non=>
  cases rx
  cases y with
  |non=>cases ry;exact PySem.EqNone.eq_none_none (cX I q ⋯)
  |bl j=>cases ry;exact PySem.EqNone.eq_none_bool (cX I q ⋯)
  |int j=>obtain⟨t',rfl⟩:=ry;exact PySem.EqNone.eq_none_int (cX I q ⋯)
  |str j=>obtain⟨t',rfl⟩:=ry;exact PySem.EqNone.eq_none_str (cX I q ⋯)
  |_=>exact absurd (show false=true from hs) Bool.false_ne_true
 |bl i=>
  cases rx
  cases y with
  |non=>cases ry;exact PySem.EqNone.eq_bool_none (cX I q ⋯)
  |bl j=>cases ry;exact eq_bool (cX I q Tp)
  |str j=>obtain⟨t',rfl⟩:=ry;exact PySem.EqMixed.eq_bool_str (cX I q ⋯)
  |_=>exact absurd (show false=true from hs) Bool.false_ne_true
 |int i=>
  obtain⟨t,rfl⟩:=rx
  cases y with
  |non=>cases ry;exact PySem.EqNone.eq_int_none (cX I q ⋯)
  |int j=>obtain⟨t',rfl⟩:=ry;exact eq_int (cX I q Ks)
  |str j=>obtain⟨t',rfl⟩:=ry;exact PySem.EqMixed.eq_int_str (cX I q ⋯)
  |_=>exact absurd (show false=true from hs) Bool.false_ne_true
 |str i=>
  obtain⟨t,rfl⟩:=rx
  cases y with
  |non=>cases ry;exact PySem.EqNone.eq_str_none (cX I q ⋯)
  |bl j=>cases ry;exact PySem.EqMixed.eq_str_bool (cX I q ⋯)
  |int j=>obtain⟨t',rfl⟩:=ry;exact PySem.EqMixed.eq_str_int (cX I q ⋯)
  |str j=>obtain⟨t',rfl⟩:=ry;exact eq_str (cX I q Ld)
  |_=>exact absurd (show false=true from hs) Bool.false_ne_true
 |byt i=>
  obtain⟨t,rfl⟩:=rx
  cases y with
  |byt j=>obtain⟨t',rfl⟩:=ry;exact W.eq_bytes (cX I q Lr)
  |_=>exact absurd (show false=true from hs) Bool.false_ne_true
 |_=>cases y<;>exact absurd (show false=true from hs) Bool.false_ne_true
theorem qV:OpR X (compareOp .NotEq) rNe:=by
 intro pins s σ H x y v u Q I rx ry h;obtain⟨hs,q⟩:=h
 cases x with
 |non=>
  cases rx
  cases y with
  |non=>cases ry;exact PySem.EqNone.ne_none_none (cX I q ⋯)
  |bl j=>cases ry;exact PySem.EqNone.ne_none_bool (cX I q ⋯)
  |int j=>obtain⟨t',rfl⟩:=ry;exact PySem.EqNone.ne_none_int (cX I q ⋯)
  |str j=>obtain⟨t',rfl⟩:=ry;exact PySem.EqNone.ne_none_str (cX I q ⋯)
  |_=>exact absurd (show false=true from hs) Bool.false_ne_true
 |bl i=>
  cases rx
  cases y with
  |non=>cases ry;exact PySem.EqNone.ne_bool_none (cX I q ⋯)
  |bl j=>cases ry;exact ne_bool (cX I q (congrArg not Tp))
  |str j=>obtain⟨t',rfl⟩:=ry;exact PySem.EqMixed.ne_bool_str (cX I q ⋯)
  |_=>exact absurd (show false=true from hs) Bool.false_ne_true
 |int i=>
  obtain⟨t,rfl⟩:=rx
  cases y with
  |non=>cases ry;exact PySem.EqNone.ne_int_none (cX I q ⋯)
  |int j=>obtain⟨t',rfl⟩:=ry;exact ne_int (cX I q (congrArg not Ks))
  |str j=>obtain⟨t',rfl⟩:=ry;exact PySem.EqMixed.ne_int_str (cX I q ⋯)
  |_=>exact absurd (show false=true from hs) Bool.false_ne_true
 |str i=>
  obtain⟨t,rfl⟩:=rx
  cases y with
  |non=>cases ry;exact PySem.EqNone.ne_str_none (cX I q ⋯)
  |bl j=>cases ry;exact PySem.EqMixed.ne_str_bool (cX I q ⋯)
  |int j=>obtain⟨t',rfl⟩:=ry;exact PySem.EqMixed.ne_str_int (cX I q ⋯)
  |str j=>obtain⟨t',rfl⟩:=ry;exact ne_str (cX I q (congrArg not Ld))
  |_=>exact absurd (show false=true from hs) Bool.false_ne_true
 |byt i=>
  obtain⟨t,rfl⟩:=rx
  cases y with
  |byt j=>obtain⟨t',rfl⟩:=ry;exact W.ne_bytes (cX I q (congrArg not Lr))
  |_=>exact absurd (show false=true from hs) Bool.false_ne_true
 |_=>cases y<;>exact absurd (show false=true from hs) Bool.false_ne_true
theorem yX:OpR X (compareOp .Lt) (rI0 λi j=>.bl (decide (i < j))):=qg1 λ_ _ _ _ _ _ _ q=>lt_int q
theorem Cz:OpR X (compareOp .Gt) (rI0 λi j=>.bl (decide (j < i))):=qg1 λ_ _ _ _ _ _ _ q=>gt_int q
theorem Sz:OpR X (compareOp .GtE) (rI0 λi j=>.bl (decide (j<=i))):=qg1 λ_ _ _ _ _ _ _ q=>ge_int q
theorem bK (b:Expr)(h:op≠.In:=by decide)(h2:op≠.NotIn:=by decide):behindInMarks op b=false:=by
 have e1:(op == CmpOp.In)=false:=by cases op<;>first | rfl | exact absurd rfl h
 have e2:(op == CmpOp.NotIn)=false:=by cases op<;>first | rfl | exact absurd rfl h2
 cases b<;>simp[behindInMarks,e1,e2]
theorem eP (ho:OpR X (compareOp op) r)(ha:PE X a ta)(hb:PE X b tb)(hm:behindInMarks op b=false):PE X (.Compare a [op] [b] pos) (tOp r ta tb):=by
 intro pins s σ H Q I h;exact wpAny_Compare1 (qc2 ha hb I h λv u s2 x y H2 I2 rx ry q=>ho pins s2 σ H2 x y v u Q I2 rx ry q) hm
def qo6 (t:TE):TT:=λσ H Q=>t σ H λx H'=>BlT x λk=>Q k H'
theorem bG (ho:OpR X (compareOp op) r)(ha:PE X a ta)(hb:PE X b tb)(hm:behindInMarks op b=false):PT X (.Compare a [op] [b] pos) (qo6 (tOp r ta tb)):=by
 intro pins s σ H Q I h;refine wpAny_isTrue_Compare1 (thn (ha pins s σ H _ I h) λv s1 ⟨x,H1,I1,r1,q1⟩=>thn (hb pins s1 σ H1 _ I1 q1) λu s2 ⟨y,H2,I2,r2,q2⟩=>
  thn (ho pins s2 σ H2 x y v u _ I2 r1 r2 q2) λc s3 ⟨z,H3,I3,r3,k,e,q3⟩=>?_) hm
 subst e
 cases r3
 exact wpAny_truthy_bool ⟨H3,I3,q3⟩
theorem Cc:(sizeLine:Nat) < 2 ^ 63:=by rw[sizeLine_eq];decide
theorem lS (r:cA [x] us):∃u,us=[u]/\cL x u:=by
 cases r with
 |cons r1 r2=>cases r2;exists _,rfl,r1
theorem Oy (r:cA [x,y] us):∃u w',us=[u,w']/\cL x u/\cL y w':=by
 cases r with
 |cons r1 r2=>
  cases r2 with
  |cons r3 r4=>cases r4;exists _,_,rfl,r1,r3
theorem Es:kI X (.builtin "abs") (λxs H Q=>∃i,xs=[.int i]/\Q (.int (if i < 0 then -i else i)) H):=by
 intro pins s σ H xs us Q I r h;obtain⟨i,rfl,q⟩:=h;obtain⟨u,rfl,t,rfl⟩:=lS r;exact call_abs_int λu tk=>⟨.int (if i < 0 then -i else i),H,I.tok _,⟨_,rfl⟩,q⟩
theorem sQ:kI X (.type "int") (λxs H Q=>(∃i,xs=[.int i]/\Q (.int i) H)\/∃k,xs=[.bl k]/\Q (.int (if k then 1 else 0)) H):=by
 intro pins s σ H xs us Q I r h;rcases h with ⟨i,rfl,q⟩ | ⟨k,rfl,q⟩
 .obtain⟨u,rfl,t,rfl⟩:=lS r;exact call_int_int ⟨.int i,H,I,⟨_,rfl⟩,q⟩
 .obtain⟨u,rfl,r1⟩:=lS r
  cases r1
  exact call_int_bool ⟨.int (if k then 1 else 0),H,I.tok _,⟨_,rfl⟩,q⟩
end
structure Gi (h:Heap) (x dx C:Addr) (mA:Str->Option Value):Prop where
 obj:h.get? x=some (W.instObj C dx)
 ns:h.Ns1 dx mA
 ne:dx≠x
theorem yA {h:Heap}(n:h.Ns1 dx mA):∃od,h.get? dx=some od/\∀name,W.lookIn name od=some (mA name):=by
 obtain⟨o,es,ep,ho,hd,hk,_,hm⟩:=n;exists o,ho,λname=>?_;have e:=hm name;unfold nsFind findBy at e;rw[<- Array.find?_toList] at e;unfold W.lookIn;rw[hd];dsimp only;split
 .rename_i y q
  rw[q] at e;exact congrArg some e
 .rename_i q
  rw[q] at e;have a:es.toList.any (·.refKey)=false:=by
   rw[any_eq_false];intro y hy;obtain⟨z,t,hkey⟩:=hk y (Array.mem_toList_iff.mp hy);simp[DictEntry.refKey,hkey]
  have a':¬es.toList.any (·.refKey)=true:=by rw[a];exact Bool.false_ne_true
  rw[if_neg a'];exact congrArg some e
theorem Gi.look (I:Gi h x dx C mA):∃od,W.InstAt h x (W.instObj C dx) C (some od)/\∀name,W.lookIn name od=some (mA name):=
 let ⟨od,ho,hl⟩:=yA I.ns
 ⟨od,⟨I.obj,rfl,rfl,ho⟩,hl⟩
section
variable {prog:Program} {w:World} {A:Around} {E:Value->Shared->Prop} {s:Shared} {K:Frag} {x dx C f:Addr} {mA:Str->Option Value} {name:Str} {v:Value}
theorem Xe (X:K.In s.heap)(I:Gi s.heap x dx C mA)(hg:W.plainGet K C name=true)(hh:W.hasDictIn K C=true)(ha:W.findIn K (.ref C) name=some none)(hv:mA name=some v)(hv':W.handedIn v=true)(h:Q v { s with toks:=s.toks+1 }):
  wpAny (model prog w) A (getAttr (.ref x) name expr) Q E s:=by
 obtain⟨od,J,hl⟩:=I.look;exact W.get_value X J (W.plainGet_of hg).1 (W.findObj_own hh ha rfl (by rw[hl,hv])) hv' h
theorem Qk (X:K.In s.heap)(I:Gi s.heap x dx C mA)(hg:W.plainGet K C name=true)(hf:W.findIn K (.ref C) name=some (some (.ref f)))(ht:W.isFn K (.ref f)=true)(hv:mA name=none)(h:Q (.ref f,[.ref x]) s):
  wpAny (model prog w) A (getMethod (.ref x) name pl) Q E s:=by
 obtain⟨od,J,hl⟩:=I.look;exact W.method_fn X J (W.plainGet_of hg).1 (W.plainGet_of hg).2 hf (beq_iff_eq.mp ht) (by show (W.lookIn name od).map (·.isSome)=some false;rw[hl,hv];rfl) h
theorem Ww (X:K.In s.heap)(I:Gi s.heap x dx C mA)(hs:W.findIn K (.ref C) "__setattr__"=some (some (.builtin "object.__setattr__")))(hp:W.plainOver K C=true)(ht:W.takerIn K C name=some none)(hh:W.hasDictIn K C=true)(hw:PySem.Within mA ns)(hsz:ns.length<=sizeLine)(h:∀h',Gi h' x dx C (λy=>if y=name then some v else mA y)->Heap.SameBut dx s.heap h'->Q .unit { s with heap:=h',toks:=s.toks+2 }):
  wpAny (model prog w) A (setAttr (.ref x) name v) Q E s:=by
 obtain⟨od,J,hl⟩:=I.look;refine W.set_plain X J hs (W.osa_open (s:={ s with toks:=s.toks+1 }) (r:=none) X J hp ht λb=>?_);obtain⟨cd,hc,hd'⟩:=W.any_some hh;have hx:s.heap.get? x=some ⟨.ref C,some dx,.plain,#[]⟩:=I.obj;refine wpAny_bind (wpAny_pure (wpAny_bind (wpAny_bind (wpAny_loadPart hx (wpAny_bind (W.Looks.here (s:={ s with toks:=s.toks+1 }) (W.looks_clsIn X hc) ?_))))));rw[hd'];refine wpAny_pure (a:=some dx) (wpAny_bind (wpAny_pure (wpAny_bind ?_)));refine wpAny_nsSet1 (s:={ s with toks:=s.toks+1 }) I.ns λh' hn2 hs2=>?_;obtain⟨oD,esD,epD,hoD,hdD,hcD⟩:=hn2.count (PySem.Within.cons name v hw);refine wpAny_bind (wpAny_lookBehind hoD (by rw[hdD];exact pastItsLine_dict (Nat.le_trans hcD (by rw[length_cons];lia))) ?_);exact wpAny_pure (h _ ⟨(hs2.2 _ (Ne.symm I.ne)).trans I.obj,hn2,I.ne⟩ hs2)
theorem Rm (X:K.In s.heap)(hm:W.makesIn K C=true)(hi:W.findIn K (.ref C) "__init__"=some (some (.ref f)))(hf:W.typeIn K (.ref f)=some (.type "function"))(h:codeAny (model prog w) (A.under (.builtin "type.__call__" ⟨.ref C :: vs,kw⟩)) (.call (.ref f) ⟨.ref (s.heap.objs.size+1) :: vs,kw⟩) (W.InitBack (s.heap.objs.size+1) R)
   { s with heap:=(s.heap.push W.emptyDict).push (W.instObj C s.heap.objs.size) }):
  codeAny (model prog w) A (.call (.ref C) ⟨vs,kw⟩) R s:=by
 obtain⟨hh,g,d,t,os⟩:=s;exact W.make_core (W.makes_of X hm) (W.looks_findIn X hi) (λself=>W.bind_fn X self hf) (.inl rfl) h
end
def dZ (f:Str)(v:V):List (Str × V)->List (Str × V)
 | []=>[(f,v)]
 | (g,x) :: r=>if g=f then (g,v) :: r else (g,x) :: dZ f v r
theorem bL (f g:Str)(v:V):∀fs:List (Str × V),(dZ f v fs).lookup g=if g=f then some v else fs.lookup g
 | []=>by
  show List.lookup g [(f,v)]=_
  by_cases h:g=f
  .have hb:(g == f)=true:=beq_iff_eq.mpr h;simp only[List.lookup,hb,if_pos h]
  .have hb:(g == f)=false:=beq_eq_false_iff_ne.mpr h;simp only[List.lookup,hb,if_neg h]
 | (k,x) :: r=>by
  have ih:=bL f g v r;rw[show dZ f v ((k,x) :: r)=(if k=f then (k,v) :: r else (k,x) :: dZ f v r) from rfl]
  by_cases hk:k=f
  .rw[if_pos hk]
   by_cases h:g=k
   .have hb:(g == k)=true:=beq_iff_eq.mpr h;simp only[List.lookup,hb,if_pos (h.trans hk)]
   .have hb:(g == k)=false:=beq_eq_false_iff_ne.mpr h;simp only[List.lookup,hb,if_neg (λe:g=f=>h (e.trans hk.symm))]
  .rw[if_neg hk]
   by_cases h:g=k
   .have hb:(g == k)=true:=beq_iff_eq.mpr h;simp only[List.lookup,hb,if_neg (λe:g=f=>hk (h.symm.trans e))]
   .have hb:(g == k)=false:=beq_eq_false_iff_ne.mpr h;simp only[List.lookup,hb];exact ih
theorem rM (f:Str)(v:V):∀fs:List (Str × V),f∈(dZ f v fs).map (·.1)/\∀g,g∈fs.map (·.1)->g∈(dZ f v fs).map (·.1)
 | []=>⟨by simp[dZ],λg h=>by simp at h⟩
 | (k,x) :: r=>by
  obtain⟨i1,i2⟩:=rM f v r;rw[show dZ f v ((k,x) :: r)=(if k=f then (k,v) :: r else (k,x) :: dZ f v r) from rfl]
  by_cases hk:k=f
  .rw[if_pos hk];subst hk;exists ⋯,λg h=>by simpa using h
  .rw[if_neg hk];exists ?_,λg h=>?_
   .rw[map_cons];exact mem_cons_of_mem _ i1
   .rw[map_cons] at h ⊢;rcases mem_cons.mp h with e | e
    .exact mem_cons.mpr (.inl e)
    .exact mem_cons_of_mem _ (i2 g e)
theorem fR (f:Str)(v:V):∀fs:List (Str × V),(dZ f v fs).length<=fs.length+1
 | []=>by simp[dZ]
 | (k,x) :: r=>by
  have ih:=fR f v r;rw[show dZ f v ((k,x) :: r)=(if k=f then (k,v) :: r else (k,x) :: dZ f v r) from rfl]
  by_cases hk:k=f
  .rw[if_pos hk,length_cons,length_cons];lia
  .rw[if_neg hk,length_cons,length_cons];lia
theorem jZ.some_of (r:jZ (some v) o):∃u,o=some u/\cL v u:=by
 cases o with
 |none=>exact(show False from r).elim
 |some u=>exact⟨u,rfl,r⟩
theorem jZ.none_of (r:jZ none o):o=none:=by
 cases o with
 |none=>rfl
 |some u=>exact(show False from r).elim
theorem yN (r:cL v u):W.handedIn u=true:=by
 cases v with
 |non=>cases (show u=Value.none from r);rfl
 |bl b=>cases (show u=Value.bool b from r);rfl
 |int i=>obtain⟨t,e⟩:=(show ∃t,u=Value.int i t from r);cases e;rfl
 |str x=>obtain⟨t,e⟩:=(show ∃t,u=Value.str x t from r);cases e;rfl
 |byt b=>obtain⟨t,e⟩:=(show ∃t,u=Value.bytes b t from r);cases e;rfl
 |flt b=>obtain⟨t,e⟩:=(show ∃t,u=Value.float b t from r);cases e;rfl
 |ref a=>cases (show u=Value.ref a from r);rfl
 |ty n=>cases (show u=Value.type n from r);rfl
section
variable {P:Program} {w:World} {H H':Hp} {h h':Heap} {a C dx:Addr} {fs fs':List (Str × V)}
theorem uO (hok:HOk P w H h)(e:H a=some (.ins C dx fs)):∃mA,Gi h a dx C mA/\(∀f,jZ (fs.lookup f) (mA f))/\PySem.Within mA (fs.map (·.1))/\fs.length<=1000/\H dx=some (.own a):=by
 obtain⟨d,z,ne,ob,mA,n,r,q⟩:=(show cY P w H h a (.ins C dx fs) from hok a _ e)
 exists mA,⟨ob,n,ne⟩,r,q,z,d
end
structure Cls (K:Frag) (C:Addr):Prop where
 pg:W.plainGet K C Str.empty=true
 hd:W.hasDictIn K C=true
 po:W.plainOver K C=true
 sa:W.findIn K (.ref C) "__setattr__"=some (some (.builtin "object.__setattr__"))
theorem Cls.get {K:Frag}(c:Cls K C)(f:Str):W.plainGet K C f=true:=c.pg
def hJ (K:Frag)(C:Addr)(f:Str):Prop:=W.findIn K (.ref C) f=some none
theorem hJ.taker {K:Frag}(n:hJ K C f):W.takerIn K C f=some none:=by
 unfold W.takerIn;rw[show W.findIn K (.ref C) f=some none from n];rfl
structure gZ (K:Frag) (C:Addr) (m:Str) (f:Addr):Prop where
 at_:W.findIn K (.ref C) m=some (some (.ref f))
 fn:W.isFn K (.ref f)=true
 kp:W.keepIn K (.ref f)=true
section
variable {X:Cx} {pins:List (Addr × Obj)} {σ:St} {H:Hp} {s:Shared} {a C dx:Addr} {fs:List (Str × V)} {f:Str} {v:V} {A:Around} {E:Value->Shared->Prop}
theorem Jm (I:Inv X pins σ H s)(e:H a=some (.ins C dx fs))(c:Cls X.K C)(n:hJ X.K C f)(l:fs.lookup f=some v)(h:∀u s',Inv X pins σ H s'->cL v u->Q u s'):wpAny (model X.prog X.w) A (getAttr (.ref a) f b) Q E s:=by
 obtain⟨mA,O,r,_,_,_⟩:=uO I.hok e;obtain⟨u,hu,ru⟩:=jZ.some_of (v:=v) (o:=mA f) (by rw[<- l];exact r f);exact Xe I.kIn O (c.get f) c.hd n hu (yN ru) (h u _ (I.tok _) ru)
theorem pD (I:Inv X pins σ H s)(e:H a=some (.ins C dx fs))(c:Cls X.K C)(k:gZ X.K C m g)(l:fs.lookup m=none)(h:Q (.ref g,[.ref a]) s):wpAny (model X.prog X.w) A (getMethod (.ref a) m pl) Q E s:=by
 obtain⟨mA,O,r,_,_,_⟩:=uO I.hok e;have hn:mA m=none:=jZ.none_of (by rw[<- l];exact r m);exact Qk I.kIn O (c.get m) k.at_ k.fn hn h
theorem Iu (I:Inv X pins σ H s)(e:H a=some (.ins C dx fs))(c:Cls X.K C)(n:hJ X.K C f)(hl:fs.length < 1000)(ry:cL y u)(h:∀s',Inv X pins σ (upd H a (.ins C dx (dZ f y fs))) s'->Q .unit s'):wpAny (model X.prog X.w) A (setAttr (.ref a) f u) Q E s:=by
 obtain⟨mA,O,r,wi,_,ho⟩:=uO I.hok e;have hz:(fs.map (·.1)).length<=sizeLine:=by rw[length_map,sizeLine_eq];lia
 refine Ww I.kIn O c.sa c.po n.taker c.hd wi hz λh' O' sb=>h _ ?_;have hd:∃o,h'.get? dx=some o:=let ⟨o,_,_,e',_⟩:=O'.ns;⟨o,e'⟩
 refine I.write (x:=a) (e:=dx) (by rw[e];exact True.intro) (.inr ho) (λb q hb z=>(sb.2 b hb).trans z) hd ?_;exists by rw[aU O.ne];exact ho,?_,O.ne,O'.obj,_,O'.ns,λg=>?_,λg hg=>?_
 .have:=fR f y fs;lia
 .show jZ ((dZ f y fs).lookup g) (if g=f then some u else mA g);rw[bL]
  by_cases q:g=f
  .rw[if_pos q,if_pos q];exact ry
  .rw[if_neg q,if_neg q];exact r g
 .by_cases q:g=f
  .rw[q];exact(rM f y fs).1
  .refine(rM f y fs).2 g (wi g λz=>hg ?_);show (if g=f then some u else mA g)=none;rw[if_neg q];exact z
theorem Inv.made (I:Inv X pins σ H s):Inv X pins σ (upd (upd H s.heap.objs.size (.own (s.heap.objs.size+1))) (s.heap.objs.size+1) (.ins C s.heap.objs.size []))
  { s with heap:=(s.heap.push W.emptyDict).push (W.instObj C s.heap.objs.size) }:=by
 have e1:(s.heap.push W.emptyDict).get? s.heap.objs.size=some W.emptyDict:=Heap.get?_push_size s.heap rfl;have e2:((s.heap.push W.emptyDict).push (W.instObj C s.heap.objs.size)).get? (s.heap.objs.size+1)=some (W.instObj C s.heap.objs.size):=by
  have:=Heap.get?_push_size (s.heap.push W.emptyDict) (o:=W.instObj C s.heap.objs.size) rfl
  rwa [Heap.size_push] at this
 have e3:(s.heap.push W.emptyDict).Ns s.heap.objs.size (λ_=>none):=⟨W.emptyDict,#[],_,e1,rfl,(λe he=>absurd he ⋯),λ_=>rfl⟩
 have I1:=I.laid (a:=s.heap.objs.size) (o:=.own (s.heap.objs.size+1)) (h':=s.heap.push W.emptyDict) (t':=s.toks) (λb u q=>Heap.get?_push_of_some _ q) (Nat.le_refl _) ⟨_,e1⟩;refine I1.laid (a:=s.heap.objs.size+1) (o:=.ins C s.heap.objs.size []) (t':=s.toks) (λb u q=>Heap.get?_push_of_some _ q) (Nat.le_of_eq (Heap.size_push _ _)) ?_;have ne:s.heap.objs.size≠s.heap.objs.size+1:=Nat.ne_of_lt (Nat.lt_succ_self _);exists by rw[aU ne,aB],Nat.zero_le _,ne,e2,λ_=>none,(Heap.Ns1.of_empty e3).at λo q=>Heap.get?_push_of_some _ q,λ_=>True.intro,λy hy=>absurd rfl hy
theorem Lb (hb:attributeBase e f env (eval e env)=eval e env)(h:wpAny (model prog w) A (eval e env) (λo s₁=>wpAny (model prog w) A (getAttr o f true) Q E s₁) E s):wpAny (model prog w) A (eval (.Attribute e f pos) env) Q E s:=
 Attribute_any_ h (by rw[arm_eval_Attribute,hb])
end
inductive Yv (K:Frag) (f:Str) (Q:VK) (x:V) (H1:Hp):Prop where
 |mk (a C dx fs v):x=.ref a->H1 a=some (.ins C dx fs)->Cls K C->hJ K C f->fs.lookup f=some v->Q v H1->Yv K f Q x H1
def qn0 (K:Frag)(ta:TE)(f:Str):TE:=λσ H Q=>ta σ H λx H1=>Yv K f Q x H1
inductive Yn (K:Frag) (f:Str) (D:jN) (σ:St) (x:V) (H2:Hp) (y:V):Prop where
 |mk (a C dx fs):x=.ref a->H2 a=some (.ins C dx fs)->Cls K C->hJ K C f->fs.length < 1000->D.nx σ (upd H2 a (.ins C dx (dZ f y fs)))->Yn K f D σ x H2 y
def qr2 (K:Frag)(ta tv:TE)(f:Str):TS:=λD σ H=>tv σ H λy H1=>ta σ H1 λx H2=>Yn K f D σ x H2 y
section
variable {X:Cx} {o e value:Expr} {f:Str} {pos pos' tpos:Pos} {ta tv:TE}
theorem cT (he:PE X e ta)(hb:attributeBase e f X.env (eval e X.env)=eval e X.env):PE X (.Attribute e f pos) (qn0 X.K ta f):=by
 intro pins s σ H Q I h;refine Lb hb (thn (he pins s σ H _ I h) λu s1 ⟨x,H1,I1,rx,a,C,dx,fs,v,ex,ea,c,n,l,q⟩=>?_);subst ex;obtain rfl:u=Value.ref a:=rx;exact Jm I1 ea c n l λu' s2 I2 ru=>⟨v,H1,I2,ru,q⟩
theorem mV (ha:PE X o ta)(hv:PE X value tv)(hs:swapsWith value (some (.Attribute o f pos')) pos.line X.env=pure false):PS X (.Assign [.Attribute o f pos'] value pos) (qr2 X.K ta tv f):=by
 intro pins s σ H D I h;refine plainObj_wpAny_Assign_Attribute (thn (hv pins s σ H _ I h) λu s1 ⟨y,H1,I1,ry,q⟩=>thn (ha pins s1 σ H1 _ I1 q) λov s2 ⟨x,H2,I2,rx,a,C,dx,fs,ex,ea,c,n,l,q2⟩=>?_) hs;subst ex;obtain rfl:ov=Value.ref a:=rx;exact Iu I2 ea c n l ry λs3 I3=>⟨σ,_,I3,q2⟩
end
section
variable {X:Cx} {pins:List (Addr × Obj)} {σ:St} {H:Hp} {s:Shared} {A:Around} {E:Value->Shared->Prop} {Q:Value->Shared->Prop} {c:Value} {b:Bool}
inductive kD (K:Frag) (H:Hp):V->Value->Prop where
 |non:kD K H .non (.type "NoneType")
 |bl (x:Bool):kD K H (.bl x) (.type "bool")
 |int (i:Int):kD K H (.int i) (.type "int")
 |str (x:Str):kD K H (.str x) (.type "str")
 |flt (x:UInt64):kD K H (.flt x) (.type "float")
 |lst {a:Addr} {xs:List V} (e:H a=some (.lst xs)):kD K H (.ref a) (.type "list")
 |frz {a:Addr} {o:Obj} {xs:List V} (e:H a=some (.frz o (.lst xs))):kD K H (.ref a) (.type "list")
 |tup {a:Addr} {xs:List V} (e:H a=some (.tup xs)):kD K H (.ref a) (.type "tuple")
 |dK {a:Addr} {kvs:List (Key × V)} (e:H a=some (.dK kvs)):kD K H (.ref a) (.type "dict")
 |dT {a:Addr} {kvs:List (List Key × V)} (e:H a=some (.dT kvs)):kD K H (.ref a) (.type "dict")
 |ins {a C dx:Addr} {fs:List (Str × V)} (e:H a=some (.ins C dx fs)) (cl:Cls K C) (ha:W.findIn K (.ref C) "__class__"=some (some (.builtin "object.__class__")))
   (hn:W.specialIn K (.builtin "object.__class__") "__get__"=some (some (.builtin "getset_descriptor.__get__"))) (htk:W.takesIn K (.builtin "object.__class__")=some true)
   (hm:W.mroIn K C (.type "object")=some true):kD K H (.ref a) (.ref C)
theorem Mb (I:Inv X pins σ H s)(rx:cL x u)(ty:kD X.K H x t)(e:W.kitOne X.K t c=some b)(h:∀tk,Q (.bool b) { s with toks:=tk }):
  wpAny (model X.prog X.w) A (call (.builtin "isinstance") [u,c]) Q E s:=by
 cases ty with
 |non=>cases (show u=Value.none from rx);exact W.kia_one W.kitx_none I.kIn True.intro e (λz=>nomatch z) h
 |bl y=>cases (show u=Value.bool y from rx);exact W.kia_one W.kitx_bool I.kIn True.intro e (λz=>nomatch z) h
 |int i=>obtain⟨t,q⟩:=(show ∃t,u=Value.int i t from rx);cases q;exact W.kia_one W.kitx_int I.kIn True.intro e (λz=>nomatch z) h
 |str y=>obtain⟨t,q⟩:=(show ∃t,u=Value.str y t from rx);cases q;exact W.kia_one W.kitx_str I.kIn True.intro e (λz=>nomatch z) h
 |flt y=>obtain⟨t,q⟩:=(show ∃t,u=Value.float y t from rx);cases q;exact W.kia_one W.kitx_float I.kIn True.intro e (λz=>nomatch z) h
 | @lst a xs ea=>
  cases (show u=Value.ref a from rx)
  obtain⟨_,_,n,_,h1⟩:=(show cY X.prog X.w H s.heap a (.lst xs) from I.hok a _ ea)
  exact W.kia_one W.kitx_list I.kIn ⟨_,h1,rfl⟩ e (λz=>nomatch z) h
 | @frz a ob xs ea=>
  cases (show u=Value.ref a from rx)
  obtain⟨_,_,_,n,_,h1⟩:=(show cY X.prog X.w H s.heap a (.frz ob (.lst xs)) from I.hok a _ ea)
  exact W.kia_one W.kitx_list I.kIn ⟨_,h1,rfl⟩ e (λz=>nomatch z) h
 | @tup a xs ea=>
  cases (show u=Value.ref a from rx)
  obtain⟨_,_,_,p⟩:=(show cY X.prog X.w H s.heap a (.tup xs) from I.hok a _ ea)
  obtain⟨o,h1,h2,_⟩:=p;exact W.kia_one W.kitx_tuple I.kIn ⟨o,h1,h2⟩ e (λz=>nomatch z) h
 | @dK a kvs ea=>
  cases (show u=Value.ref a from rx)
  obtain⟨_,_,vs,_,p⟩:=(show cY X.prog X.w H s.heap a (.dK kvs) from I.hok a _ ea)
  obtain⟨o,es,ep,h1,h2,_⟩:=p;exact W.kia_one W.kitx_dict I.kIn ⟨o,h1,h2.1⟩ e (λz=>nomatch z) h
 | @dT a kvs ea=>
  cases (show u=Value.ref a from rx)
  obtain⟨_,_,xs,_,o,es,ep,h1,h2,_⟩:=(show cY X.prog X.w H s.heap a (.dT kvs) from I.hok a _ ea)
  exact W.kia_one W.kitx_dict I.kIn ⟨o,h1,h2.1⟩ e (λz=>nomatch z) h
 | @ins a C dx fs ea cl ha hn htk hm=>
  cases (show u=Value.ref a from rx)
  obtain⟨mA,O,_⟩:=uO I.hok ea;obtain⟨od,J,_⟩:=O.look;exact W.kia_one (W.kitx_own (cl.get _) cl.hd ha hn htk hm) I.kIn J e (λz=>nomatch z) h
end
structure gR (k:Nat) (A:Around):Prop where
 hd:A.handled=none
 dp:A.depth+3*k+5 < recursionLimit
 un:A.units+16*k+200 < cLine
theorem gR.mono (r:gR k A)(h:j<=k):gR j A:=⟨r.hd,by have:=r.dp;lia,by have:=r.un;lia⟩
theorem gR.deeper (r:gR (k+1) A)(env:Env):gR k (A.deeper env):=
 ⟨r.hd,by have:=r.dp;show A.depth+1+3*k+5 < _;lia,by have:=r.un;show A.units+3+16*k+200 < _;lia⟩
theorem Id {A:Around}:(A.under (.builtin "type.__call__" ⟨.ref C :: us,kw⟩)).depth=A.depth+1:=by
 first | rfl | simp[Around.under,Code.weight,Code.isCreation,Code.isGuard,Code.isCaller,Code.frames,Code.isFrame,guardIds]
theorem Jh {A:Around}:(A.under (.builtin "type.__call__" ⟨.ref C :: us,kw⟩)).units=A.units+1:=by
 first | rfl | simp[Around.under,Code.cUnits,Code.frames,Code.isFrame]
theorem gR.make (r:gR (k+1) A)(C:Addr)(us:List Value)(kw:List (Str × Value)):gR k (A.under (.builtin "type.__call__" ⟨.ref C :: us,kw⟩)):=
 ⟨r.hd,by have:=r.dp;rw[Id];lia,by have:=r.un;rw[Jh];lia⟩
theorem gR.depth (r:gR k A):A.depth < recursionLimit:=by have:=r.dp;lia
theorem gR.units (r:gR k A):A.units+64 < cLine:=by have:=r.un;lia
def Vp:TA:=λ_ H Q=>Q [] H
def Yy (ta:TE)(tr:TA):TA:=λσ H Q=>ta σ H λx H1=>tr σ H1 λxs H2=>Q (x :: xs) H2
section
variable {X:Cx} {e:Expr} {es:List Expr} {te:TE} {t:TA} {pos:Pos}
theorem aC:PA X [] Vp:=λ_ _ _ _ H Q I h=>Calls.spliced_nil ⟨[],H,I,.nil,h⟩
theorem aA (ha:PE X e te)(hr:PA X es t)(hs:starEach (e :: es) X.env=(false,eval e X.env) :: starEach es X.env:=by rfl):PA X (e :: es) (Yy te t):=by
 intro pos pins s σ H Q I h;rw[hs];show wpAny _ _ (spliced ((false,eval e X.env) :: backTo pos (starEach es X.env))) _ _ s;refine Calls.spliced_cons (thn (ha pins s σ H _ I h) λu s1 ⟨x,H1,I1,r1,q1⟩=>?_);exact thn (hr pos pins s1 σ H1 _ I1 q1) λus s2 ⟨xs,H2,I2,r2,q2⟩=>⟨x :: xs,H2,I2,.cons r1 r2,q2⟩
def qb6 (t:TA):TE:=λσ H Q=>t σ H λxs H1=>xs.length<=sizeLine/\∀p,H1 p=none->Q (.ref p) (upd H1 p (.tup xs))
def qr1 (t:TA):TE:=λσ H Q=>t σ H λxs H1=>xs.length<=sizeLine/\∀p,H1 p=none->Q (.ref p) (upd H1 p (.lst xs))
theorem gD {x1}(h:PA X es t):PE X (.Tuple es x1 pos) (qb6 t):=by
 intro pins s σ H Q I hq;refine wpAny_Tuple_spliced (thn (h pos pins s σ H _ I hq) λus s1 ⟨xs,H1,I1,r,z,q⟩=>⟨by rw[<- r.length];exact z,?_⟩);have hf:H1 s1.heap.objs.size=none:=I1.hok.fresh (Nat.le_refl _);exists .ref s1.heap.objs.size,upd H1 s1.heap.objs.size (.tup xs),I1.laid (t':=s1.toks) (λb u e=>Heap.get?_push_of_some _ e) (Nat.le_refl _) ?_,rfl,q _ hf;exists z,us,r,⟨_,Heap.get?_push_size _ rfl,rfl,_,rfl⟩
theorem eU (h:PA X es t):PE X (.List es pos) (qr1 t):=by
 intro pins s σ H Q I hq;refine wpAny_List_spliced (thn (h pos pins s σ H _ I hq) λus s1 ⟨xs,H1,I1,r,z,q⟩=>⟨by rw[<- r.length];exact z,?_⟩);have hf:H1 s1.heap.objs.size=none:=I1.hok.fresh (Nat.le_refl _);exists .ref s1.heap.objs.size,upd H1 s1.heap.objs.size (.lst xs),I1.laid (t':=s1.toks) (λb u e=>Heap.get?_push_of_some _ e) (Nat.le_refl _) ?_,rfl,q _ hf;exists z,us,0,r,Heap.get?_push_size _ rfl
end
abbrev Sp:=List V->Hp->VK->XK->Prop
abbrev CXT:=List Env->Hp->Shared->XK->Value->Shared->Prop
structure Ic (P:Program) (w:World) (K:Frag) (mg:Str->Option Value) (base:Heap) (A:Around) (outer:List Env) (s:Shared) (H:Hp):Prop where
 frames:A.frames=some outer
 mod:Mod K mg base
 bs:∀b o,base.get? b=some o->s.heap.get? b=some o/\H b=none
 bsz:base.objs.size<=s.heap.objs.size
 funs:s.heap.FunFrames base outer
 frf:∀b∈frs outer,H b=none
 hok:HOk P w H s.heap
 bare:AllBare s.gens
def CE (outer:List Env)(P:Program)(w:World)(H:Hp)(s:Shared)(Q:VK)(u:Value)(s':Shared):Prop:=
 ∃v H',s'.os=s.os/\AllBare s'.gens/\Un (frs outer) [] H H' s.heap s'.heap/\HOk P w H' s'.heap/\cL v u/\Q v H'
def CR (CX:CXT)(outer:List Env)(P:Program)(w:World)(H:Hp)(s:Shared)(Q:VK)(E:XK)(r:Result)(s':Shared):Prop:=
 match r with
 | .ok (.ret u)=>CE outer P w H s Q u s'
 | .ok _=>False
 | .error e=>CX outer H s E e s'
structure aJ (P:Program) (w:World) (K:Frag) (mg:Str->Option Value) (base:Heap) (CX:CXT) (k:Nat) (f:Addr) (fd:FuncData) (ps:List Str) (sp:Sp):Prop where
 len:∀vs H Q E,sp vs H Q E->vs.length=ps.length
 run:∀(A:Around) (outer:List Env) (s:Shared) (H:Hp) (args:Args) (us:List Value) (vs:List V) (Q:VK) (E:XK),gR k A->Ic P w K mg base A outer s H->BindsTo s fd args (ps.zip us)->cA vs us->sp vs H Q E->
  codeAny (model P w) A (.call (.ref f) args) (CR CX outer P w H s Q E) s
theorem aJ.mono {K:Frag}(F:aJ P w K mg base CX j f fd ps sp)(h:j<=k):
  aJ P w K mg base CX k f fd ps sp:=⟨F.len,λA outer s H args us vs Q E hr=>F.run A outer s H args us vs Q E (hr.mono h)⟩
theorem Ic.make {K:Frag}(e:Ic P w K mg base A outer s H)(C:Addr)(us:List Value)(kw:List (Str × Value)):
  Ic P w K mg base (A.under (.builtin "type.__call__" ⟨.ref C :: us,kw⟩)) outer s H:=⟨by first | exact e.frames | (simpa[Around.under,Code.envs,Code.isFrame,pushEnvs] using e.frames),e.mod,e.bs,e.bsz,e.funs,e.frf,e.hok,e.bare⟩
section
variable {X:Cx} {pins:List (Addr × Obj)} {σ:St} {H:Hp} {s s':Shared}
theorem Inv.env0 (I:Inv X pins σ H s):Ic X.prog X.w X.K X.mg X.base X.A X.stack s H:=
 ⟨I.ok.frames,I.ok.mod,I.bs,Nat.le_trans I.ok.bsz I.sz,I.stack,I.stkFree,I.hok,I.bare⟩
theorem Inv.after (I:Inv X pins σ H s)(h:CE X.stack X.prog X.w H s Q u s'):EP X pins σ Q u s':=by
 obtain⟨v,H',os,bare,un,hok,r,q⟩:=h;obtain⟨hh,g,d,t,os'⟩:=s';obtain rfl:os'=s.os:=os;exists v,H',I.call (h':=hh) (g':=g) (d':=d) (t':=t) (ch:=[]) un hok bare (λb z=>absurd z ⋯),r,q
end
def ql6 (sp:Sp)(dvs:List V)(E:XK)(t:TA):TE:=λσ H Q=>t σ H λvs H1=>sp (vs++dvs) H1 Q E
inductive Op (C:Addr) (m:Str) (sp:Sp) (dvs:List V) (E:XK) (t:TA) (σ:St) (Q:VK) (x:V) (H1:Hp):Prop where
 |mk (a dx fs):x=.ref a->H1 a=some (.ins C dx fs)->fs.lookup m=none->(t σ H1 λvs H2=>sp (x :: (vs++dvs)) H2 Q E)->Op C m sp dvs E t σ Q x H1
def Zb (C:Addr)(m:Str)(sp:Sp)(dvs:List V)(E:XK)(ta:TE)(t:TA):TE:=λσ H Q=>ta σ H λx H1=>Op C m sp dvs E t σ Q x H1
def qo5 (C:Addr)(sp:Sp)(dvs:List V)(E:XK)(t:TA):TE:=λσ H Q=>t σ H λvs H1=>∀x dx,H1 x=none->H1 dx=none->dx≠x->
 sp (.ref x :: (vs++dvs)) (upd (upd H1 dx (.own x)) x (.ins C dx [])) (λv H2=>v=.non/\Q (.ref x) H2) E
def aL (K:Frag)(fd:FuncData)(ps:List Str)(ds:List Value):Prop:=
 ∀(s:Shared) (us:List Value),K.In s.heap->(us++ds).length=ps.length->BindsTo s fd ⟨us,[]⟩ (ps.zip (us++ds))
theorem aL.all {K:Frag}(h:∀us:List Value,us.length=ps.length->bindArgs fd ⟨us,[]⟩=pure (ps.zip us)):aL K fd ps []:=λs us _ hl=>by
 rw[append_nil] at hl ⊢;exact .of_eq (h us hl)
def kS (CX:CXT)(X:Cx)(E:XK):Prop:=∀(pins:List (Addr × Obj)) (σ:St) (H:Hp) (s:Shared) (e:Value) (s':Shared),Inv X pins σ H s->CX X.stack H s E e s'->X.xe e s'
section
variable {X:Cx} {CX:CXT} {k:Nat} {f C:Addr} {fd:FuncData} {ps:List Str} {sp:Sp} {dvs:List V} {ds:List Value} {E:XK} {x m:Str} {p pos apos:Pos} {e o:Expr} {es:List Expr} {ta:TE} {t:TA}
theorem Cr (F:aJ X.prog X.w X.K X.mg X.base CX k f fd ps sp)(hr:gR k X.A)(hb:aL X.K fd ps ds)(hd:cA dvs ds)(hx:kS CX X E)(I:Inv X pins σ H s)(r:cA vs us)(h:sp (vs++dvs) H Q E):wpAny (model X.prog X.w) X.A (call (.ref f) us) (EP X pins σ Q) X.xe s:=by
 have r2:cA (vs++dvs) (us++ds):=r.append hd;have hl:(us++ds).length=ps.length:=by rw[<- r2.length];exact F.len _ _ _ _ h
 refine wpAny_call (codeAny_mono (F.run X.A X.stack s H ⟨us,[]⟩ (us++ds) (vs++dvs) Q E hr I.env0 (hb s us I.kIn hl) r2 h) λr s' hq=>?_)
 cases r with
 |error e=>exact hx pins σ H s e s' I hq
 |ok fl=>
  cases fl with
  |ret u=>exact I.after hq
  |next=>exact False.elim hq
  |brk=>exact False.elim hq
  |cont=>exact False.elim hq
theorem aI (F:aJ X.prog X.w X.K X.mg X.base CX k f fd ps sp)(hr:gR k X.A)(hg:Gl X x)(hm:X.mg x=some (.ref f))(hk:W.keepIn X.K (.ref f)=true)(hb:aL X.K fd ps ds)(hd:cA dvs ds)(hx:kS CX X E)(ha:PA X (e :: es) t)(hdb:(x == ("__debug__":Str))=false:=by decide)(he:starEach (e :: es) X.env=(false,eval e X.env) :: starEach es X.env:=by rfl)(hpl:(backTo pos (starEach es X.env)).any (·.1)=false:=by rfl) :
  PE X (.Call (.Name x p) (e :: es) [] pos) (ql6 sp dvs E t):=by
 intro pins s σ H Q I h;refine wpAny_Call_Name_kw (jS I hg hm ?_ hdb);refine W.callWith_K (h₀:=X.base) I.ok.mod.kin hk (thn (ha pos pins s σ H _ I h) λus s1 ⟨vs,H1,I1,r,q⟩=>⟨I1.kIn,?_⟩) he hpl;exact Cr F hr hb hd hx I1 r q
theorem uC (he:PE X o ta)(c:Cls X.K C)(hm:gZ X.K C m f)(F:aJ X.prog X.w X.K X.mg X.base CX k f fd ps sp)(hr:gR k X.A)(hb:aL X.K fd ps ds)(hd:cA dvs ds)(hx:kS CX X E)(ha:PA X (e :: es) t)(hst:starEach (e :: es) X.env=(false,eval e X.env) :: starEach es X.env:=by rfl)(hpl:(backTo pos (starEach es X.env)).any (·.1)=false:=by rfl)(ht:eval (.Call (.Attribute o m apos) (e :: es) [] pos) X.env=(do
   let ov <- eval o X.env
   standAt apos.atName
   let (f,first) <- holding [ov] (getMethod ov m pl)
   callWith pos f first (backTo pos (starEach (e :: es) X.env)) (backToKw pos (keywordEach [] X.env))):=by rfl):
  PE X (.Call (.Attribute o m apos) (e :: es) [] pos) (Zb C m sp dvs E ta t):=by
 intro pins s σ H Q I h;refine W.methodCall_KW (pl:=pl) (thn (he pins s σ H _ I h) λu s1 ⟨x,H1,I1,rx,a,dx,fs,ex,ea,l,q⟩=>?_) ht;subst ex;obtain rfl:u=Value.ref a:=rx;refine pD I1 ea c hm l ?_;refine W.callWith_K (first:=[.ref a]) (h₀:=X.base) I.ok.mod.kin hm.kp (thn (ha pos pins s1 σ H1 _ I1 q) λus s2 ⟨vs,H2,I2,r,q2⟩=>⟨I2.kIn,?_⟩) hst hpl;exact Cr (us:=.ref a :: us) (vs:=.ref a :: vs) F hr hb hd hx I2 (.cons rfl r) q2
theorem cZ (he:PE X o ta)(c:Cls X.K C)(hm:gZ X.K C m f)(F:aJ X.prog X.w X.K X.mg X.base CX k f fd ps sp)(hr:gR k X.A)(hb:aL X.K fd ps ds)(hd:cA dvs ds)(hx:kS CX X E)(ht:eval (.Call (.Attribute o m apos) [] [] pos) X.env=(do
   let ov <- eval o X.env
   standAt apos.atName
   let (f,first) <- holding [ov] (getMethod ov m pl)
   callWith pos f first (backTo pos (starEach [] X.env)) (backToKw pos (keywordEach [] X.env))):=by rfl):
  PE X (.Call (.Attribute o m apos) [] [] pos) (Zb C m sp dvs E ta Vp):=by
 intro pins s σ H Q I h;refine W.methodCall_KW (pl:=pl) (thn (he pins s σ H _ I h) λu s1 ⟨x,H1,I1,rx,a,dx,fs,ex,ea,l,q⟩=>?_) ht;subst ex;obtain rfl:u=Value.ref a:=rx;refine pD I1 ea c hm l ?_;exact W.callWith_K0 (first:=[.ref a]) I1.kIn hm.kp (Cr (us:=[.ref a]) (vs:=[.ref a]) F hr hb hd hx I1 (.cons rfl .nil) q)
structure Mk (K:Frag) (C f:Addr):Prop where
 makes:W.makesIn K C=true
 init:W.findIn K (.ref C) "__init__"=some (some (.ref f))
 fn:W.isFn K (.ref f)=true
 kp:W.keepIn K (.ref C)=true
theorem Qv (M:Mk X.K C f)(F:aJ X.prog X.w X.K X.mg X.base CX k f fd ps sp)(hr:gR (k+1) X.A)(hb:aL X.K fd ps ds)(hd:cA dvs ds)(hx:kS CX X E)(I:Inv X pins σ H s)(r:cA vs us)(h:∀x dx,H x=none->H dx=none->dx≠x->sp (.ref x :: (vs++dvs)) (upd (upd H dx (.own x)) x (.ins C dx [])) (λv H2=>v=.non/\Q (.ref x) H2) E):
  wpAny (model X.prog X.w) X.A (call (.ref C) us) (EP X pins σ Q) X.xe s:=by
 have hq:=h (s.heap.objs.size+1) s.heap.objs.size (I.hok.fresh (Nat.le_succ _)) (I.hok.fresh (Nat.le_refl _)) (Nat.ne_of_lt (Nat.lt_succ_self _));have I2:=Inv.made (C:=C) I;have r2:cA (V.ref (s.heap.objs.size+1) :: (vs++dvs)) (Value.ref (s.heap.objs.size+1) :: (us++ds)):=.cons rfl (r.append hd);have hl:(Value.ref (s.heap.objs.size+1) :: us++ds).length=ps.length:=by
  have e:=r2.length;rw[F.len _ _ _ _ hq] at e;exact e.symm
 refine wpAny_call (Rm (f:=f) I.kIn M.makes M.init (beq_iff_eq.mp M.fn) (codeAny_mono (F.run _ X.stack _ _ ⟨Value.ref (s.heap.objs.size+1) :: us,[]⟩ (Value.ref (s.heap.objs.size+1) :: (us++ds)) _ _ E (hr.make C us [])
  (I2.env0.make C us []) (hb _ (Value.ref (s.heap.objs.size+1) :: us) I2.kIn hl) r2 hq) λr s' hq'=>?_))
 cases r with
 |error e=>exact hx pins σ _ _ e s' I2 hq'
 |ok fl=>
  cases fl with
  |ret u=>
   obtain⟨v,H',I3,rv,ev,q3⟩:=I2.after hq';subst ev;exists rv,⟨V.ref (s.heap.objs.size+1),H',I3,rfl,q3⟩
  |next=>exact False.elim hq'
  |brk=>exact False.elim hq'
  |cont=>exact False.elim hq'
theorem oC (M:Mk X.K C f)(F:aJ X.prog X.w X.K X.mg X.base CX k f fd ps sp)(hr:gR (k+1) X.A)(hg:Gl X x)(hm:X.mg x=some (.ref C))(hb:aL X.K fd ps ds)(hd:cA dvs ds)(hx:kS CX X E)(ha:PA X (e :: es) t)(hdb:(x == ("__debug__":Str))=false:=by decide)(he:starEach (e :: es) X.env=(false,eval e X.env) :: starEach es X.env:=by rfl)(hpl:(backTo pos (starEach es X.env)).any (·.1)=false:=by rfl) :
  PE X (.Call (.Name x p) (e :: es) [] pos) (qo5 C sp dvs E t):=by
 intro pins s σ H Q I h;refine wpAny_Call_Name_kw (jS I hg hm ?_ hdb);refine W.callWith_K (h₀:=X.base) I.ok.mod.kin M.kp (thn (ha pos pins s σ H _ I h) λus s1 ⟨vs,H1,I1,r,q⟩=>⟨I1.kIn,?_⟩) he hpl;exact Qv M F hr hb hd hx I1 r q
end
structure aQ (N P:List Str) (sc:Scope):Prop where
 kind:sc.kind=.function
 co:sc.isCoroutine=false
 gen:sc.isGenerator=false
 nd:N.Nodup
 pre:N.take P.length=P
 par:∀x∈P,sc.names.lookup x=some .local\/sc.names.lookup x=some .cell
 nofree:∀y∈sc.names,y.2≠.free
theorem sK9 (a:sc.kind=.function:=by rfl)(b:sc.isCoroutine=false:=by rfl)(c:sc.isGenerator=false:=by rfl)(d:N.take P.length=P:=by rfl)(e:(decide N.Nodup&&decide (∀x∈P,sc.names.lookup x=some .local\/sc.names.lookup x=some .cell)&&decide (∀y∈sc.names,y.2≠.free))=true:=by decide +kernel):aQ N P sc:=by
 rw[Bool.and_eq_true,Bool.and_eq_true] at e
 exact ⟨a,b,c,of_decide_eq_true e.1.1,d,of_decide_eq_true e.1.2,of_decide_eq_true e.2⟩
theorem zl9 (n:Nat)(h:n<=16:=by decide):n<=sizeLine:=Nat.le_trans h ∅
abbrev kI9 (K:Frag)(g:Addr):Prop:=W.keepIn K (.ref g)=true
abbrev mI9 (mg:Str->Option Value)(x:Str)(g:Addr):Prop:=mg x=some (.ref g)
theorem yV {kindOf:Str->Option NameKind}:∀{binds:List (Str × Value)} {m:Str->Option Value},(∀v,(x,v)∉binds)->bindL kindOf binds m x=m x
 | [],_,_=>rfl
 | (n,v) :: r,m,h=>by
  unfold bindL;rw[yV λw hw=>h w (mem_cons_of_mem _ hw)];split
  .have:x≠n:=by rintro rfl;exact h v mem_cons_self
   simp[this]
  .rfl
theorem yJ {kindOf:Str->Option NameKind}:∀{binds:List (Str × Value)} {m:Str->Option Value},(∀v,(x,v)∉binds)->bindC kindOf binds m x=m x
 | [],_,_=>rfl
 | (n,v) :: r,m,h=>by
  unfold bindC;rw[yJ λw hw=>h w (mem_cons_of_mem _ hw)];split
  .rfl
  .have:x≠n:=by rintro rfl;exact h v mem_cons_self
   simp[this]
theorem yT {kindOf:Str->Option NameKind}:∀{P:List Str} {vs:List Value} {i:Nat} {m:Str->Option Value},P.Nodup->P[i]?=some x->vs[i]?=some v->kindOf x=some .local->
  bindL kindOf (P.zip vs) m x=some v
 | [],_,_,_,_,h,_,_=>by simp at h
 |_ :: _,[],_,_,_,_,h,_=>by simp at h
 |p :: P,w :: vs,0,m,nd,h1,h2,hk=>by
  simp at h1 h2;subst h1;subst h2;show bindL kindOf ((p,w) :: P.zip vs) m p=_;unfold bindL;rw[yV λv hv=>(nodup_cons.mp nd).1 (of_mem_zip hv).1,if_pos hk];simp
 |p :: P,w :: vs,i+1,m,nd,h1,h2,hk=>by
  show bindL kindOf ((p,w) :: P.zip vs) m x=_;unfold bindL;exact yT (i:=i) (nodup_cons.mp nd).2 (by simpa using h1) (by simpa using h2) hk
theorem yL {kindOf:Str->Option NameKind}:∀{P:List Str} {vs:List Value} {i:Nat} {m:Str->Option Value},P.Nodup->P[i]?=some x->vs[i]?=some v->kindOf x≠some .local->
  bindC kindOf (P.zip vs) m x=some v
 | [],_,_,_,_,h,_,_=>by simp at h
 |_ :: _,[],_,_,_,_,h,_=>by simp at h
 |p :: P,w :: vs,0,m,nd,h1,h2,hk=>by
  simp at h1 h2;subst h1;subst h2;show bindC kindOf ((p,w) :: P.zip vs) m p=_;unfold bindC;rw[yJ λv hv=>(nodup_cons.mp nd).1 (of_mem_zip hv).1,if_neg hk];simp
 |p :: P,w :: vs,i+1,m,nd,h1,h2,hk=>by
  show bindC kindOf ((p,w) :: P.zip vs) m x=_;unfold bindC;exact yL (i:=i) (nodup_cons.mp nd).2 (by simpa using h1) (by simpa using h2) hk
def start (N:List Str)(vs:List V):St:=vs.map some++replicate (N.length - vs.length) none
def xJ (CX:CXT)(P:Program)(w:World)(K:Frag)(mg:Str->Option Value)(base:Heap)(N:List Str)(qual:Str)(scope:Scope)(f:Addr)(cd:Value)(A:Around)(outer:List Env)(s:Shared)(H:Hp)(E:XK):Cx where
 prog:=P
 w:=w
 K:=K
 mg:=mg
 base:=base
 A:=A.deeper (envOfC qual scope s.heap.objs.size f cd)
 N:=N
 s₀:=s
 H₀:=H
 env:=envOfC qual scope s.heap.objs.size f cd
 outer:=outer
 stack:=envOfC qual scope s.heap.objs.size f cd :: outer
 ex:=[]
 calm:=true
 fn:=λ_=>true
 pn:=[]
 xe:=λe s'=>wpAny (model P w) (A.deeper (envOfC qual scope s.heap.objs.size f cd)) (leaving (envOfC qual scope s.heap.objs.size f cd) e) (λ_ s''=>CX outer H s E e s'') (λe' s''=>CX outer H s E e' s'') s'
theorem Ev {sc:Scope}(h:sc.names.lookup x=some .cell):∃c,(cellsFrom n sc.names []).lookup x=some c:=by
 have q:=W.cellsFrom_some sc.names n [] (.inl h);exact Option.isSome_iff_exists.mp q
theorem Mo {K:Frag}(S:aQ N ps scope)(hd:A.handled=none)(e0:Ic P w K mg base A outer s H)(hl:vs.length=ps.length)(r:cA vs us)(x:InCallC s s.heap.objs.size (bindL (envOfC qual scope s.heap.objs.size f cd).kindOf (ps.zip us) λ_=>none) (cellsFrom (s.heap.objs.size+1) scope.names []) (bindC (envOfC qual scope s.heap.objs.size f cd).kindOf (ps.zip us) λ_=>none) s1):
  Inv (xJ CX P w K mg base N qual scope f cd A outer s H E) [] (start N vs) H s1:=by
 have hpl:ps.length<=N.length:=by have:=congrArg List.length S.pre;rw[length_take] at this;lia
 obtain⟨h1,tk,rfl,hk⟩:=x.done;have noA:∀b:Addr,b∉(xJ CX P w K mg base N qual scope f cd A outer s H E).ex:=λb z=>absurd (show b∈([]:List Addr) from z) ⋯;refine⟨⟨e0.mod,S.kind,rfl,rfl,Nat.le_refl _,λy z c h1 h2=>?_,λy hy=>?_,λy c _ h=>?_,λ_=>hd,Around.frames_deeper e0.frames,.inr ⟨rfl,rfl⟩,λb z=>absurd z (noA b),e0.bs,e0.bsz,λb _ _=>noA b,λb z=>absurd z (noA b),e0.funs,e0.frf⟩,
  rfl,e0.bare,Un.kept hk,⟨_,x.toInCall.ns,λi y v h1 h2 h3=>?_⟩,λy c h=>⟨_,x.cell y c h⟩,e0.hok.fresh (Nat.le_refl _),λy c h=>?_,λp hp=>absurd (show p∈([]:List (Addr × Obj)) from hp) ⋯,e0.hok.kept hk,?_⟩
 .exact name_of_addr x.apart (PySem.mem_of_lookup h1) (PySem.mem_of_lookup h2)
 .have hy:scope.names.lookup y=some .cell\/scope.names.lookup y=some .free:=hy;rcases hy with hy | hy
  .exact Ev hy
  .exact absurd rfl (S.nofree _ (PySem.mem_of_lookup hy))
 .exact Nat.le_of_lt (x.above y c (PySem.mem_of_lookup h))
 .have hi:i < vs.length:=by
   unfold start at h2
   by_cases hi:i < vs.length
   .exact hi
   .rw[getElem?_append_right (by simpa using hi)] at h2;rw[getElem?_replicate] at h2;split at h2<;>cases h2
  have ha:vs[i]?=some v:=by
   unfold start at h2;rw[getElem?_append_left (by simpa using hi),getElem?_map] at h2
   cases e:vs[i]? with
   |none=>rw[e] at h2;cases h2
   |some a=>rw[e] at h2;cases h2;rfl
  obtain⟨u,hu,rv⟩:=r.get ha;have hp:ps[i]?=some y:=by
   rw[<- S.pre,getElem?_take_of_lt ()];exact h1
  have ndP:ps.Nodup:=by rw[<- S.pre];exact S.nd.sublist (take_sublist _ _)
  exists u,rv,?_;rcases S.par y (mem_of_getElem? hp) with k | k
  .exact .inl ⟨k,yT ndP hp hu k⟩
  .obtain⟨c,e⟩:=Ev (n:=s.heap.objs.size+1) k;refine .inr ⟨.inl k,c,e,?_⟩;have q:=x.cell y c e;rw[yL ndP hp hu (by show scope.names.lookup y≠_;rw[k];decide)] at q;exact q
 .exact e0.hok.fresh (Nat.le_of_lt (x.above y c (PySem.mem_of_lookup h)))
 .unfold start;show _=N.length;rw[List.length_append,length_map,length_replicate];lia
theorem qj5 {K:Frag}{dV kV doc pm cdv ct oc:Value}(lk:K.lookup f=some ⟨oc,od,.func (W.fnOf name qual params body scope dV kV doc pm an cdv ct),osl⟩)(hcd:W.codeIn K cdv qual=true)(S:aQ N ps scope)(len:∀vs H Q E,sp vs H Q E->vs.length=ps.length)(hbody:∀(A:Around) (outer:List Env) (s:Shared) (H:Hp) (vs:List V) (Q:VK) (E:XK),gR k (A.deeper (envOfC qual scope s.heap.objs.size f cdv))->sp vs H Q E->
   ∃t,PSs (xJ CX P w K mg base N qual scope f cdv A outer s H E) body t/\t { nx:=λ_ H'=>Q .non H',rt:=Q } (start N vs) H):
  aJ P w K mg base CX (k+1) f (W.fnOf name qual params body scope dV kV doc pm an cdv ct) ps sp:=by
 exists len,λA outer s H args us vs Q E hr e0 hb r hsp=>?_;have hl:=len _ _ _ _ hsp;have KX:K.In s.heap:=e0.mod.kin.keeps λb o e=>(e0.bs b o e).1;have lim:s.heap.NoLimit:=e0.mod.nolimit.keeps λb o e=>(e0.bs b o e).1;have hkind:∀y∈ps.zip us,scope.names.lookup y.1=some .local\/(scope.names.lookup y.1=some .cell/\((cellsFrom (s.heap.objs.size+1) scope.names []).lookup y.1).isSome=true):=λ⟨n,v⟩ hy=>by
  rcases S.par n (of_mem_zip hy).1 with q | q
  .exact .inl q
  .exact .inr ⟨q,W.cellsFrom_some _ _ _ (.inl q)⟩
 refine codeAny_call_function hr.depth (KX _ _ lk) rfl S.co S.gen rfl (W.codeRec_of KX hcd) (hb _ _ _ _ ?_);refine wpAny_newFunctionEnv_cells S.kind hkind λenv he s1 x=>?_;subst he;exists lim.keeps x.toInCall.keep,codeAny_func ?_;obtain⟨t,ht,hq⟩:=hbody A outer s H vs Q E (hr.deeper _) hsp;have I:Inv (xJ CX P w K mg base N qual scope f cdv A outer s H E) [] (start N vs) H s1:=Mo S hr.hd e0 hl r x;refine wpAny_mono (ht [] s1 (start N vs) H _ I hq) (λfl s' hs=>?_) λe s' hs=>hs;have fin:∀{σ':St} {H':Hp} {v:V} {u:Value},Inv (xJ CX P w K mg base N qual scope f cdv A outer s H E) [] σ' H' s'->cL v u->Q v H'->CE outer P w H s Q u s':=
  λ{σ' H' v u} J rv q=>⟨v,H',J.os,J.bare,J.base,J.hok,rv,q⟩
 cases fl with
 |ret u=>
  obtain⟨v,σ',H',J,rv,q⟩:=hs;exact fin J rv q
 |next=>
  obtain⟨σ',H',J,q⟩:=hs;exact fin (v:=V.non) (u:=Value.none) J rfl q
 |brk=>
  obtain⟨_,_,_,q⟩:=hs;exact False.elim q
 |cont=>
  obtain⟨_,_,_,q⟩:=hs;exact False.elim q
section
variable {X:Cx} {x:Str} {p pos:Pos} {e:Expr} {es:List Expr} {t:TA} {id T:String} {r:List V->Hp->VK->Prop}
def tCB (r:List V->Hp->VK->Prop)(t:TA):TE:=λσ H Q=>t σ H λvs H1=>r vs H1 Q
theorem bM (hc:kI X (.builtin id) r)(hg:Gl X x)(hm:X.mg x=none)(hv:bootBuiltins x=some (.builtin id))(ha:PA X (e :: es) t)(hn:x≠"__name__":=by decide)(hdb:(x == ("__debug__":Str))=false:=by decide)(he:starEach (e :: es) X.env=(false,eval e X.env) :: starEach es X.env:=by rfl)(hpl:(backTo pos (starEach es X.env)).any (·.1)=false:=by rfl):PE X (.Call (.Name x p) (e :: es) [] pos) (tCB r t):=by
 intro pins s σ H Q I h;refine wpAny_Call_Name_kw (iG I hg hm hv ?_ hn hdb);exact PyProof.Rows.callWith_builtin1 (thn (ha pos pins s σ H _ I h) λus s1 ⟨vs,H1,I1,r1,q1⟩=>hc pins s1 σ H1 vs us Q I1 r1 q1) he hpl
theorem cS (hc:kI X (.type T) r)(hg:Gl X x)(hm:X.mg x=none)(hv:bootBuiltins x=some (.type T))(ha:PA X (e :: es) t)(hn:x≠"__name__":=by decide)(hdb:(x == ("__debug__":Str))=false:=by decide)(he:starEach (e :: es) X.env=(false,eval e X.env) :: starEach es X.env:=by rfl)(hpl:(backTo pos (starEach es X.env)).any (·.1)=false:=by rfl):PE X (.Call (.Name x p) (e :: es) [] pos) (tCB r t):=by
 intro pins s σ H Q I h;refine wpAny_Call_Name_kw (iG I hg hm hv ?_ hn hdb);exact PyProof.Rows.callWith_type1 (thn (ha pos pins s σ H _ I h) λus s1 ⟨vs,H1,I1,r1,q1⟩=>hc pins s1 σ H1 vs us Q I1 r1 q1) he hpl
end
end L2
namespace HT
open PySem PyProof.Rows
section
variable {prog:Program} {w:World} {A:Around} {E:Value->Shared->Prop} {s:Shared}
theorem cat_tup (ht:IsTup s.heap t vs.toArray)(hb:IsTup s.heap b ws.toArray)(hv:vs≠[])(h1:ws=[]->Q (.ref t) s)(h2:ws≠[]->Q (.ref s.heap.objs.size) { s with heap:=s.heap.push { cls:=.type "tuple",data:=.seq (vs++ws).toArray } })(hsz:vs.length+ws.length<=sizeLine):wpAny (model prog w) A (binaryOp .Add (.ref t) (.ref b)) Q E s:=by
 obtain⟨⟨cls,dd,data,sl⟩,ho,hc,n,hd⟩:=id ht;obtain⟨⟨cls2,dd2,data2,sl2⟩,ho2,hc2,n2,hd2⟩:=id hb;simp only at hc hd hc2 hd2;subst hc hd hc2 hd2;have e:vs.toArray++ws.toArray=(vs++ws).toArray:=by simp
 by_cases hw:ws=[]
 .exact concat_meets ⟨_,ho,rfl⟩ ⟨_,ho2,rfl⟩ noFill_tuple_add seq_tuple_add PySem.F.slot_tuple_add PySem.F.entry_tuple_add (PySem.F.args_tuple_add_2 _ _)
   (tuple_addW1 t b vs.toArray ws.toArray n n2 dd dd2 sl sl2 (by simpa using hv) (by simp[hw])) ⟨ho,ho2,h1 hw⟩
 .refine concat_meets ⟨_,ho,rfl⟩ ⟨_,ho2,rfl⟩ noFill_tuple_add seq_tuple_add PySem.F.slot_tuple_add PySem.F.entry_tuple_add (PySem.F.args_tuple_add_2 _ _)
   (tuple_addW2 t b vs.toArray ws.toArray n n2 dd dd2 sl sl2 (by simpa using hv) (by simpa using hw) (by rw[size_toArray,size_toArray];exact hsz)) ⟨ho,ho2,?_⟩
  rw[e];exact h2 hw
def sIx (n d:Nat):Option Int->Nat
 |none=>d
 |some v=>if v < 0 then (v+(n:Int)).toNat else min v.toNat n
theorem qa1 (n d:Nat)(hd:d<=n)(o:Option Int):sIx n d o<=n:=by
 cases o with
 |none=>exact hd
 |some v=>
  show (if v < 0 then (v+(n:Int)).toNat else min v.toNat n)<=n
  by_cases hv:v < 0
  .rw[if_pos hv];lia
  .rw[if_neg hv];exact Nat.min_le_right _ _
theorem Jp (v:Int)(n d:Nat):(if v < 0 then max (v+(n:Int)) 0 else min v (n:Int))=((sIx n d (some v):Nat):Int):=by
 show (if v < 0 then max (v+(n:Int)) 0 else min v (n:Int))=(((if v < 0 then (v+(n:Int)).toNat else min v.toNat n):Nat):Int)
 by_cases hv:v < 0
 .simp only[if_pos hv];lia
 .simp only[if_neg hv];lia
theorem Ji (lo hi:Option Int)(n:Nat):Builtin.Slice.sliceAdjust lo hi 1 (n:Int)=(((sIx n 0 lo:Nat):Int),((sIx n n hi:Nat):Int)):=by
 have h1:¬((1:Int) < 0):=by lia
 unfold Builtin.Slice.sliceAdjust;simp only[h1,if_false];refine Prod.ext ?_ ?_
 .cases lo with
  |none=>rfl
  |some v=>exact Jp v n 0
 .cases hi with
  |none=>rfl
  |some v=>exact Jp v n n
theorem Fx (i j:Nat):Builtin.Slice.slicePlaces (i:Int) (j:Int) 1=j - i:=by
 unfold Builtin.Slice.slicePlaces;have h1:(1:Int) > 0:=by lia
 simp only[h1,if_true,Int.ediv_one];split<;>lia
theorem xE (p:IsPart v o)(h:Q o s):wpAny (model prog w) A (Builtin.Slice.slicePartIndex v) Q E s:=by
 cases p with
 |none=>exact slicePart_none h
 |int i t=>exact slicePart_int h
theorem rG {lo hi:Option Int}{n:Nat}(hs:s.heap.IsSliceOf sl vl vu .none)(pl:IsPart vl lo)(pu:IsPart vu hi)(h:Q (((sIx n 0 lo:Nat):Int),1,sIx n n hi - sIx n 0 lo) s):wpAny (model prog w) A (Builtin.Slice.sliceApplied (.ref sl) (pure (n:Int))) Q E s:=by
 obtain⟨os,hos,hcs,hds⟩:=id hs;unfold Builtin.Slice.sliceApplied Builtin.Slice.sliceFields;refine wpAny_bind (wpAny_bind (wpAny_field hos hds (x:=vl) rfl (wpAny_bind (wpAny_field hos hds (x:=vu) rfl (wpAny_bind (wpAny_field hos hds (x:=.none) rfl (wpAny_pure ?_)))))));refine wpAny_bind (slicePart_none ?_);show wpAny _ _ (if ((1:Int) == 0)=true then _ else _) _ _ s;rw[if_neg ∅];refine wpAny_bind (xE pl (wpAny_bind (xE pu (wpAny_bind (wpAny_pure ?_)))));show wpAny _ _ (match Builtin.Slice.sliceAdjust lo hi 1 (n:Int) with | (lo,hi)=>pure (lo,(1:Int),Builtin.Slice.slicePlaces lo hi 1)) _ _ s;rw[Ji lo hi n];show wpAny _ _ (pure (((sIx n 0 lo:Nat):Int),(1:Int),Builtin.Slice.slicePlaces ((sIx n 0 lo:Nat):Int) ((sIx n n hi:Nat):Int) 1)) _ _ s;rw[Fx];exact wpAny_pure h
theorem Pw (xs:Array Value)(i k:Nat):((List.range k).filterMap λ(m:Nat)=>xs[((i:Int)+(m:Int)*1).toNat]?).toArray=((xs.toList.drop i).take k).toArray:=by
 have e:(λ(m:Nat)=>xs[((i:Int)+(m:Int)*1).toNat]?)=λm=>xs[i+m]?:=by
  funext m
  have:((i:Int)+(m:Int)*1).toNat=i+m:=by lia
  rw[this]
 rw[e];have:=pick_run xs i k;rw[filterMap_map] at this;have e2:((λx=>xs[x]?) ∘ λx=>i+x)=λm=>xs[i+m]?:=rfl;rw[e2] at this;rw[this]
theorem getItem_tuple_cut {lo hi:Option Int}(ht:IsTup s.heap t items)(hs:s.heap.IsSliceOf sl vl vu .none)(pl:IsPart vl lo)(pu:IsPart vu hi)(hw:¬(sIx items.size 0 lo=0/\sIx items.size items.size hi=items.size))(h:Q (.ref s.heap.objs.size) { s with heap:=s.heap.push { cls:=.type "tuple",data:=.seq ((items.toList.drop (sIx items.size 0 lo)).take (sIx items.size items.size hi - sIx items.size 0 lo)).toArray } })(hsz:items.size<=sizeLine):wpAny (model prog w) A (getItem (.ref t) (.ref sl)) Q E s:=by
 have htake:sizeOk (.seq ((items.toList.drop (sIx items.size 0 lo)).take (sIx items.size items.size hi - sIx items.size 0 lo)).toArray):=by
  show ((items.toList.drop (sIx items.size 0 lo)).take (sIx items.size items.size hi - sIx items.size 0 lo)).toArray.size<=sizeLine;rw[size_toArray,length_take,length_drop,Array.length_toList];lia
 have hj:sIx items.size items.size hi<=items.size:=qa1 _ _ (Nat.le_refl _) hi;obtain⟨os,hos,hcs,hds⟩:=id hs;have hTs:s.TypeIs (.ref sl) "slice":=⟨os,hos,hcs⟩
 unfold getItem
 try with_reducible refine wpAny_holding ?_
 first | refine wpAny_bind (wpAny_pure ?_) | skip
 refine wpAny_bind (wpAny_sequenceKey ht.typeIs ∅ ?_);refine wpAny_bind (wpAny_callSpecial?_slot (name:=Str.ofString "__getitem__") ht.typeIs PyProof.Rows.slot_tuple_getitem
  (wpAny_call_entry PyProof.Rows.slot_tuple_getitem ht.typeIs entry_tuple_getitem ?_ (args_tuple_getitem _ _)))
 show wpAny _ _ (Builtin.Tuple.tupleItemsOf (.ref t) >>= _) _ _ s;refine wpAny_bind (tupleItemsOf_ ht ?_);refine wpAny_bind (wpAny_typeOf hTs ?_);rw[if_pos ∅];refine wpAny_bind (rG hs pl pu ?_);have hno:¬((((sIx items.size 0 lo:Nat):Int) == 0 && (1:Int) == 1 && (sIx items.size items.size hi - sIx items.size 0 lo) == items.size)=true):=by
  intro q;rw[Bool.and_eq_true,Bool.and_eq_true] at q;have q1:((sIx items.size 0 lo:Nat):Int)=0:=eq_of_beq q.1.1;have q2:sIx items.size items.size hi - sIx items.size 0 lo=items.size:=eq_of_beq q.2;exact hw ⟨(),()⟩
 show wpAny _ _ (if (((sIx items.size 0 lo:Nat):Int) == 0 && (1:Int) == 1 && (sIx items.size items.size hi - sIx items.size 0 lo) == items.size)=true then _ else _) _ _ s;rw[if_neg hno,Pw]
 first
  |exact wpAny_bind (m:=Builtin.Tuple.tupleExact _) (wpAny_newObj_type (wpAny_pure ⟨_,rfl,wpAny_pure h⟩) htake)
  |exact wpAny_bind (m:=Builtin.Tuple.tupleExact _) (wpAny_newObj_type (wpAny_bind (wpAny_pure (wpAny_pure ⟨_,rfl,wpAny_pure h⟩))) htake)
  |exact wpAny_bind (wpAny_bind (m:=Builtin.Tuple.tupleExact _) (wpAny_newObj_type (wpAny_pure (wpAny_pure ⟨_,rfl,wpAny_pure h⟩)) htake))
  |exact wpAny_bind (wpAny_bind (m:=Builtin.Tuple.tupleExact _) (wpAny_newObj_type (wpAny_pure ⟨_,rfl,wpAny_pure h⟩) htake))
end
end HT
namespace L2
open PySem PySem.Spec PyProof.Rows
abbrev TO:=St->Hp->(Option Int->Hp->Prop)->Prop
def PO (X:Cx)(e:Option Expr)(t:TO):Prop:=
 ∀(pins:List (Addr × Obj)) (s:Shared) (σ:St) (H:Hp) (Q:Option Int->Hp->Prop),Inv X pins σ H s->t σ H Q->
  wpAny (model X.prog X.w) X.A (evalPart e X.env) (λu s'=>∃o H',Inv X pins σ H' s'/\IsPart u o/\Q o H') X.xe s
def Vd:TO:=λ_ H Q=>Q none H
def qi9 (t:TE):TO:=λσ H Q=>t σ H λx H1=>∃i,x=.int i/\Q (some i) H1
section
variable {X:Cx} {e:Expr} {te:TE} {lo hi:Option Expr} {tl th:TO} {pos p2:Pos}
theorem kO:PO X none Vd:=by
 intro pins s σ H Q I h;rw[evalPart_none];exact wpAny_pure ⟨none,H,I,.none,h⟩
theorem gA (h:PE X e te):PO X (some e) (qi9 te):=by
 intro pins s σ H Q I hw;rw[evalPart_some];refine thn (h pins s σ H _ I hw) λu s1 ⟨x,H1,I1,r1,q1⟩=>?_;obtain⟨i,rfl,q⟩:=q1;obtain⟨t,rfl⟩:=r1;exists some i,H1,I1,.int i t,q
def SlR (X:Cx)(r:V->Option Int->Option Int->Hp->VK->Prop):Prop:=
 ∀(pins:List (Addr × Obj)) (s:Shared) (σ:St) (H:Hp) (x:V) (v vl vu:Value) (lo hi:Option Int) (sl:Addr) (Q:VK),Inv X pins σ H s->cL x v->s.heap.IsSliceOf sl vl vu .none->IsPart vl lo->IsPart vu hi->r x lo hi H Q->
  ∃T id,typeLookup (.type T) "__getitem__"=pure (some (.builtin id))/\s.TypeIs v T/\wpAny (model X.prog X.w) X.A (getItem v (.ref sl)) (EP X pins σ Q) X.xe s
def tSl (r:V->Option Int->Option Int->Hp->VK->Prop)(te:TE)(tl th:TO):TE:=λσ H Q=>te σ H λx H1=>tl σ H1 λl H2=>th σ H2 λu H3=>r x l u H3 Q
theorem gG (hr:SlR X r)(he:PE X e te)(hl:PO X lo tl)(hu:PO X hi th):PE X (.Subscript e (.Slice lo hi none p2) pos) (tSl r te tl th):=by
 intro pins s σ H Q I h;refine Subscript_ (thn (he pins s σ H _ I h) λv s1 ⟨x,H1,I1,r1,q1⟩=>?_);refine wpAny_Slice (thn (hl pins s1 σ H1 _ I1 q1) λvl s2 ⟨l,H2,I2,pl,q2⟩=>thn (hu pins s2 σ H2 _ I2 q2) λvu s3 ⟨u,H3,I3,pu,q3⟩=>?_);rw[evalPart_none];refine wpAny_pure ?_;have I4:Inv X pins σ H3 { s3 with heap:=s3.heap.push { cls:=.type "slice",data:=.fields #[vl,vu,.none] } }:=I3.kept (t':=s3.toks) λb ob q=>Heap.get?_push_of_some _ q;obtain⟨T,id,hT,ht,hg⟩:=hr pins { s3 with heap:=s3.heap.push { cls:=.type "slice",data:=.fields #[vl,vu,.none] } } σ H3 x v vl vu l u s3.heap.objs.size Q I4 r1 (Heap.IsSliceOf.new ..) pl pu q3;show wpAny (model X.prog X.w) X.A (subscriptTail e (.Slice lo hi none p2) v (.ref s3.heap.objs.size)) (EP X pins σ Q) X.xe { s3 with heap:=s3.heap.push { cls:=.type "slice",data:=.fields #[vl,vu,.none] } };exact tail_any (ops:=[.ref s3.heap.objs.size,v]) ht hT hg (by with_unfolding_all rfl)
def jA (xs:List V)(lo hi:Option Int):List V:=(xs.drop (HT.sIx xs.length 0 lo)).take (HT.sIx xs.length xs.length hi - HT.sIx xs.length 0 lo)
theorem sY (xs:List V)(lo hi:Option Int):(jA xs lo hi).length<=xs.length:=by
 unfold jA;exact Nat.le_trans (length_take_le' _ _) (by rw[length_drop];exact Nat.sub_le _ _)
inductive qn4 (K:Frag) (x:V) (lo:Option Int) (hi:Option Int) (H:Hp) (Q:VK):Prop where
 |mk (a xs):x=.ref a->SqT K H a xs->(¬(HT.sIx xs.length 0 lo=0/\HT.sIx xs.length xs.length hi=xs.length))->(∀p,H p=none->Q (.ref p) (upd H p (.tup (jA xs lo hi))))->qn4 K x lo hi H Q
theorem Sf:SlR X (qn4 X.K):=by
 intro pins s σ H x v vl vu lo hi sl Q I rx hs pl pu h;obtain⟨a,xs,rfl,hx,hw,q⟩:=h
 cases rx
 obtain⟨its,r,ht,hz⟩:=I.tuple hx;have hlen:its.toArray.size=xs.length:=by rw[size_toArray];exact r.length.symm
 exists "tuple",_,PyProof.Rows.slot_tuple_getitem.lookup,ht.typeIs,?_;refine HT.getItem_tuple_cut ht hs pl pu (by rw[hlen];exact hw) ?_ (by rw[hlen];exact hz);rw[hlen];exists .ref s.heap.objs.size,_,I.laid (t':=s.toks) (o:=.tup (jA xs lo hi)) (λb ob q=>Heap.get?_push_of_some _ q) (Nat.le_refl _) ?_,rfl,q _ (I.hok.fresh (Nat.le_refl _));exists Nat.le_trans (sY xs lo hi) hz,_,(r.drop (HT.sIx xs.length 0 lo)).take (HT.sIx xs.length xs.length hi - HT.sIx xs.length 0 lo),IsTup.new _ _
inductive Ue (K:Frag) (x:V) (y:V) (H:Hp) (Q:VK):Prop where
 |mk (a b xs ys):x=.ref a->y=.ref b->SqT K H a xs->SqT K H b ys->xs≠[]->xs.length+ys.length<=sizeLine->(ys=[]->Q (.ref a) H)->(ys≠[]->∀p,H p=none->Q (.ref p) (upd H p (.tup (xs++ys))))->Ue K x y H Q
theorem cA.nil_iff (r:cA xs us):us=[]↔xs=[]:=by
 cases r with
 |nil=>simp
 |cons _ _=>simp
theorem Ck:OpR X (binaryOp .Add) (Ue X.K):=by
 intro pins s σ H x y v u Q I rx ry h;obtain⟨a,b,xs,ys,rfl,rfl,ha,hb,hx,hz,q1,q2⟩:=h
 cases rx
 cases ry
 obtain⟨its,r1,p1,_⟩:=I.tuple ha;obtain⟨its2,r2,p2,_⟩:=I.tuple hb;refine HT.cat_tup p1 p2 (λz=>hx (r1.nil_iff.mp z)) (λz=>⟨.ref a,H,I,rfl,q1 (r2.nil_iff.mp z)⟩) (λz=>?_) (by rw[<- r1.length,<- r2.length];exact hz);exists .ref s.heap.objs.size,_,I.laid (t':=s.toks) (o:=.tup (xs++ys)) (λb ob q=>Heap.get?_push_of_some _ q) (Nat.le_refl _) ?_,rfl,q2 (λw=>z (r2.nil_iff.mpr w)) _ (I.hok.fresh (Nat.le_refl _));exists by rw[List.length_append];exact hz,_,r1.append r2,IsTup.new _ _
end
def ixN (n:Nat)(i:Int):Option Nat:=if 0<=i then (if i < n then some i.toNat else none) else if -(n:Int)<=i then some (i+n).toNat else none
def atI {α:Type}(xs:List α)(i:Int):Option α:=(ixN xs.length i).bind λj=>xs[j]?
theorem Kb (h:ixN n i=some j):seqIndex? i n=some j/\j < n/\-(n:Int)<=i/\i < n:=by
 unfold ixN at h
 by_cases h0:0<=i
 .rw[if_pos h0] at h
  by_cases h1:i < n
  .rw[if_pos h1] at h;have e:i.toNat=j:=Option.some.inj h;exists by rw[seqIndex_of h0 h1,e],(),(),h1
  .rw[if_neg h1] at h;cases h
 .rw[if_neg h0] at h
  by_cases h1:-(n:Int)<=i
  .rw[if_pos h1] at h;have e:(i+n).toNat=j:=Option.some.inj h;exists by rw[seqIndex_neg () h1,e],(),h1,()
  .rw[if_neg h1] at h;cases h
theorem Kf (h:atI xs i=some v):∃j,seqIndex? i xs.length=some j/\xs[j]?=some v/\j < xs.length/\-(xs.length:Int)<=i/\i < xs.length:=by
 unfold atI at h
 cases e:ixN xs.length i with
 |none=>rw[e] at h;cases h
 |some j=>
  rw[e] at h;obtain⟨h1,h2,h3,h4⟩:=Kb e;exists j,h1,h,h2,h3,h4
theorem bY {xs:List α}{j:Nat}{v:α}(h:xs[j]?=some v):atI xs (j:Int)=some v:=by
 have hj:j < xs.length:=(List.getElem?_eq_some_iff.mp h).1;have e:ixN xs.length (j:Int)=some j:=by
  unfold ixN;rw[if_pos (),if_pos ()];simp
 unfold atI;rw[e];exact h
theorem Ro (xs:List α)(v:α):atI (xs++[v]) (-1)=some v:=by
 have hl:(xs++[v]).length=xs.length+1:=by simp
 have e:ixN (xs++[v]).length (-1)=some xs.length:=by
  unfold ixN;rw[hl,if_neg ∅,if_pos ()];congr 1;lia
 unfold atI;rw[e];show (xs++[v])[xs.length]?=some v;simp
def Us (b:Expr):Prop:=∀o i,subscripted b false o i=operate [o,i] (getItem o i)
def IxR (X:Cx)(r:R2):Prop:=
 ∀(value slice:Expr) (pins:List (Addr × Obj)) (s:Shared) (σ:St) (H:Hp) (x y:V) (v u:Value) (Q:VK),Inv X pins σ H s->cL x v->cL y u->r x y H Q->
  subscripted slice false v u=operate [v,u] (getItem v u)->wpAny (model X.prog X.w) X.A (subscriptTail value slice v u) (EP X pins σ Q) X.xe s
def MtR (X:Cx)(id:String)(r:V->List V->Hp->VK->Prop):Prop:=
 ∀(pins:List (Addr × Obj)) (s:Shared) (σ:St) (H:Hp) (x:V) (xs:List V) (v:Value) (us:List Value) (Q:VK),Inv X pins σ H s->cL x v->cA xs us->r x xs H Q->
  wpAny (model X.prog X.w) X.A (call (.builtin id) (v :: us)) (EP X pins σ Q) X.xe s
section
variable {X:Cx} {a b:Expr} {ta tb:TE} {pos:Pos}
theorem aS (hr:IxR X r)(ha:PE X a ta)(hb:PE X b tb)(hs:Us b):PE X (.Subscript a b pos) (tOp r ta tb):=by
 intro pins s σ H Q I h;exact Subscript_ (qc2 ha hb I h λv u s2 x y H2 I2 rx ry q=>hr a b pins s2 σ H2 x y v u Q I2 rx ry q (hs _ _))
inductive Zr (K:Frag) (x:V) (y:V) (H:Hp) (Q:VK):Prop where
 |mk (p xs i v):x=.ref p->y=.int i->SqL K H p xs->atI xs i=some v->Q v H->Zr K x y H Q
inductive Qs (K:Frag) (x:V) (y:V) (H:Hp) (Q:VK):Prop where
 |mk (p xs i v):x=.ref p->y=.int i->SqT K H p xs->atI xs i=some v->Q v H->Qs K x y H Q
theorem bS:IxR X (Zr X.K):=by
 intro value slice pins s σ H x y v u Q I rx ry h hs;obtain⟨p,xs,i,z,rfl,rfl,hq,he,q⟩:=h
 cases rx
 obtain⟨t,rfl⟩:=ry;obtain⟨its,r,pl,hz⟩:=I.list hq;obtain⟨j,h1,h2,h3,h4,h5⟩:=Kf he;obtain⟨w,ew,rw'⟩:=r.get h2;have hl:=r.length;have hn:=Cc;have fin:EP X pins σ Q w s:=⟨z,H,I,rw',q⟩
 by_cases h0:0<=i
 .have hj:i.toNat=j:=by
   rw[seqIndex_of h0 h5] at h1;exact Option.some.inj h1
  exact item_listR pl.isList h0 () (by rw[hj];simpa using ew) fin hs
 .have hj:(i+(its.toArray.size:Int)).toNat=j:=by
   rw[seqIndex_neg () h4] at h1;rw[size_toArray,<- hl];exact Option.some.inj h1
  exact subscriptTail_builtinR (x:=w) pl.isList.typeIs slot_list_getitem.lookup
   (wpAny_getItem_list_neg (Q:=λr s'=>r=w/\EP X pins σ Q r s') pl.isList () (by rw[size_toArray]<;>lia) () (by rw[hj];simpa using ew) ⟨rfl,fin⟩) hs
theorem aZ:IxR X (Qs X.K):=by
 intro value slice pins s σ H x y v u Q I rx ry h hs;obtain⟨p,xs,i,z,rfl,rfl,hq,he,q⟩:=h
 cases rx
 obtain⟨t,rfl⟩:=ry;obtain⟨its,r,pl,hz⟩:=I.tuple hq;obtain⟨j,h1,h2,h3,h4,h5⟩:=Kf he;obtain⟨w,ew,rw'⟩:=r.get h2;have hl:=r.length;have hn:=Cc;have fin:EP X pins σ Q w s:=⟨z,H,I,rw',q⟩
 exact subscriptTail_builtinR (x:=w) pl.typeIs slot_tuple_getitem.lookup
  (getItem_tuple (j:=j) (Q:=λr s'=>r=w/\EP X pins σ Q r s') pl () () (by rw[size_toArray,<- hl];exact h1) (by simpa using ew) ⟨rfl,fin⟩) hs
theorem Ja (its:List Value)(n j:Nat)(u:Value):Obj.mapSeq (·.setIfInBounds j u) { cls:=.type "list",data:=.seq its.toArray n }={ cls:=.type "list",data:=.seq (its.set j u).toArray n }:=by
 simp[Obj.mapSeq]
theorem Inv.lst (I:Inv X pins σ H s)(h:H p=some (.lst xs)):
  ∃(its:List Value) (n:Nat),cA xs its/\s.heap.get? p=some { cls:=.type "list",data:=.seq its.toArray n }/\xs.length<=sizeLine:=by
 obtain⟨z,its,n,r,e⟩:=I.hok p _ h;exists its,n,r,e,z
theorem Inv.lstUpd {its its':List Value}(I:Inv X pins σ H s)(h:H p=some (.lst xs))(ho:s.heap.get? p=some { cls:=.type "list",data:=.seq its.toArray n })(hf:f { cls:=.type "list",data:=.seq its.toArray n }={ cls:=.type "list",data:=.seq its'.toArray n' })(r:cA ys its')(hz:ys.length<=sizeLine)(t:Nat):
  Inv X pins σ (upd H p (.lst ys)) { s with heap:=s.heap.update p f,toks:=t }:=by
 have e:(s.heap.update p f).get? p=some { cls:=.type "list",data:=.seq its'.toArray n' }:=by
  rw[Heap.get?_update_self f ho (by rw[hf]<;>rfl),hf]
 refine I.write (x:=p) (e:=p) (by rw[h];trivial) (.inl rfl) (λb u hb q=>(Heap.get?_update_other _ _ (Ne.symm hb)).trans q) ⟨_,e⟩ ?_;exists hz,its',n',r,e
def qp0:V->V->V->Hp->(Hp->Prop)->Prop:=λo i v H Q=>∃p xs k j,o=.ref p/\i=.int k/\H p=some (.lst xs)/\ixN xs.length k=some j/\Q (upd H p (.lst (xs.set j v)))
theorem jD:qk0 X qp0:=by
 intro pins s σ H o i v ov iv u Q I ro ri rv h;obtain⟨p,xs,k,j,rfl,rfl,hp,hj,q⟩:=h
 cases ro
 obtain⟨t,rfl⟩:=ri;obtain⟨its,n,r,ho,hz⟩:=I.lst hp;obtain⟨h1,h2,h3,h4⟩:=Kb hj;have hl:=r.length;have hn:=Cc;have I':Inv X pins σ (upd H p (.lst (xs.set j v))) { s with heap:=s.heap.update p (Obj.mapSeq (·.setIfInBounds j u)) }:=
  I.lstUpd hp ho (Ja its n j u) (r.set rv j) (by rw[length_set];exact hz) s.toks
 by_cases h0:0<=k
 .have hk:k.toNat=j:=by
   rw[seqIndex_of h0 h4] at h1;exact Option.some.inj h1
  exact W.ki_setAt ho h0 () (by rw[size_toArray,<- hl];exact h4) (by rw[hk];exact⟨_,I',q⟩)
 .have hk:(k+(its.toArray.size:Int)).toNat=j:=by
   rw[seqIndex_neg () h3] at h1;rw[size_toArray,<- hl];exact Option.some.inj h1
  exact W.ki_setBack ho () (by rw[size_toArray,<- hl];exact h3) () (by rw[hk];exact⟨_,I',q⟩)
theorem sbA (lo hi:Option Int)(n:Nat):(sliceBounds lo hi none n).1=((HT.sIx n 0 lo:Nat):Int):=by
 cases lo with
 |none=>simp[sliceBounds,HT.sIx]
 |some i=>
  simp only[sliceBounds,HT.sIx,Option.getD_none,show (1:Int) > 0 by decide,if_true]
  by_cases h:i < 0
  .simp only[h,if_true]<;>lia
  .simp only[h,if_false]<;>lia
theorem zX (lo hi:Option Int)(n:Nat):(sliceBounds lo hi none n).1=((HT.sIx n 0 lo:Nat):Int)/\(sliceBounds lo hi none n).2.1=((HT.sIx n n hi:Nat):Int)/\(sliceBounds lo hi none n).2.2=1:=by
 exists sbA lo hi n,?_,rfl
 cases hi with
 |none=>simp[sliceBounds,HT.sIx]
 |some i=>exact sbA (some i) lo n
theorem xO (its:List Value)(lo hi:Option Int):slicePick its.toArray lo hi none=((its.drop (HT.sIx its.length 0 lo)).take (HT.sIx its.length its.length hi - HT.sIx its.length 0 lo)).toArray:=by
 obtain⟨h1,h2,h3⟩:=zX lo hi its.toArray.size;unfold slicePick;rw[h1,h2,h3];simp only[sliceRange_one,pick_run,size_toArray]<;>rfl
inductive qc9 (K:Frag) (x:V) (lo:Option Int) (hi:Option Int) (H:Hp) (Q:VK):Prop where
 |mk (a xs):x=.ref a->SqL K H a xs->(∀p,H p=none->Q (.ref p) (upd H p (.lst (jA xs lo hi))))->qc9 K x lo hi H Q
theorem kP:SlR X (qc9 X.K):=by
 intro pins s σ H x v vl vu lo hi sl Q I rx hs pl pu h;obtain⟨a,xs,rfl,hx,q⟩:=h
 cases rx
 obtain⟨its,r,ht,hz⟩:=I.list hx;have hlen:=r.length;exists "list",_,slot_list_getitem.lookup,ht.isList.typeIs,?_;refine wpAny_getItem_list_slice ht.isList hs pl pu .none ⋯ ?_ (by rw[size_toArray]<;>lia);rw[xO,<- hlen];exists .ref s.heap.objs.size,_,I.laid (t':=s.toks) (o:=.lst (jA xs lo hi)) (λb ob q=>Heap.get?_push_of_some _ q) (Nat.le_refl _) ?_,rfl,q _ (I.hok.fresh (Nat.le_refl _));exists Nat.le_trans (sY xs lo hi) hz,_,0,(r.drop (HT.sIx xs.length 0 lo)).take (HT.sIx xs.length xs.length hi - HT.sIx xs.length 0 lo),Heap.get?_push_size _ rfl
def oO:V->Bool
 | .non=>true
 | .bl _=>true
 | .int _=>true
 | .str _=>true
 |_=>false
def eqV:V->V->Bool
 | .non,.non=>true
 | .bl a,.bl b=>a == b
 | .bl a,.int b=>(if a then 1 else 0) == b
 | .int a,.bl b=>a == (if b then 1 else 0)
 | .int a,.int b=>a == b
 | .str a,.str b=>a == b
 |_,_=>false
theorem Zn (ry:cL y u)(rx:cL x v)(fy:oO y=true)(fx:oO x=true):SeqAt.EqAt A s u v (eqV y x):=by
 cases y with
 |non=>
  cases ry
  cases x with
  |non=>cases rx;exact SeqAt.EqAt.same _
  |bl b=>cases rx;exact SeqAt.EqAt.none_bool b
  |int b=>obtain⟨t,rfl⟩:=rx;exact SeqAt.EqAt.none_int b t
  |str b=>obtain⟨t,rfl⟩:=rx;exact SeqAt.EqAt.none_str b t
  |_=>exact absurd (show false=true from fx) Bool.false_ne_true
 |bl a=>
  cases ry
  cases x with
  |non=>cases rx;exact SeqAt.EqAt.bool_none a
  |bl b=>cases rx;exact SeqAt.EqAt.bool_bool a b
  |int b=>obtain⟨t,rfl⟩:=rx;exact SeqAt.EqAt.bool_int a b t
  |str b=>obtain⟨t,rfl⟩:=rx;exact SeqAt.EqAt.bool_str a b t
  |_=>exact absurd (show false=true from fx) Bool.false_ne_true
 |int a=>
  obtain⟨t',rfl⟩:=ry
  cases x with
  |non=>cases rx;exact SeqAt.EqAt.int_none a t'
  |bl b=>cases rx;exact SeqAt.EqAt.int_bool a t' b
  |int b=>obtain⟨t,rfl⟩:=rx;exact SeqAt.EqAt.int_int a t' b t
  |str b=>obtain⟨t,rfl⟩:=rx;exact SeqAt.EqAt.int_str a t' b t
  |_=>exact absurd (show false=true from fx) Bool.false_ne_true
 |str a=>
  obtain⟨t',rfl⟩:=ry
  cases x with
  |non=>cases rx;exact SeqAt.EqAt.str_none a t'
  |bl b=>cases rx;exact SeqAt.EqAt.str_bool a t' b
  |int b=>obtain⟨t,rfl⟩:=rx;exact SeqAt.EqAt.str_int a t' b t
  |str b=>obtain⟨t,rfl⟩:=rx;exact SeqAt.EqAt.str_str a t' b t
  |_=>exact absurd (show false=true from fx) Bool.false_ne_true
 |_=>exact absurd (show false=true from fy) Bool.false_ne_true
def eqU (x:V)(u:Value):Bool:=match u with
 | .none=>eqV .non x
 | .bool b=>eqV (.bl b) x
 | .int i _=>eqV (.int i) x
 | .str z _=>eqV (.str z) x
 |_=>false
theorem Rq (r:cL y u)(f:oO y=true):eqU x u=eqV y x:=by
 cases y with
 |non=>cases r;rfl
 |bl b=>cases r;rfl
 |int i=>obtain⟨t,rfl⟩:=r;rfl
 |str z=>obtain⟨t,rfl⟩:=r;rfl
 |_=>exact absurd (show false=true from f) Bool.false_ne_true
theorem qK:∀{xs:List V} {us:List Value},cA xs us->xs.all oO=true->us.any (eqU x)=xs.any λy=>eqV y x
 |_,_,.nil,_=>rfl
 |y :: xs,u :: us,.cons r t,f=>by
  rw[all_cons,Bool.and_eq_true] at f;rw[any_cons,any_cons,Rq r f.1,qK t f.2]
theorem mZ (rx:cL x v)(fx:oO x=true):∀{xs:List V} {us:List Value},cA xs us->xs.all oO=true->∀u∈us,SeqAt.EqAt A s u v (eqU x u)
 |_,_,.nil,_=>λu hu=>by cases hu
 |y :: xs,u :: us,.cons r t,f=>λu' hu=>by
  rw[all_cons,Bool.and_eq_true] at f;rcases mem_cons.mp hu with rfl | hu
  .rw[Rq r f.1];exact Zn r rx f.1 fx
  .exact mZ rx fx t f.2 u' hu
def inV (x:V)(xs:List V):Bool:=xs.any λy=>eqV y x
inductive rIn (K:Frag) (neg:Bool) (x:V) (y:V) (H:Hp) (Q:VK):Prop where
 |mk (p xs):y=.ref p->(SqL K H p xs\/SqT K H p xs)->oO x=true->xs.all oO=true->Q (.bl (if neg then !inV x xs else inV x xs)) H->rIn K neg x y H Q
theorem Lz:OpR X (compareOp .In) (rIn X.K false):=by
 intro pins s σ H x y v u Q I rx ry h;obtain⟨p,xs,rfl,hq,fx,fs,q⟩:=h
 cases ry
 rcases hq with hq | hq
 .obtain⟨its,r,pl,hz⟩:=I.list hq;refine SeqAt.in_listAt (eqU x) pl.isList (λw hw=>mZ rx fx r fs w (by simpa using hw)) ⟨.bl _,H,I,rfl,?_⟩;rw[show its.toArray.any (eqU x)=its.any (eqU x) by simp,qK r fs];exact q
 .obtain⟨its,r,pl,hz⟩:=I.tuple hq;refine SeqAt.in_tupleAt (eqU x) pl (λw hw=>mZ rx fx r fs w (by simpa using hw)) ⟨.bl _,H,I,rfl,?_⟩;rw[show its.toArray.any (eqU x)=its.any (eqU x) by simp,qK r fs];exact q
theorem Cq:OpR X (compareOp .NotIn) (rIn X.K true):=by
 intro pins s σ H x y v u Q I rx ry h;obtain⟨p,xs,rfl,hq,fx,fs,q⟩:=h
 cases ry
 rcases hq with hq | hq
 .obtain⟨its,r,pl,hz⟩:=I.list hq;refine SeqAt.notIn_listAt (eqU x) pl.isList (λw hw=>mZ rx fx r fs w (by simpa using hw)) ⟨.bl _,H,I,rfl,?_⟩;rw[show its.toArray.any (eqU x)=its.any (eqU x) by simp,qK r fs];exact q
 .obtain⟨its,r,pl,hz⟩:=I.tuple hq;refine SeqAt.notIn_tupleAt (eqU x) pl (λw hw=>mZ rx fx r fs w (by simpa using hw)) ⟨.bl _,H,I,rfl,?_⟩;rw[show its.toArray.any (eqU x)=its.any (eqU x) by simp,qK r fs];exact q
theorem bC:kI X (.builtin "len") (λxs H Q=>∃p ys,xs=[.ref p]/\(SqL X.K H p ys\/SqT X.K H p ys)/\Q (.int ys.length) H):=by
 intro pins s σ H xs us Q I r h;obtain⟨p,ys,rfl,hq,q⟩:=h;obtain⟨u,rfl,rx⟩:=lS r
 cases rx
 have hn:=Cc;rcases hq with hq | hq
 .obtain⟨its,r',pl,hz⟩:=I.list hq;have hlen:=r'.length;exact Calls.call_len_list pl.isList (by simp only[size_toArray]<;>lia) ⟨.int ys.length,H,I.tok _,⟨s.toks+1,by rw[size_toArray,hlen]⟩,q⟩
 .obtain⟨its,r',pl,hz⟩:=I.tuple hq;have hlen:=r'.length;exact len_tuple pl (by simp only[size_toArray]<;>lia) ⟨.int ys.length,H,I.tok _,⟨s.toks+1,by rw[size_toArray,hlen]⟩,q⟩
theorem cO:kI X (.type "list") (λxs H Q=>∃p ys,xs=[.ref p]/\(SqL X.K H p ys\/SqT X.K H p ys)/\∀l,H l=none->Q (.ref l) (upd H l (.lst ys))):=by
 intro pins s σ H xs us Q I r h;obtain⟨p,ys,rfl,hq,q⟩:=h;obtain⟨u,rfl,rx⟩:=lS r
 cases rx
 have fin:∀(its:List Value),cA ys its->ys.length<=sizeLine->∀(h':Heap) (c':Nat),(∀b o',s.heap.get? b=some o'->h'.get? b=some o')->
   h'.get? s.heap.objs.size=some { cls:=.type "list",dict:=none,data:=.seq its.toArray c',slots:=#[] }->EP X pins σ Q (.ref s.heap.objs.size) { s with heap:=h' }:=λits r' hz h' c' kp e=>
  ⟨.ref s.heap.objs.size,_,I.laid (t':=s.toks) kp (Nat.le_refl _) (show cY X.prog X.w _ h' _ (.lst ys) from ⟨hz,its,c',r',e⟩),rfl,q _ (I.hok.fresh (Nat.le_refl _))⟩
 rcases hq with hq | hq
 .obtain⟨its,r',pl,hz⟩:=I.list hq;have hlen:=r'.length;obtain⟨o,ho,hc,n,hd⟩:=pl.isList;exact call_list_seq p (.inl rfl) ho hc hd (λh' c' kp e=>fin its r' hz h' c' kp e) (by simp only[size_toArray]<;>lia)
 .obtain⟨its,r',pl,hz⟩:=I.tuple hq;have hlen:=r'.length;obtain⟨o,ho,hc,n,hd⟩:=pl;exact call_list_seq p (.inr rfl) ho hc hd (λh' c' kp e=>fin its r' hz h' c' kp e) (by simp only[size_toArray]<;>lia)
theorem xI:kI X (.type "tuple") (λxs H Q=>∃p ys,xs=[.ref p]/\((SqL X.K H p ys/\∀l,H l=none->Q (.ref l) (upd H l (.tup ys)))\/(SqT X.K H p ys/\Q (.ref p) H))):=by
 intro pins s σ H xs us Q I r h;obtain⟨p,ys,rfl,h⟩:=h;obtain⟨u,rfl,rx⟩:=lS r
 cases rx
 rcases h with ⟨hq,q⟩ | ⟨hq,q⟩
 .obtain⟨its,r',pl,hz⟩:=I.list hq;have hlen:=r'.length;refine call_tuple_list pl.isList (λh' kp=>?_) (by simp only[size_toArray]<;>lia);have I1:Inv X pins σ H { s with heap:=h' }:=I.kept (t':=s.toks) kp;have I2:Inv X pins σ (upd H h'.objs.size (.tup ys)) { s with heap:=h'.push { cls:=.type "tuple",data:=.seq its.toArray } }:=
   I1.laid (t':=s.toks) (λb o e=>Heap.get?_push_of_some _ e) (Nat.le_refl _) (show cY X.prog X.w _ _ _ (.tup ys) from ⟨hz,its,r',IsTup.new _ _⟩)
  exists .ref h'.objs.size,_,I2,rfl,q _ (I1.hok.fresh (Nat.le_refl _))
 .obtain⟨its,r',pl,hz⟩:=I.tuple hq;exact call_tuple_same pl ⟨.ref p,H,I,rfl,q⟩
def tyV (K:Frag)(T:String)(x:V)(H:Hp):Prop:=match x with
 | .str _=>T = "str"
 | .int _=>T = "int"
 | .ref p=>(T = "list"/\∃xs,SqL K H p xs)\/(T = "tuple"/\∃o,K.lookup p=some o/\o.cls=.type "tuple"/\o.dict=none)\/
   (T = "dict"/\((∃kvs,H p=some (.dK kvs))\/∃kvs,H p=some (.dT kvs)))\/(T = "set"/\∃S n,H p=some (.set S n))
 |_=>False
theorem Sm (I:Inv X pins σ H s)(r:cL x v)(ty:tyV X.K T x H):
  s.TypeIs v T/\∀a,v=.ref a->∃ob,s.heap.get? a=some ob/\ob.dict=none:=by
 cases x with
 |str z=>
  obtain⟨t,rfl⟩:=r
  cases (show T = "str" from ty)
  exists typeIs_str s z t,λ_ e=>nomatch e
 |int i=>
  obtain⟨t,rfl⟩:=r
  cases (show T = "int" from ty)
  exists typeIs_int s i t,λ_ e=>nomatch e
 |ref p=>
  cases r
  rcases ty with ⟨rfl,xs,hq⟩ | ⟨rfl,o,hk,hc,hd⟩ | ⟨rfl,hk⟩ | ⟨rfl,S,n,hk⟩
  .obtain⟨its,_,pl,_⟩:=I.list hq;exists pl.isList.typeIs,λa e=>?_
   cases e
   obtain⟨o,n,e,c,hd,_⟩:=pl;exists o,e,hd
  .exists ⟨o,I.kIn p o hk,hc⟩,λa e=>?_
   cases e
   exists o,I.kIn _ o hk,hd
  .have z:∃o,s.heap.get? p=some o/\o.ExactDict:=by
    rcases hk with ⟨kvs,hk⟩ | ⟨kvs,hk⟩
    .obtain⟨_,_,_,_,o,_,_,e,ex,_⟩:=I.hok p _ hk;exists o,e,ex
    .obtain⟨_,_,_,_,o,_,_,e,ex,_⟩:=I.hok p _ hk;exists o,e,ex
   obtain⟨o,e,ex⟩:=z;exists ⟨o,e,ex.1⟩,λa e2=>?_
   cases e2
   exists o,e,ex.2.1
  .obtain⟨o,_,_,_,e,ex,_⟩:=I.hok p _ hk;exists ⟨o,e,ex.1⟩,λa e2=>?_
   cases e2
   exists o,e,ex.2.1
 |_=>exact False.elim ty
def qs2 (K:Frag)(T:String)(r:V->List V->Hp->VK->Prop)(to:TE):TE:=λσ H Q=>to σ H λx H1=>tyV K T x H1/\r x [] H1 Q
def tBM (K:Frag)(T:String)(r:V->List V->Hp->VK->Prop)(to:TE)(t:TA):TE:=λσ H Q=>to σ H λx H1=>tyV K T x H1/\t σ H1 λxs H2=>r x xs H2 Q
variable {o e:Expr} {es:List Expr} {to:TE} {t:TA} {name:Str} {apos cpos:Pos} {T id:String} {r:V->List V->Hp->VK->Prop}
theorem qi1 (pa:PlainAttrs T)(slot:Slot T name id)(hty:typeOf (.builtin id)=pure (.type "method_descriptor"))(hm:MtR X id r)(ho:PE X o to)(hbase:attributeBase o name X.env (eval o X.env)=eval o X.env:=by rfl)(hline:(apos.endLine == cpos.line)=true:=by rfl):PE X (.Call (.Attribute o name apos) [] [] cpos) (qs2 X.K T r to):=by
 intro pins s σ H Q I h;refine wpAny_Call_method0_late hbase hline (thn (ho pins s σ H _ I h) λv s1 ⟨x,H1,I1,r1,ty,q1⟩=>?_);obtain⟨h1,h2⟩:=Sm I1 r1 ty;exists T,id,pa,slot,hty,h1,h2,Calls.callWith_builtin rfl (PySem.evalArgs_none (hm pins s1 σ H1 x [] v [] Q I1 r1 .nil q1))
theorem oQ (pa:PlainAttrs T)(slot:Slot T name id)(hty:typeOf (.builtin id)=pure (.type "method_descriptor"))(hm:MtR X id r)(ho:PE X o to)(ha:PA X (e :: es) t)(hbase:attributeBase o name X.env (eval o X.env)=eval o X.env:=by rfl)(hfew:((backTo cpos (starEach (e :: es) X.env)).all (λx=>!x.1) && (backToKw cpos (keywordEach [] X.env)).all (λx=>x.1.isSome)
   && decide ((e :: es).length+([]:List Keyword).length+(if ([]:List Keyword).isEmpty then 0 else 1) < 30))=true:=by rfl)(hline:(apos.endLine == cpos.line)=true:=by rfl)(hs:starEach (e :: es) X.env=(false,eval e X.env) :: starEach es X.env:=by rfl)(hplain:(backTo cpos (starEach es X.env)).any (·.1)=false:=by rfl) :
  PE X (.Call (.Attribute o name apos) (e :: es) [] cpos) (tBM X.K T r to t):=by
 intro pins s σ H Q I h;refine wpAny_Call_method_late hbase hfew hline rfl (thn (ho pins s σ H _ I h) λv s1 ⟨x,H1,I1,r1,ty,q1⟩=>?_);obtain⟨h1,h2⟩:=Sm I1 r1 ty;exists T,id,pa,slot,hty,h1,h2,?_;have hA:=ha cpos pins s1 σ H1 _ I1 q1;rw[hs] at hA ⊢;refine Calls.callWith_builtin (by show (false || (backTo cpos (starEach es X.env)).any (·.1))=false;rw[hplain]<;>rfl) (Calls.evalArgs_plain ?_);exact thn hA λus s2 ⟨vs,H2,I2,r2,q2⟩=>hm pins s2 σ H2 x vs v us Q I2 r1 r2 q2
end
def MtM (X:Cx)(id:String)(r:V->List V->Hp->VK->Prop):Prop:=
 ∀(pins:List (Addr × Obj)) (s:Shared) (σ:St) (H:Hp) (x:V) (xs:List V) (v:Value) (us:List Value) (Q:VK),Inv X pins σ H s->cL x v->cA xs us->r x xs H Q->
  wpAny (model X.prog X.w) X.A (call (.builtin id) (v :: us)) (EP X pins σ Q) X.xe s
theorem cA.one:∀{x:V} {us:List Value},cA [x] us->∃u,us=[u]/\cL x u
 |_,_,.cons r .nil=>⟨_,rfl,r⟩
theorem cA.zero:∀{us:List Value},cA [] us->us=[]
 |_,.nil=>rfl
theorem cA.rep (h:cA xs us):∀k:Nat,cA (replicate k xs).flatten (replicate k us).flatten
 |0=>.nil
 |k+1=>by
  rw[replicate_succ,replicate_succ,flatten_cons,flatten_cons];exact cA.append h (cA.rep h k)
theorem xV (its:List Value):∀(k:Nat) (acc:List Value),
  foldl (λx1 x2=>x1++x2) acc.toArray (replicate k its.toArray)=(acc++(replicate k its).flatten).toArray
 |0,acc=>by simp
 |k+1,acc=>by
  have e:acc.toArray++its.toArray=(acc++its).toArray:=by simp
  have e2:(acc++its)++(replicate k its).flatten=acc++(replicate (k+1) its).flatten:=by
   rw[replicate_succ,flatten_cons,List.append_assoc]
  rw[<- e2,<- xV its k (acc++its),<- e,replicate_succ,foldl_cons]
section
variable {X:Cx} {pins:List (Addr × Obj)} {σ:St} {H:Hp} {s:Shared} {l b:Addr} {xs ys zs:List V}
theorem Inv.lset {its its':List Value}(I:Inv X pins σ H s)(hH:H l=some (.lst xs))(e:s.heap.get? l=some { cls:=.type "list",data:=.seq its.toArray n })(hf:f its.toArray=its'.toArray)(hv:cA ys its')(hz:ys.length<=sizeLine):
  Inv X pins σ (upd H l (.lst ys)) { s with heap:=s.heap.update l (Obj.mapSeq f),toks:=t' }:=by
 have q:=PySem.IsL.update e f;rw[hf] at q;refine I.write (x:=l) (e:=l) (by rw[hH];exact trivial) (.inl rfl) (λb' u hb hu=>(Heap.get?_update_other s.heap (Obj.mapSeq f) (Ne.symm hb)).trans hu) ⟨_,q⟩ ?_;exists hz,its',_,hv,q
theorem Inv.lnew (I:Inv X pins σ H s)(hv:cA ys its)(hz:ys.length<=sizeLine):
  Inv X pins σ (upd H s.heap.objs.size (.lst ys)) { s with heap:=s.heap.push { cls:=.type "list",data:=.seq its.toArray },toks:=t' }:=
 I.laid (λ_ _ q=>Heap.get?_push_of_some _ q) (Nat.le_refl _) ⟨hz,its,0,hv,Heap.get?_push_size _ rfl⟩
theorem Inv.fresh (I:Inv X pins σ H s):H s.heap.objs.size=none:=I.hok.fresh (Nat.le_refl _)
theorem Inv.lstM (I:Inv X pins σ H s)(hH:H l=some (.lst xs)):xs.length<=sizeLine/\∃(its:List Value) (n:Nat),cA xs its/\xs.length=its.length/\s.heap.get? l=some { cls:=.type "list",data:=.seq its.toArray n }:=by
 obtain⟨z,its,n,r,e⟩:=I.hok l _ hH;exists z,its,n,r,r.length,e
theorem Eg (h:n<=sizeLine):Builtin.List.listTooLong n=false:=by
 unfold Builtin.List.listTooLong;exact decide_eq_false ()
end
section
variable {X:Cx}
inductive Ls (x:V) (vs:List V) (H:Hp) (Q:VK):Prop where
 |mk (l xs y):x=.ref l->vs=[y]->H l=some (.lst xs)->xs.length < sizeLine->Q .non (upd H l (.lst (xs++[y])))->Ls x vs H Q
theorem gB:MtM X "list.append" Ls:=by
 intro pins s σ H x vs v us Q I rx rv h;obtain⟨l,xs,y,rfl,rfl,hH,hz,q⟩:=h
 cases rx
 obtain⟨u,rfl,ru⟩:=rv.one;obtain⟨z,its,n,r,hl,e⟩:=I.lstM hH;refine call_meets F.slot_list_append ⟨_,e,rfl⟩ F.entry_list_append (F.args_list_append_2 _ _) (PySem.list_append l its.toArray n u (by rw[size_toArray];lia)) ⟨e,?_⟩;exists .non,_,I.lset (its':=its++[u]) hH e ⋯ (r.append (.cons ru .nil)) ?_,rfl,q;rw[List.length_append,length_singleton];lia
inductive Lo (x:V) (vs:List V) (H:Hp) (Q:VK):Prop where
 |mk (l b xs zs):x=.ref l->vs=[.ref b]->H l=some (.lst xs)->H b=some (.lst zs)->xs.length+zs.length<=sizeLine->Q .non (upd H l (.lst (xs++zs)))->Lo x vs H Q
theorem Mj:MtM X "list.extend" Lo:=by
 intro pins s σ H x vs v us Q I rx rv h;obtain⟨l,b,xs,zs,rfl,rfl,hH,hB,hz,q⟩:=h
 cases rx
 obtain⟨u,rfl,ru⟩:=rv.one
 cases ru
 obtain⟨z,its,n,r,hl,e⟩:=I.lstM hH;obtain⟨z2,its2,n2,r2,hl2,e2⟩:=I.lstM hB;have hsz:its.toArray.size+its2.toArray.size<=sizeLine:=by rw[size_toArray,size_toArray];lia
 have hlong:¬(!its.toArray.isEmpty && Builtin.List.listTooLong (its.toArray.size+its2.toArray.size))=true:=by
  rw[Eg hsz,Bool.and_false];exact Bool.false_ne_true
 refine call_meets F.slot_list_extend ⟨_,e,rfl⟩ F.entry_list_extend (F.args_list_extend_2 _ _)
  (AutoSeq1.list_extend_list_list_0 l its.toArray n b its2.toArray n2 hlong (by rw[size_toArray];lia) ()) ⟨e,e2,?_⟩
 exists .non,_,I.lset (its':=its++its2) hH e ⋯ (r.append r2) ?_,rfl,q;rw[List.length_append];lia
inductive Rj (x:V) (vs:List V) (H:Hp) (Q:VK):Prop where
 |mk (l xs):x=.ref l->vs=[]->H l=some (.lst xs)->Q .non (upd H l (.lst []))->Rj x vs H Q
theorem Qt:MtM X "list.clear" Rj:=by
 intro pins s σ H x vs v us Q I rx rv h;obtain⟨l,xs,rfl,rfl,hH,q⟩:=h
 cases rx
 have hus:=rv.zero;subst hus;obtain⟨z,its,n,r,hl,e⟩:=I.lstM hH;refine call_meets F.slot_list_clear ⟨_,e,rfl⟩ F.entry_list_clear (F.args_list_clear_1 _) (AutoSeq1.list_clear_list_0 l its.toArray n (by rw[size_toArray];lia)) ⟨e,?_⟩;exists .non,_,I.lset (its':=[]) (ys:=[]) hH e rfl .nil (Nat.zero_le _),rfl,q
inductive qm3 (x:V) (y:V) (H:Hp) (Q:VK):Prop where
 |mk (l b xs zs):x=.ref l->y=.ref b->H l=some (.lst xs)->H b=some (.lst zs)->xs.length+zs.length<=sizeLine->(∀p,H p=none->Q (.ref p) (upd H p (.lst (xs++zs))))->qm3 x y H Q
theorem mQ:OpR X (binaryOp .Add) qm3:=by
 intro pins s σ H x y v u Q I rx ry h;obtain⟨l,b,xs,zs,rfl,rfl,hH,hB,hz,q⟩:=h
 cases rx
 cases ry
 obtain⟨z,its,n,r,hl,e⟩:=I.lstM hH;obtain⟨z2,its2,n2,r2,hl2,e2⟩:=I.lstM hB;refine PySem.P.add_list e e2 ?_ (by rw[size_toArray,size_toArray];lia);have ea:its.toArray++its2.toArray=(its++its2).toArray:=by simp
 rw[ea];exists .ref _,_,I.lnew (t':=s.toks) (r.append r2) (by rw[List.length_append];lia),rfl,q _ I.fresh
inductive qo4 (x:V) (y:V) (H:Hp) (Q:VK):Prop where
 |mk (l k xs):x=.ref l->y=.int k->H l=some (.lst xs)->-(2 ^ 63)<=k->k < 2 ^ 63->xs.length*k.toNat<=sizeLine->(∀p,H p=none->Q (.ref p) (upd H p (.lst (replicate k.toNat xs).flatten)))->qo4 x y H Q
theorem Xs {α:Type}(xs:List α)(k:Nat):(replicate k xs).flatten.length=k*xs.length:=by
 induction k with
 |zero=>simp
 |succ k ih=>rw[replicate_succ,flatten_cons,List.length_append,ih,Nat.succ_mul,Nat.add_comm]
theorem Ap:OpR X (binaryOp .Mult) qo4:=by
 intro pins s σ H x y v u Q I rx ry h;obtain⟨l,k,xs,rfl,rfl,hH,h1,h2,hz,q⟩:=h
 cases rx
 obtain⟨t,rfl⟩:=ry;obtain⟨z,its,n,r,hl,e⟩:=I.lstM hH;have hlen:its.toArray.size*k.toNat<=sizeLine:=by rw[size_toArray,<- hl];exact hz
 have hcap:¬its.toArray.size*k.toNat > (2 ^ 63 - 1) / 8:=by
  have:(sizeLine:Nat)<=(2 ^ 63 - 1) / 8:=by decide
  lia
 have hfit:¬(!Builtin.List.listFitsIndex k)=true:=by
  rw[fitsIndex_both h1 h2];exact Bool.false_ne_true
 have hlong:¬Builtin.List.listTooLong (its.toArray.size*k.toNat)=true:=by
  rw[Eg hlen];exact Bool.false_ne_true
 have hnew:foldl (λx1 x2=>x1++x2) #[] (replicate (if its.toArray.isEmpty=true then 0 else k.toNat) its.toArray)=(replicate k.toNat its).flatten.toArray:=by
  have f0:∀m:Nat,foldl (λx1 x2=>x1++x2) #[] (replicate m its.toArray)=(replicate m its).flatten.toArray:=λm=>by
   have:=xV its m [];rw[nil_append] at this;exact this
  rw[f0]
  cases its with
  |nil=>simp
  |cons a r'=>rw[if_neg ⋯]
 refine wpAny_binaryOp_repeat_ref (T:="list") (U:="int") ∅ ⟨_,e,rfl⟩ (λs'=>typeIs_int s' k t) noFill_list_mul F.fills_int_mul F.slot_int_rmul repeat_list F.slot_int_index.lookup
  (call_meets F.slot_int_rmul (typeIs_int s k t) F.entry_int_rmul (F.args_int_rmul_2 _ _) (int___rmul___int_list k t l its.toArray n)
   ⟨e,rfl,⟨_,e,rfl⟩,call_meets F.slot_list_mul ⟨_,e,rfl⟩ F.entry_list_mul (F.args_list_mul_2 _ _) (AutoListH.list___mul___list_int_3 l its.toArray n k t hfit hcap hlong) ⟨e,?_⟩⟩)
 rw[hnew];exists .ref _,_,I.lnew (t':=s.toks) (r.rep k.toNat) (by rw[Xs,Nat.mul_comm];exact hz),rfl,q _ I.fresh
end
end L2
namespace Att
open PySem PySem.W PySem.Calls PyProof.Rows
theorem tU:∀(ns:List Int) (vs:List Value),WellAll P h vs (ns.map WData.int)->IntsAre vs ns:=by
 intro ns
 induction ns with
 |nil=>
  intro vs w;rw[map_nil] at w
  cases w
  exact .nil
 |cons n ns ih=>
  intro vs w;rw[map_cons] at w
  cases w with
  |cons a b=>
   cases a
   exact .cons _ _ (ih _ b)
theorem Me {l:OpenLaw}(hn:l.most=some n)(hpre:l.row.toRowW.claim.pre args=true)(hwl:WellAll P h vals args):
  ∃a vs ns,vals=[Value.ref a]/\args=[WData.list (ns.map WData.int)]/\h.get? a=some { cls:=.type "list",data:=.seq vs.toArray }/\IntsAre vs ns/\ns.length<=n:=by
 have hsh:WShape.hasAll [] args [.list .int]=true:=(pre_splitW hpre).1;have hc:l.pre.holds [] { args:=args }=true:=(pre_splitW hpre).2;obtain⟨d,r,rfl,h1,h2⟩:=hasAllW_cons hsh;obtain rfl:=hasAllW_nil h2;obtain⟨xs,rfl,h3⟩:=hasW_list h1;obtain⟨ns,rfl⟩:=items_int h3;have hlen:ns.length<=n:=by
  unfold OpenLaw.pre at hc;have h4:(WTm.not (.lt (.lit (.int (n:Int))) (.len (.arg 0)))).holds [] { args:=[.list (ns.map .int)] }=true:=by
   have h4:=(holds_andW hc).1;rw[hn] at h4;exact h4
  have h5:=condW_of h4 (w_not (w_lt w_lit (w_len_list (w_arg rfl))));rw[length_map] at h5;refine Nat.le_of_not_lt λq=>?_;have q':(n:Int) < ((ns.length:Nat):Int):=by lia
  first
   | (rw[decide_eq_true q'] at h5;exact absurd h5 ∅)
   | (simp at h5;lia)
 cases hwl with
 |cons w1 w2=>
  cases w2
  cases w1 with
  |list ho hall=>exact⟨_,_,ns,rfl,rfl,ho,tU ns _ hall,hlen⟩
theorem Ma (l:OpenLaw)(args:List WData):l.row.toRowW.claim.post args (.bool true) args=true:=
 postW_of (r:=l.row.toRowW) (X:=(true == true))
  (show WShape.has [] (.bool true) .bool=true by first | rfl | decide | simp[WShape.has,WShape.arms,WShape.armsAll])
  (show (WTm.eq .res (.lit (.bool true))).value [] { args:=args,res:=some (.bool true),after:=args }=some (.bool (true == true)) from w_eq_bool (w_res rfl) w_lit) rfl
theorem attach_call {l:OpenLaw}(hn:l.most=some n)(hdf:d.params.defaults=[])(call:∀(w:World) (s₀ s₁:Shared) (mg mb:Str->Option Value) (fa:Addr) (o:Obj) (pm cd doc:Value) (a:Addr) (vs:List Value) (ns:List Int),
   Ground q loose [] XP w s₀ mg mb s₁.heap->YP w s₁.heap->
   s₁.heap.get? fa=some o->o.data=.func (docDef d.name d.params d.body d.scope pm cd doc)->s₁.heap.CodeRec cd d.name->mg d.name=some (.ref fa)->
   s₁.heap.get? a=some { cls:=.type "list",data:=.seq vs.toArray }->IntsAre vs ns->ns.length<=n->s₁.gens=#[]->
   codeAny (model l.prog w) callerA (.call (.ref fa) ⟨[.ref a],[]⟩) (λr s'=>r=.ok (.ret (.bool true))/\OldK s₁.heap s'.heap/\s'.os=s₁.os/\AllBare s'.gens) s₁):
  WalkO q loose XP YP l.row.toRowW d [] (λf vs=>PySem.call f vs):=by
 intro w s₀ s₁ mg mb G Y fa o pm cd doc dV kV ho hd hcd hD hmg hg args vals as hpre hlay hrd hwl hlo;obtain rfl:dV=.none:=Dflts.none hD hdf;obtain rfl:kV=.none:=Dflts.noKw hD;obtain⟨a,vs,ns,rfl,rfl,hobj,hints,hlen⟩:=Me hn hpre hwl;refine enter_call (codeAny_mono (call w s₀ s₁ mg mb fa o pm cd doc a vs ns G Y ho (fd_plain hd) hcd hmg hobj hints hlen hg) λr s' hq=>?_);obtain⟨rfl,h2,h3,h4⟩:=hq;exists .inl ⟨.bool true,.bool true,[],rfl,λ_=>rfl,.bool true,Ma l _,λ_=>⟨Pairwise.nil,λ_ hm=>(nomatch hm)⟩⟩,h2,h3,h4
end Att
namespace L2
open PySem PySem.Spec PyProof.Rows
theorem yS:∀{vs:List Value} {ns:List Int},IntsAre vs ns->cA (ns.map V.int) vs
 |_,_,.nil=>.nil
 |_,_,.cons n t h=>.cons ⟨t,rfl⟩ (yS h)
def qa8 (H:Hp):Prop:=∀b,H b=none\/∃o xs,H b=some (.frz o (.lst xs))
theorem Qz {K:Frag}(KX:K.In s₁.heap)(hns:s₁.heap.Ns mainGlobals mg)(hb:s₁.heap.Ns builtinsNs mb)(hbb:∀x:Str,x≠"__name__"->mb x=bootBuiltins x)(hlim:s₁.heap.NoLimit)(hg:s₁.gens=#[])(ha:s₁.heap.get? a=some { cls:=.type "list",data:=.seq vs.toArray })(hi:IntsAre vs ns)(hl:ns.length<=sizeLine)(hr:gR k callerA)(F:∀base:Heap,K.In base->base.Ns mainGlobals mg->aJ P w K mg base CX k fa fd [x] sp)(hbind:∀(s:Shared) (u:Value),BindsTo s fd ⟨[u],[]⟩ [(x,u)])(hsp:∀H:Hp,qa8 H->SqL K H a (ns.map V.int)->sp [.ref a] H (λv _=>v=.bl true) λ_ _ _=>False)(hCX:∀H e s',CX [] H s₁ (λ_ _ _=>False) e s'->False):
  codeAny (model P w) callerA (.call (.ref fa) ⟨[.ref a],[]⟩) (λr s'=>r=.ok (.ret (.bool true))/\OldK s₁.heap s'.heap/\s'.os=s₁.os/\AllBare s'.gens) s₁:=by
 have rv:=yS hi;have lenV:=hi.length;have core:∀H:Hp,qa8 H->SqL K H a (ns.map V.int)->HOk P w H s₁.heap->(∀b,H b≠none->b=a)->(H a≠none->K.lookup a=none)->
   codeAny (model P w) callerA (.call (.ref fa) ⟨[.ref a],[]⟩) (λr s'=>r=.ok (.ret (.bool true))/\OldK s₁.heap s'.heap/\s'.os=s₁.os/\AllBare s'.gens) s₁:=by
  intro H hO hS hok hA hK;have base_of:∀{b:Addr} {o:Obj},s₁.heap.get? b=some o->H b=none->(Ch s₁.heap H).get? b=some o:=λe n=>Sg e n;have noA:∀{b:Addr} {o:Obj} {es:Array DictEntry} {ep:Nat},s₁.heap.get? b=some o->o.data=.dict es ep->H b=none:=λ{b o es ep} e d=>by
   cases q:H b with
   |none=>rfl
   |some u=>
    have e':b=a:=hA b (by rw[q];simp);subst e';rw[ha] at e;cases e;have d':Data.seq vs.toArray _=Data.dict es ep:=d
    cases d'
  have nsK:∀{b:Addr} {m:Str->Option Value},s₁.heap.Ns b m->(Ch s₁.heap H).Ns b m:=λ{b m} ⟨o,es,ep,e,d,r⟩=>⟨o,es,ep,base_of e (noA e d),d,r⟩
  have hKb:K.In (Ch s₁.heap H):=λb o e=>base_of (KX b o e) (by
   cases q:H b with
   |none=>rfl
   |some u=>
    have e':b=a:=hA b (by rw[q];simp);subst e';rw[hK (by rw[q];simp)] at e;cases e)
  have hM:Mod K mg (Ch s₁.heap H):=⟨hKb,nsK hns,⟨mb,nsK hb,hbb⟩,let ⟨mc,h1,h2⟩:=hlim;⟨mc,nsK h1,h2⟩⟩
  have e0:Ic P w K mg (Ch s₁.heap H) callerA [] s₁ H:=⟨rfl,hM,λb o e=>Vf e,Nat.le_of_eq (Ni _ _),trivial,λb hb=>absurd (show b∈([]:List Addr) from hb) ⋯,hok,.of_eq hg⟩
  refine codeAny_mono ((F _ hKb (nsK hns)).run callerA [] s₁ H ⟨[.ref a],[]⟩ [.ref a] [.ref a] _ _ hr e0 (hbind s₁ (.ref a)) (.cons rfl .nil) (hsp H hO hS)) λr s' h=>?_
  cases r with
  |error e=>exact(hCX H e s' h).elim
  |ok fl=>
   cases fl with
   |next=>exact False.elim h
   |brk=>exact False.elim h
   |cont=>exact False.elim h
   |ret u=>
    obtain⟨v,H',os,bare,un,hok',r',q⟩:=h;have q':v=.bl true:=q;subst q';obtain rfl:u=Value.bool true:=r';exists rfl,OldK.of_keep λb o e=>?_,os,bare
    cases q:H b with
    |none=>exact un.keep b o e q (by intro z;exact absurd (show b∈([]:List Addr) from z) ⋯) ⋯
    |some u=>
     rcases hO b with z | ⟨ob,xs,z⟩
     .rw[q] at z;cases z
     .have z2:=un.frzs b ob _ z;obtain⟨e1,_⟩:=hok b _ z;obtain⟨e2,_⟩:=hok' b _ z2;rw[e] at e1;cases e1;exact e2
 cases hk:K.lookup a with
 |some o=>
  have e:=KX a o hk;rw[ha] at e
  cases e
  refine core (λ_=>none) (λ_=>.inl rfl) (.inr ⟨_,vs.toArray,_,hk,rfl,rfl,rfl,by rw[size_toArray,lenV];exact hl,by simpa using rv⟩) (λb u z=>by have z':(none:Option HO)=some u:=z;cases z') (λb z=>absurd rfl z) λz=>absurd rfl z
 |none=>
  refine core (λb=>if b=a then some (.frz { cls:=.type "list",data:=.seq vs.toArray } (.lst (ns.map V.int))) else none) (λb=>?_) (.inl (.inr ⟨{ cls:=.type "list",data:=.seq vs.toArray },if_pos rfl⟩)) (λb u z=>?_) (λb z=>?_) λ_=>hk
  .by_cases hb:b=a
   .exact .inr ⟨_,_,if_pos hb⟩
   .exact .inl (if_neg hb)
  .by_cases hb:b=a
   .have z':=(if_pos hb).symm.trans z
    cases z'
    subst hb;exists ha,by rw[length_map];exact hl,vs,_,rv,ha
   .have z':=(if_neg hb).symm.trans z
    cases z'
  .by_cases hb:b=a
   .exact hb
   .exact absurd (if_neg hb) z
abbrev KOf {K:Frag}{h:Heap}(_:K.In h):Frag:=K
theorem Wy {l:W.OpenLaw}{XP:(Str->Option Value)->Heap->Prop}{K:Params->Frag}{CX:World->CXT}{sp:World->Sp}(hn:l.most=some n)(hn2:n<=sizeLine)(hdf:d.params.defaults=[])(hr:gR k callerA)(hY:∀(w:World) (h:Heap),YP w h->(K w.params).In h)(F:∀(w:World) (mg:Str->Option Value) (fa:Addr) (h:Heap),(K w.params).In h->h.Ns mainGlobals mg->mg d.name=some (.ref fa)->
   ∃fd:FuncData,(∀(s:Shared) (u:Value),BindsTo s fd ⟨[u],[]⟩ [(x,u)])/\
    ∀base:Heap,(K w.params).In base->base.Ns mainGlobals mg->aJ l.prog w (K w.params) mg base (CX w) k fa fd [x] (sp w))(hsp:∀(w:World) (H:Hp) (a:Addr) (ns:List Int),ns.length<=n->qa8 H->SqL (K w.params) H a (ns.map V.int)->sp w [.ref a] H (λv _=>v=.bl true) λ_ _ _=>False)(hCX:∀(w:World) (H:Hp) (s:Shared) (e:Value) (s':Shared),CX w [] H s (λ_ _ _=>False) e s'->False):
  W.WalkO q loose XP YP l.row.toRowW d [] (λf vs=>PySem.call f vs):=by
 refine Att.attach_call hn hdf λw s₀ s₁ mg mb fa o pm cd doc a vs ns G Y ho hd hcd hmg hobj hints hlen hg=>?_;have KX:=hY w _ Y;obtain⟨fd,hb,hF⟩:=F w mg fa _ KX G.T.g hmg;exact Qz KX G.T.g G.T.b G.T.builtins G.T.nolimit hg hobj hints (Nat.le_trans hlen hn2) hr hF hb (λH hO hS=>hsp w H a ns hlen hO hS) λH e s'=>hCX w H s₁ e s'
def dD (s:Stmt)(j:Nat):Stmt:=match s with
 | .ClassDef _ _ _ body _ _ _ _ _ _ _=>body.getD j (.Pass ⟨0,0,0,0⟩)
 |_=>.Pass ⟨0,0,0,0⟩
def fM (s:Stmt):Arguments:=match s with
 | .FunctionDef _ a _ _ _ _ _ _ _ _=>a
 |_=>{ posonlyargs:=[],args:=[],vararg:=none,kwonlyargs:=[],kw_defaults:=[],kwarg:=none,defaults:=[] }
def eK (s:Stmt):List Stmt:=match s with
 | .FunctionDef _ _ b _ _ _ _ _ _ _=>b
 |_=>[]
def aH (s:Stmt):Scope:=match s with
 | .FunctionDef _ _ _ _ _ _ sc _ _ _=>sc
 |_=>{ kind:=.function,names:=[],isGenerator:=false,isCoroutine:=false }
abbrev CX0:CXT:=λ_ _ _ _ _ _=>False
abbrev E0:XK:=λ_ _ _=>False
theorem aM:kS CX0 X E0:=λ_ _ _ _ _ _ _ h=>h.elim
theorem Sl (hr:gR k A):A.units+1 < cLine:=Nat.lt_of_le_of_lt (Nat.add_le_add_left (by decide:1<=64) _) hr.units
theorem aV (h:n<=1000):n < sizeLine:=Nat.lt_of_le_of_lt h ∅
section
variable {X:Cx}
theorem pv (i:Nat)(hN:X.N[i]?=some x:=by rfl)(hv:Vis X.env.scope x:=by first | exact Or.inl rfl | exact Or.inr (Or.inl rfl) | exact Or.inr (Or.inr rfl))(hd:(x == ("__debug__":Str))=false:=by decide)(hcd:(x == ("__classdict__":Str))=false:=by decide):PE X (.Name x pos) (Pp i):=Pt hN hv hd hcd
end
theorem dE {A B:Prop}(h:B):if false=true then A else B:=by
 rw[if_neg Bool.false_ne_true];exact h
theorem dA {A B:Prop}(h:A):if true=true then A else B:=by
 rw[if_pos rfl];exact h
theorem rS {c A B:Prop}[Decidable c](h1:c->A)(h2:¬c->B):if c then A else B:=by
 by_cases h:c
 .rw[if_pos h];exact h1 h
 .rw[if_neg h];exact h2 h
theorem qj9 {c A B:Prop}[Decidable c](hc:c)(h:B):if (!decide c)=true then A else B:=by
 rw[decide_eq_true hc];exact dE h
def aP (H H':Hp):Prop:=∀b o,H b=some o->H' b=some o
theorem aP.refl (H:Hp):aP H H:=λ_ _ h=>h
theorem aP.trans (a:aP H H1)(b:aP H1 H2):aP H H2:=λc o h=>b c o (a c o h)
theorem aP.free (e:aP H H')(h:H' l=Option.none):H l=Option.none:=by
 cases q:H l with
 |none=>rfl
 |some o=>
  rw[e l o q] at h
  cases h
theorem aP.seq {K:Frag}(e:aP H H')(h:SqL K H a xs):SqL K H' a xs:=by
 rcases h with (h | ⟨o,h⟩) | h
 .exact .inl (.inl (e _ _ h))
 .exact .inl (.inr ⟨o,e _ _ h⟩)
 .exact .inr h
section
variable {X:Cx}
def Bt (n:Nat)(i:Int):Prop:=i.natAbs < 2 ^ n
theorem xG (h:Bt n i):Builtin.Int.intBits i<=n:=by
 unfold Builtin.Int.intBits;split
 .exact Nat.zero_le _
 .rename_i h0
  have hp:i.natAbs≠0:=by
   intro z;apply h0;simp at z ⊢;exact z
  have:i.natAbs.log2 < n:=(Nat.log2_lt hp).mpr h;lia
def Xu (i j:Int):Prop:=∃n m,Bt n i/\Bt m j/\n<=1048576/\m<=1048576
theorem Xu.ok (h:Xu i j):IntMulOk i j:=by
 obtain⟨n,m,h1,h2,h3,h4⟩:=h;have e:(2:Nat) ^ 20=1048576:=by decide
 exact IntMulOk.of_bits (by have:=xG h1;lia) (by have:=xG h2;lia)
theorem bX:OpR X (binaryOp .Mult) (rI Xu λi j=>.int (i*j)):=opI λ_ _ _ _ _ _ _ hc q=>mul_int q hc.ok
def Kq (i j:Int):Prop:=j≠0/\∃n,Bt n j/\n<=9000
theorem Kq.ok (h:Kq i j):Builtin.divisionGoesByPylong i j=false:=by
 obtain⟨h0,n,h1,h2⟩:=h;refine PyProof.noPylong_of_log2 ?_;have hp:j.natAbs≠0:=by lia
 have:j.natAbs.log2 < n:=(Nat.log2_lt hp).mpr h1;lia
theorem gU:OpR X (binaryOp .FloorDiv) (rI Kq λi j=>.int (i.fdiv j)):=opI λ_ _ _ _ _ _ _ hc q=>floordiv_int hc.1 q (.inl hc.ok)
mutual
inductive pA (K:Frag) (H:Hp):V->PyData->Prop where
 |non:pA K H .non .none
 |bl (b:Bool):pA K H (.bl b) (.bool b)
 |int (i:Int):pA K H (.int i) (.int i)
 |str (x:Str):pA K H (.str x) (.str x)
 |lst {a:Addr} {xs:List V} {ds:List PyData} (h:SqL K H a xs) (q:pP K H xs ds):pA K H (.ref a) (.list ds)
 |tup {a:Addr} {xs:List V} {ds:List PyData} (h:SqT K H a xs) (q:pP K H xs ds):pA K H (.ref a) (.tuple ds)
inductive pP (K:Frag) (H:Hp):List V->List PyData->Prop where
 |nil:pP K H [] []
 |cons {x:V} {d:PyData} {xs:List V} {ds:List PyData} (p:pA K H x d) (q:pP K H xs ds):pP K H (x :: xs) (d :: ds)
end
theorem lG {H:Hp}(I:Inv X pins σ H s):∀{x:V} {d:PyData},pA X.K H x d->∀{u:Value},cL x u->∃as,Reads s.heap u d as:=by
 intro x d h
 induction h using pA.rec (motive_2:=λxs ds _=>∀{us:List Value},cA xs us->∃as,ReadsAll s.heap us ds as) with
 |non=>intro u r;cases (show u=Value.none from r);exists _,.none
 |bl b=>intro u r;cases (show u=Value.bool b from r);exists _,.bool b
 |int i=>intro u r;obtain⟨t,rfl⟩:=(show ∃t,u=Value.int i t from r);exists _,.int i t
 |str y=>intro u r;obtain⟨t,rfl⟩:=(show ∃t,u=Value.str y t from r);exists _,.str y t
 |lst h q ih=>
  intro u r
  cases (show u=Value.ref _ from r)
  obtain⟨its,rv,pl,_⟩:=I.list h;obtain⟨as,ra⟩:=ih rv;obtain⟨o,h1,h2,n,h3⟩:=pl.isList;exists _,.list h1 h2 h3 (by simpa using ra)
 |tup h q ih=>
  intro u r
  cases (show u=Value.ref _ from r)
  obtain⟨its,rv,pl,_⟩:=I.tuple h;obtain⟨as,ra⟩:=ih rv;obtain⟨o,h1,h2,n,h3⟩:=pl;exists _,.tuple h1 h2 h3 (by simpa using ra)
 |nil=>rename_i us r;cases r;exists _,.nil
 |cons p q ih1 ih2=>
  rename_i us r
  cases r with
  |cons r1 r2=>
   obtain⟨as,h1⟩:=ih1 r1;obtain⟨bs,h2⟩:=ih2 r2;exists _,.cons h1 h2
inductive zI (K:Frag) (neg:Bool) (x:V) (y:V) (H:Hp) (Q:VK):Prop where
 |mk (d e):pA K H x d->pA K H y e->d.canLay0=true->e.canLay0=true->min d.depth e.depth<=16->Q (.bl (if neg then !PyData.eqv d e else PyData.eqv d e)) H->zI K neg x y H Q
theorem Sx (hu:X.A.units+64 < cLine):OpR X (compareOp .Eq) (zI X.K false):=by
 intro pins s σ H x y v u Q I rx ry h;obtain⟨d,e,h1,h2,c1,c2,hm,q⟩:=h;obtain⟨as,r1⟩:=lG I h1 rx;obtain⟨bs,r2⟩:=lG I h2 ry;exact PySem.SeqAt.compareEq_reads r1 r2 c1 c2 () ⟨.bl (PyData.eqv d e),H,I,rfl,q⟩
theorem pF (hu:X.A.units+64 < cLine):OpR X (compareOp .NotEq) (zI X.K true):=by
 intro pins s σ H x y v u Q I rx ry h;obtain⟨d,e,h1,h2,c1,c2,hm,q⟩:=h;obtain⟨as,r1⟩:=lG I h1 rx;obtain⟨bs,r2⟩:=lG I h2 ry;exact PySem.SeqAt.compareNe_reads r1 r2 c1 c2 () ⟨.bl (!PyData.eqv d e),H,I,rfl,q⟩
end
section
variable {prog:Program} {w:World} {A:Around} {R:Result->Shared->Prop} {s:Shared}
abbrev Yr (ifs:List Expr)(env:Env):Sem Bool:=forIn ifs true λc r=>if r=true then do let ok <- isTrue c env (eval c env);pure (ForInStep.yield ok) else pure (ForInStep.yield r)
theorem yI {elt target iter:Expr}(I:Nat->Shared->Prop)(turn:∀n s,I n s->wpAny (model prog w) A (pyNext it) (λr s₁=>match r with
   |none=>R (.ok .next) s₁
   |some v=>wpAny (model prog w) A (letOwnedTupleGo target it v) (λ_ s₀=>wpAny (model prog w) A (assign target env v) (λ_ s₂=>
     wpAny (model prog w) A (Yr ifs env) (λok s₃=>
      if ok=true then wpAny (model prog w) A (eval elt env) (λx s₄=>
       wpAny (model prog w) A (call (.builtin "list.append") [acc,x]) (λ_ s₅=>∃m,m < n/\I m s₅) (λ_ _=>False) s₄) (λ_ _=>False) s₃
      else ∃m,m < n/\I m s₃) (λ_ _=>False) s₂) (λ_ _=>False) s₀) (λ_ _=>False) s₁) (λ_ _=>False) s)(n:Nat)(h:I n s):
  codeAny (model prog w) A (.compLoop (.ListComp elt [⟨target,iter,ifs,0⟩] scope pos) 0 it acc env) R s:=by
 refine codeAny_loop rfl I (λn s hI=>?_) n h;show wpAny _ A ((compTurn (.ListComp elt [⟨target,iter,ifs,0⟩] scope pos) 0 it acc env).onRaise (λx=>do noteFrame x env;theTreesLotGoes x)) _ _ s;refine wpAny_noted ?_;rw[compTurn_list];refine wpAny_bind (wpAny_standAt (wpAny_bind (wpAny_mono (turn n s hI) (λr s₁ h₁=>?_) λ_ _ z=>z.elim)))
 cases r with
 |none=>exact wpAny_pure h₁
 |some v=>
  refine wpAny_bind (wpAny_mono h₁ (λ_ s₀ h₀=>?_) λ_ _ z=>z.elim);refine wpAny_bind (wpAny_mono h₀ (λ_ s₂ h₂=>wpAny_bind (wpAny_mono h₂ (λok s₃ h₃=>?_) λ_ _ z=>z.elim)) λ_ _ z=>z.elim)
  cases ok with
  |false=>exact wpAny_pure ⟨rfl,h₃⟩
  |true=>
   rw[if_pos rfl] at h₃;show wpAny _ _ ((do let _ <- call (.builtin "list.append") [acc,<- eval elt env]) >>= λ_=>again (.compLoop (.ListComp elt [⟨target,iter,ifs,0⟩] scope pos) 0 it acc env)) _ _ _;exact wpAny_bind (wpAny_bind (wpAny_mono h₃ (λx s₄ h₄=>wpAny_bind (wpAny_mono h₄ (λ_ s₅ h₅=>wpAny_pure (wpAny_pure ⟨rfl,h₅⟩)) λ_ _ z=>z.elim)) λ_ _ z=>z.elim))
end
structure zK (X:Cx) (scope:Scope) (cl:List (Str × Addr)) (Nc:List Str) (nl:Nat) (fr:List Nat):Prop where
 clos:closureFor scope X.env=pure cl
 kind:scope.kind=.function
 names:∀y∈scope.names,y.2=.local->scope.names.lookup y.1=some .local
 cell:∀y∈scope.names,y.2≠.cell
 sub:∀x c,cl.lookup x=some c->X.env.cells.lookup x=some c
 has:∀x,(relabel scope X.env).names.lookup x=some .cell\/(relabel scope X.env).names.lookup x=some .free->∃c,cl.lookup x=some c
 len:Nc.length=nl+fr.length
 tail:∀i n,Nc[nl+i]?=some n->∃j,fr[i]?=some j/\X.N[j]?=some n/\X.env.kindOf n=some .cell/\cl.lookup n=X.env.cells.lookup n/\((relabel scope X.env).names.lookup n=some .cell\/(relabel scope X.env).names.lookup n=some .free)
abbrev fG (X:Cx)(scope:Scope)(cl:List (Str × Addr))(Nc:List Str)(C:Addr)(s3:Shared)(H3:Hp)(fp:List Addr)(pins:List (Addr × Obj)):Cx:=
 { X with N:=Nc,s₀:=s3,H₀:=H3,env:=compEnvC scope cl C X.env,outer:=X.stack,ex:=fp,fn:=λ_=>false,pn:=X.pn++pins,xe:=λ_ _=>False }
def σC (nl:Nat)(fr:List Nat)(σ:St):St:=replicate nl none++fr.map λj=>(σ[j]?).join
abbrev PIf (X:Cx)(ifs:List Expr)(t:TT):Prop:=
 ∀(pins:List (Addr × Obj)) (s:Shared) (σ:St) (H:Hp) (Q:Bool->Hp->Prop),Inv X pins σ H s->t σ H Q->wpAny (model X.prog X.w) X.A (Yr ifs X.env) (TP X pins σ Q) X.xe s
theorem cC:PIf X [] (λ_ H Q=>Q true H):=λ_ _ _ H _ I h=>wpAny_pure ⟨H,I,h⟩
theorem pW (h:PT X c t):PIf X [c] t:=λpins s σ H Q I q=>wpAny_tests_one (h pins s σ H Q I q)
section
variable {X:Cx} {scope:Scope} {cl:List (Str × Addr)} {Nc:List Str} {nl:Nat} {fr:List Nat} {pins:List (Addr × Obj)} {σ:St} {H3:Hp} {s3:Shared} {fp:List Addr} {h4:Heap} {tk:Nat}
theorem Gk (ck:zK X scope cl Nc nl fr)(I:Inv X pins σ H3 s3)(hf:∀b∈fp,jM X pins H3 b)(hfs:∀b∈fp,b < s3.heap.objs.size)(hns:h4.Ns s3.heap.objs.size λ_=>none)(hk:∀b o,s3.heap.get? b=some o->h4.get? b=some o) :
  Inv (fG X scope cl Nc s3.heap.objs.size s3 H3 fp pins) [] (σC nl fr σ) H3 { s3 with heap:=h4,toks:=tk }:=by
 have stk:∀b∈frs X.stack,b∈X.env.locals :: X.fs:=I.stkSub;have nfs:∀b,b≠X.env.locals->b∉X.fs->b∉frs X.stack:=λb h1 h2 z=>(mem_cons.mp (stk b z)).elim h1 h2;have ltc:∀x c,cl.lookup x=some c->c < s3.heap.objs.size:=λx c e=>by
  obtain⟨v,z⟩:=I.cell x c (ck.sub x c e);exact z.lt
 refine⟨⟨I.ok.mod,ck.kind,I.ok.glob,I.ok.blt,Nat.le_refl _,λx y c h1 h2=>I.ok.inj x y c (ck.sub x c h1) (ck.sub y c h2),λx hx=>ck.has x hx,λx c hz=>Bool.noConfusion hz,I.ok.hd,I.ok.frames,.inl rfl,λb hb=>?_,I.bs,Nat.le_trans I.ok.bsz I.sz,λb o e hb=>?_,λb hb=>?_,I.stack,I.stkFree⟩,
  rfl,I.bare,Un.kept hk,⟨_,hns,λi x v h1 h2 h3=>?_⟩,λx c e=>?_,I.hok.fresh (Nat.le_refl _),λx c e=>I.freeC x c (ck.sub x c e),λp hp=>?_,I.hok.kept hk,?_⟩
 .obtain⟨f0,f1,f2,f3,f4,f5⟩:=hf b hb;exists Nat.ne_of_lt (hfs b hb),λx c e=>f4 x c (ck.sub x c e)
 .obtain⟨f0,f1,f2,f3,f4,f5⟩:=hf b hb;rcases f3 with z | z
  .exact I.ok.noex b o e z
  .exact absurd (Nat.lt_of_lt_of_le (Heap.lt_size e) (Nat.le_trans I.ok.bsz z)) (Nat.lt_irrefl _)
 .obtain⟨f0,f1,f2,f3,f4,f5⟩:=hf b hb;exact nfs b f1 f2
 .-- a name's value
  unfold σC at h2
  by_cases hi:i < nl
  .rw[getElem?_append_left (by simpa using hi),getElem?_replicate] at h2;split at h2<;>cases h2
  .have hi':nl<=i:=by lia
   rw[getElem?_append_right (by simpa using hi'),length_replicate,getElem?_map] at h2;obtain⟨k,rfl⟩:∃k,i=nl+k:=⟨i - nl,()⟩
   obtain⟨j,e1,e2,e3,e4,e5⟩:=ck.tail k x h1;rw[Nat.add_sub_cancel_left,e1] at h2;have h2':(σ[j]?).join=some v:=by simpa using h2
   have h2'':σ[j]?=some (some v):=by
    cases q:σ[j]? with
    |none=>rw[q] at h2';cases h2'
    |some z=>rw[q] at h2';exact congrArg some h2'
   obtain⟨m,hn,hl⟩:=I.loc;obtain⟨u,r,l⟩:=hl j x v e2 h2'' (.inr (.inl e3));exists u,r,?_;rcases l with ⟨k1,_⟩ | ⟨k1,c,ec,z⟩
   .rw[e3] at k1;cases k1
   .obtain⟨o,ho,hd⟩:=z;exact .inr ⟨e5,c,by show cl.lookup x=some c;rw[e4];exact ec,o,hk _ _ ho,hd⟩
 .obtain⟨v,o,ho,hd⟩:=I.cell x c (ck.sub x c e);exists v,o,hk _ _ ho,hd
 .have hp':p∈X.pn++pins:=by simpa using hp
  obtain⟨e,n,ne,nf,d⟩:=I.pin p hp';exists hk _ _ e,n,Nat.ne_of_lt (Heap.lt_size e),nfs _ ne nf,d
 .unfold σC;show _=Nc.length;rw[List.length_append,length_replicate,length_map,ck.len]
theorem Qn (I:Inv X pins σ H3 s3)(hf:∀b∈fp,jM X pins H3 b)(J:Inv (fG X scope cl Nc s3.heap.objs.size s3 H3 fp pins) pins' σ' H' s'):Inv X pins σ H' s'/\jM X pins H' s3.heap.objs.size:=by
 exists I.call' (ch:=fp) J.os J.base J.hok J.bare λb hb=>?_,I.fpOk (Nat.le_refl _) J.free;obtain⟨f0,f1,f2,f3,f4,f5⟩:=hf b hb;exists f3,f1,f4,f5
theorem Inv.off (I:Inv X pins σ H s)(f:jM X pins H b)(hs:Heap.SameBut b s.heap h'):Inv X pins σ H { s with heap:=h' }:=by
 obtain⟨f0,f1,f2,f3,f4,f5⟩:=f;exact I.turned (t':=s.toks) (it:=b) (λc o hb e=>(hs.2 c hb).trans e) f0 f1 f3 f4 f5
end
def Fe (J:It)(nl:Nat)(fr:List Nat)(g:TG)(tt:TT)(te:TE)(σ:St)(D:Addr)(H1:Hp)(Q:VK):Prop:=
 ∃W:Nat->Nat->List V->Hp->Prop,(∃m,W 0 m [] (upd H1 D (.lst [])))/\∀i m ys H2,W i m ys H2->H2 D=some (.lst ys)/\
  ((J.stop i H2/\Q (.ref D) H2)\/(J.go i H2/\∀x H3,J.yld i H2 x H3->g x (σC nl fr σ) H3 λσ2 H4=>σ2.length=(σC nl fr σ).length/\(∀(i:Nat) v,(σC nl fr σ)[i]?=some (some v)->σ2[i]?=some (some v))/\
   tt σ2 H4 λb H5=>if b=true then te σ2 H5 λy H6=>H6 D=some (.lst ys)/\ys.length < sizeLine/\∃m',m' < m/\W (i+1) m' (ys++[y]) (upd H6 D (.lst (ys++[y])))
    else ∃m',m' < m/\W (i+1) m' ys H5))
def Df (wi:TI)(nl:Nat)(fr:List Nat)(g:TG)(tt:TT)(te:TE):TE:=λσ H Q=>wi σ H λJ H1=>∀D,H1 D=none->Fe J nl fr g tt te σ D H1 Q
section
variable {X:Cx} {scope:Scope} {cl:List (Str × Addr)} {Nc:List Str} {nl:Nat} {fr:List Nat} {elt tg iter:Expr} {ifs:List Expr} {pos:Pos} {wi:TI} {g:TG} {tt:TT} {te:TE}
theorem Ff (hc:X.calm=true)(ck:zK X scope cl Nc nl fr)(hi:PI X tg iter wi)(hg:∀C s3 H3 fp pins,PG (fG X scope cl Nc C s3 H3 fp pins) tg g)(ht:∀C s3 H3 fp pins,PIf (fG X scope cl Nc C s3 H3 fp pins) ifs tt)(he:∀C s3 H3 fp pins,PE (fG X scope cl Nc C s3 H3 fp pins) elt te)(I:Inv X pins σ H s)(h:Df wi nl fr g tt te σ H Q){RR:Value->Addr->Result->Shared->Prop}(fin:∀D C s',(∃H',(∃m,s'.heap.Ns C m)/\Inv X pins σ H' s'/\jM X pins H' C/\Q (.ref D) H')->RR (.ref D) C (.ok .next) s'):
  wpAny (model X.prog X.w) X.A (eval iter X.env) (λx s₁=>wpAny (model X.prog X.w) X.A (pyIter x) (λit s₂=>wpAny (model X.prog X.w) X.A (newList []) (λacc s₃=>
   wpAny (model X.prog X.w) X.A (newFunctionEnv scope X.env.globals cl [] X.env.qual none .none (some X.env)) (λcenv s₄=>
    codeAny (model X.prog X.w) X.A (.compStart (.ListComp elt [⟨tg,iter,ifs,0⟩] scope pos) 0 it acc { cenv with scope:=relabel scope X.env }) (RR acc cenv.locals) s₄) X.xe s₃) X.xe s₂) X.xe s₁) X.xe s:=by
 refine thn (hi pins s σ H _ I h) λv s1 h1=>thn h1 λitv s2 h2=>?_;obtain⟨it,fp,tn,J,H2,e,I2,T,st2,f2,hD⟩:=h2;subst e;have hn2:H2 s2.heap.objs.size=none:=I2.hok.fresh (Nat.le_refl _);obtain⟨W,⟨m0,w0⟩,turn⟩:=hD s2.heap.objs.size hn2;refine wpAny_newObj_type (wpAny_newFunctionEnv ck.cell (by intro y hy;simp at hy) (λh4 hns hsb=>?_) ck.kind);dsimp only at hns hsb ⊢;have I3:Inv X pins σ (upd H2 s2.heap.objs.size (.lst [])) { s2 with heap:=s2.heap.push { cls:=.type "list",dict:=none,data:=.seq ([]:List Value).toArray } }:=
  I2.laid (t':=s2.toks) (λb u e=>Heap.get?_push_of_some _ e) (Nat.le_refl _) ⟨Nat.zero_le _,[],0,.nil,Heap.get?_push_size _ rfl⟩
 have hfs:∀b∈fp,b < s2.heap.objs.size:=λb hb=>by
  obtain⟨o,e,_⟩:=T.obj 0 _ st2 b hb;exact Heap.lt_size e
 have f3:∀b∈fp,jM X pins (upd H2 s2.heap.objs.size (.lst [])) b:=λb hb=>⟨by rw[aU (Nat.ne_of_lt (hfs b hb))];exact(f2 b hb).1,(f2 b hb).2⟩
 generalize hH3:upd H2 s2.heap.objs.size (.lst [])=H3 at *
 generalize hs3:({ s2 with heap:=s2.heap.push { cls:=.type "list",dict:=none,data:=.seq ([]:List Value).toArray } }:Shared)=s3 at *
 have z3:s3.heap=s2.heap.push { cls:=.type "list",dict:=none,data:=.seq ([]:List Value).toArray }:=by rw[<- hs3]
 have hsz3:s3.heap.objs.size=s2.heap.objs.size+1:=by rw[z3,Heap.size_push]
 rw[<- z3] at hns hsb ⊢;have hk4:∀b o,s3.heap.get? b=some o->h4.get? b=some o:=λb o e=>hsb.extBut b o (Nat.ne_of_lt (Heap.lt_size e)) (Heap.get?_push_of_some _ e);have hfs3:∀b∈fp,b < s3.heap.objs.size:=λb hb=>Nat.lt_of_lt_of_le (hfs b hb) (by rw[hsz3];exact Nat.le_succ _);have hns':h4.Ns s3.heap.objs.size λ_=>none:=by simpa using hns
 have K0:=λtk=>Gk (tk:=tk) ck I3 f3 hfs3 hns' hk4;have stat:∀{H':Hp},(∀b∈fp,H' b=none)->∀b∈fp,jM (fG X scope cl Nc s3.heap.objs.size s3 H3 fp pins) [] H' b:=λ{H'} hn b hb=>by
  obtain⟨f0,g1,g2,g3,g4,g5⟩:=f3 b hb;exists hn b hb,Nat.ne_of_lt (hfs3 b hb),λz=>?_,.inl hb,λx c e=>g4 x c (ck.sub x c e),λp hp=>g5 p (by simpa using hp);exact(mem_cons.mp (I3.stkSub b z)).elim g1 g2
 have st4:tn 0 h4:=T.keep 0 _ _ st2 λb hb o e=>hk4 b o (by rw[z3];exact Heap.get?_push_of_some _ e);have loop:∀tk,codeAny (model X.prog X.w) X.A (.compLoop (.ListComp elt [⟨tg,iter,ifs,0⟩] scope pos) 0 (.ref it) (.ref s2.heap.objs.size) (compEnvC scope cl s3.heap.objs.size X.env)) (RR (.ref s2.heap.objs.size) s3.heap.objs.size) { s3 with heap:=h4,toks:=tk }:=by
  intro tk;refine yI (λn s'=>∃i ys H',Inv (fG X scope cl Nc s3.heap.objs.size s3 H3 fp pins) [] (σC nl fr σ) H' s'/\tn i s'.heap/\(∀b∈fp,H' b=none)/\W i n ys H') ?_ m0 ⟨0,[],H3,K0 tk,st4,λb hb=>(f3 b hb).1,w0⟩;rintro n s5 ⟨i,ys,H5,I5,st5,fr5,w5⟩;obtain⟨hl5,q5⟩:=turn i n ys H5 w5;rcases q5 with ⟨stop,qn⟩ | ⟨go,step⟩
  .refine wpAny_mono (T.done (fG X scope cl Nc s3.heap.objs.size s3 H3 fp pins) rfl rfl rfl hc i [] s5 (σC nl fr σ) H5 (λ_ _=>False) I5 (stat fr5) st5 stop) (λr s6 h6=>?_) λ_ _ z=>z;obtain⟨hr,I6⟩:=h6;subst hr;obtain⟨z1,z2⟩:=Qn I3 f3 I6;refine fin _ _ _ ⟨H5,?_,z1,z2,qn⟩;obtain⟨m,hm,_⟩:=I6.loc;exists m,hm
  .refine wpAny_mono (T.item (fG X scope cl Nc s3.heap.objs.size s3 H3 fp pins) rfl rfl rfl hc i [] s5 (σC nl fr σ) H5 (λ_ _=>False) I5 (stat fr5) st5 go) (λr s6 h6=>?_) λ_ _ z=>z;obtain⟨u,hr,h6⟩:=h6;subst hr;refine wpAny_mono h6 (λ_ s7 h7=>?_) λ_ _ z=>z;obtain⟨x,H7,I7,r7,y7,st7,fr7⟩:=h7;have I7':=I7.pinned (stat fr7) (T.obj _ _ st7);refine wpAny_mono (hg s3.heap.objs.size s3 H3 fp pins _ s7 _ H7 x u _ I7' r7 (step x H7 y7)) (λ_ s8 h8=>?_) λ_ _ z=>z;obtain⟨σ8,H8,I8,l8,k8,q8⟩:=h8;refine wpAny_mono (ht s3.heap.objs.size s3 H3 fp pins _ s8 σ8 H8 _ I8 q8) (λb s9 h9=>?_) λ_ _ z=>z;obtain⟨H9,I9,q9⟩:=h9;have again:∀{ys':List V} {H':Hp} {s':Shared} {m':Nat},Inv (fG X scope cl Nc s3.heap.objs.size s3 H3 fp pins) ([]++rL fp s7.heap) σ8 H' s'->m' < n->W (i+1) m' ys' H'->
     ∃m,m < n/\∃i ys H',Inv (fG X scope cl Nc s3.heap.objs.size s3 H3 fp pins) [] (σC nl fr σ) H' s'/\tn i s'.heap/\(∀b∈fp,H' b=none)/\W i m ys H':=λ{ys' H' s' m'} I' hm w'=>by
    exists m',hm,i+1,ys',H',I'.unpinned.weak l8.symm k8,T.keep _ _ _ st7 λb hb o e=>(I'.pin (b,o) (mem_append_right _ (mem_append_right _ (iF hb e)))).1,λb hb=>?_,w';obtain⟨o,e,d⟩:=T.obj _ _ st7 b hb;exact(I'.pin (b,o) (mem_append_right _ (mem_append_right _ (iF hb e)))).2.1
   cases b with
   |false=>
    rw[if_neg Bool.false_ne_true] at q9 ⊢;obtain⟨m',hm,w9⟩:=q9;exact again I9 hm w9
   |true=>
    rw[if_pos rfl] at q9 ⊢;refine wpAny_mono (he s3.heap.objs.size s3 H3 fp pins _ s9 σ8 H9 _ I9 q9) (λyv s10 h10=>?_) λ_ _ z=>z;obtain⟨y,H10,I10,r10,hl10,hz10,m',hm,w10⟩:=h10;refine wpAny_mono (gB (X:=fG X scope cl Nc s3.heap.objs.size s3 H3 fp pins) _ s10 σ8 H10 (.ref s2.heap.objs.size) [y] _ [yv] (λv H'=>H'=upd H10 s2.heap.objs.size (.lst (ys++[y]))) I10 rfl (.cons r10 .nil) ⟨_,ys,y,rfl,rfl,hl10,hz10,rfl⟩) (λ_ s11 h11=>?_) λ_ _ z=>z;obtain⟨_,H11,I11,_,e11⟩:=h11;subst e11;exact again I11 hm w10
 have L:=loop (s2.toks+([]:List (Str × Value)).length);rw[show s3.gens=s2.gens by rw[<- hs3],show s3.drawn=s2.drawn by rw[<- hs3],show s3.os=s2.os by rw[<- hs3]] at L;exact codeAny_compStart_list L (T.self _ 0 _ _ _ st4 L)
theorem cU (hc:X.calm=true)(ck:zK X scope cl Nc nl fr)(hi:PI X tg iter wi)(hg:∀C s3 H3 fp pins,PG (fG X scope cl Nc C s3 H3 fp pins) tg g)(ht:∀C s3 H3 fp pins,PIf (fG X scope cl Nc C s3 H3 fp pins) ifs tt)(he:∀C s3 H3 fp pins,PE (fG X scope cl Nc C s3 H3 fp pins) elt te)(hs:∀x,foldedSetIterable iter X.env x=pure x:=by intro _;rfl):PE X (.ListComp elt [⟨tg,iter,ifs,0⟩] scope pos) (Df wi nl fr g tt te):=by
 intro pins s σ H Q I h;rw[eval_ListComp];refine wpAny_comprehension_free (use:=none) rfl hs ck.clos ck.kind ck.names (Ff (RR:=λacc C=>compPost (model X.prog X.w) X.A X.xe none (EP X pins σ Q) acc C) hc ck hi hg ht he I h λD C s' hh=>?_);obtain⟨H',⟨m,hm⟩,hI,hF,q⟩:=hh;exists m,hm,λh' hs'=>⟨.ref D,H',hI.off hF hs',rfl,q⟩
theorem gJ (hN:X.N.Nodup)(hiy:X.N[i]?=some y)(hy:X.env.scope.names.lookup y=some .local)(hc:X.calm=true)(ck:zK X scope cl Nc nl fr)(hi:PI X tg iter wi)(hg:∀C s3 H3 fp pins,PG (fG X scope cl Nc C s3 H3 fp pins) tg g)(ht:∀C s3 H3 fp pins,PIf (fG X scope cl Nc C s3 H3 fp pins) ifs tt)(he:∀C s3 H3 fp pins,PE (fG X scope cl Nc C s3 H3 fp pins) elt te)(hsw:swapsWith (.ListComp elt [⟨tg,iter,ifs,0⟩] scope pos) (some (.Name y py)) spos.line X.env=pure true)(hs:∀x,foldedSetIterable iter X.env x=pure x:=by intro _;rfl):PS X (.Assign [.Name y py] (.ListComp elt [⟨tg,iter,ifs,0⟩] scope pos) spos) (qf5 (Df wi nl fr g tt te) (iB i)):=by
 intro pins s σ H D I h;rw[exec_Assign_Name_used _ _ _ _ hsw];refine wpAny_bind (wpAny_standAt (wpAny_bind ?_));show wpAny _ X.A (do let _ <- comprehension (.ListComp elt [⟨tg,iter,ifs,0⟩] scope pos) scope X.env _ (newList []) false (eval iter X.env) (some (assign (.Name y py) X.env))) _ _ s;refine wpAny_bind (wpAny_mono (wpAny_comprehension_free (use:=some (assign (.Name y py) X.env)) (Q:=λ_ s'=>SP X pins D .next s') rfl hs ck.clos ck.kind ck.names
  (Ff (RR:=λacc C=>compPost (model X.prog X.w) X.A X.xe (some (assign (.Name y py) X.env)) (λ_ s'=>SP X pins D .next s') acc C) hc ck hi hg ht he I h λDd C s' hh=>?_)) (λ_ s' hq=>wpAny_pure (wpAny_pure hq)) λ_ _ e=>e)
 obtain⟨H',⟨m,hm⟩,hI,hF,q⟩:=hh;show wpAny _ X.A (assign (.Name y py) X.env (.ref Dd)) _ _ _;refine wpAny_assign_Name (yR hI hN hiy (.inl hy) (v:=.ref Dd) rfl (λs2 I2 hsb=>?_) (.inr hy));obtain⟨a,sb,ha⟩:=hsb;have hCa:C≠a:=by
  rcases ha with z | z
  .rw[z];exact hF.2.1
  .exact Ne.symm (hF.2.2.2.2.1 y a z)
 exists m,hm.sameBut sb hCa,λh' hs'=>⟨_,H',I2.off hF hs',q⟩
end
end L2
namespace Mq
abbrev Q2:=Int × Int
def gc (a b:Int):Int:=(Int.gcd a b:Nat)
theorem Kv (a b:Int):gc b (Int.fmod a b)=gc a b:=by
 unfold gc;rw[Int.fmod_def,Int.gcd_comm a b,Int.sub_eq_add_neg,<- Int.mul_neg,Int.gcd_add_mul_left_right]
theorem yO (h:b≠0):(Int.fmod a b).natAbs < b.natAbs:=by
 rcases (by lia:0 < b\/b < 0) with h1 | h1
 .have:=Int.fmod_nonneg_of_pos a h1;have:=Int.fmod_lt_of_pos a h1;lia
 .have h2:0 < -b:=by lia
  have e:Int.fmod a b=- Int.fmod (-a) (-b):=by
   rw[Int.neg_fmod_neg];lia
  have:=Int.fmod_nonneg_of_pos (-a) h2;have:=Int.fmod_lt_of_pos (-a) h2;lia
theorem Kz (a:Int):gc a 0=if a < 0 then -a else a:=by
 unfold gc;rw[Int.gcd_zero];split<;>lia
theorem wO (h:b≠0):0 < gc a b:=by
 have:=Int.gcd_pos_of_ne_zero_right a h;unfold gc;lia
structure Low (p:Q2):Prop where
 pos:1<=p.2
 one:gc p.1 p.2=1
def dvr (t b:Int):Int:=if b < 0 then -gc t b else gc t b
def red (t b:Int):Q2:=(Int.fdiv t (dvr t b),Int.fdiv b (dvr t b))
theorem rA (h:b≠0):dvr t b≠0:=by
 have:=wO (a:=t) h;unfold dvr;split<;>lia
theorem fA (hg:g≠0)(h:a=g*k):Int.fdiv a g=k:=by
 rw[h,Int.mul_fdiv_cancel_left _ hg]
theorem Vs (t b:Int):dvr t b ∣ t/\dvr t b ∣ b:=by
 have h1:gc t b ∣ t:=Int.gcd_dvd_left t b;have h2:gc t b ∣ b:=Int.gcd_dvd_right t b;unfold dvr;split
 .exists Int.neg_dvd.mpr h1,Int.neg_dvd.mpr h2
 .exists h1,h2
theorem rN (h:b≠0):t=dvr t b*(red t b).1/\b=dvr t b*(red t b).2:=by
 obtain⟨⟨x,hx⟩,⟨y,hy⟩⟩:=Vs t b;have hg:=rA (t:=t) h;have e1:(red t b).1=x:=fA hg hx;have e2:(red t b).2=y:=fA hg hy;rw[e1,e2];exists hx,hy
theorem gW (h:b≠0):Low (red t b):=by
 obtain⟨h1,h2⟩:=rN (t:=t) h;have hg:=rA (t:=t) h;have hp:=wO (a:=t) h;have nd:(dvr t b).natAbs=(gc t b).natAbs:=by unfold dvr;split<;>simp
 have e:Int.gcd t b=(dvr t b).natAbs*Int.gcd (red t b).1 (red t b).2:=by
  rw[<- Int.gcd_mul_left,<- h1,<- h2]
 have e2:(gc t b).natAbs=Int.gcd t b:=by unfold gc;simp
 rw[nd,e2] at e;have hp':0 < Int.gcd t b:=by unfold gc at hp;lia
 have one:Int.gcd (red t b).1 (red t b).2=1:=by
  have:Int.gcd t b*Int.gcd (red t b).1 (red t b).2=Int.gcd t b*1:=by lia
  exact Nat.eq_of_mul_eq_mul_left hp' this
 refine⟨?_,by unfold gc;rw[one];rfl⟩;have sgn:0 < (red t b).2:=by
  by_cases hb:b < 0
  .have hd:dvr t b < 0:=by unfold dvr;rw[if_pos hb];lia
   have hq:¬(red t b).2<=0:=λq=>by
    have:=Int.mul_nonneg_of_nonpos_of_nonpos (Int.le_of_lt hd) q;lia
   lia
  .have hd:0 < dvr t b:=by unfold dvr;rw[if_neg hb];lia
   have hq:¬(red t b).2<=0:=λq=>by
    have:=Int.mul_nonpos_of_nonneg_of_nonpos (Int.le_of_lt hd) q;lia
   lia
 lia
theorem qX (h:b≠0):(red t b).1*b=t*(red t b).2:=by
 obtain⟨h1,h2⟩:=rN (t:=t) h;generalize (red t b).1=x at *
 generalize (red t b).2=y at *
 generalize dvr t b=g at *
 subst h1 h2;grind
theorem jJ {a g k:Int}(hg:g≠0)(h:a=g*k):k.natAbs<=a.natAbs:=by
 rw[h,Int.natAbs_mul];exact Nat.le_mul_of_pos_left _ ()
theorem kT (h:b≠0):(red t b).1.natAbs<=t.natAbs/\(red t b).2.natAbs<=b.natAbs:=by
 obtain⟨h1,h2⟩:=rN (t:=t) h;exists jJ (rA h) h1,jJ (rA h) h2
theorem Gw (h:b≠0):(dvr t b).natAbs<=b.natAbs:=by
 have e:(dvr t b).natAbs=Int.gcd t b:=by unfold dvr gc;split<;>simp
 rw[e];exact Int.gcd_le_natAbs_right t h
theorem Pb (hp:Low p)(hq:Low q)(h:p.1*q.2=q.1*p.2):p=q:=by
 have gp:Int.gcd p.2 p.1=1:=by have:=hp.one;rw[Int.gcd_comm];unfold gc at this;lia
 have gq:Int.gcd q.2 q.1=1:=by have:=hq.one;rw[Int.gcd_comm];unfold gc at this;lia
 have d1:p.2 ∣ q.2:=by
  have:p.2 ∣ p.1*q.2:=⟨q.1,by rw[h,Int.mul_comm]⟩
  have:=Int.dvd_gcd_mul_iff_dvd_mul.mpr this;rw[gp] at this;simpa using this
 have d2:q.2 ∣ p.2:=by
  have:q.2 ∣ q.1*p.2:=⟨p.1,by rw[<- h,Int.mul_comm]⟩
  have:=Int.dvd_gcd_mul_iff_dvd_mul.mpr this;rw[gq] at this;simpa using this
 have l1:=Int.le_of_dvd (by have:=hq.pos;lia) d1;have l2:=Int.le_of_dvd (by have:=hp.pos;lia) d2;have e2:p.2=q.2:=by lia
 have e1:p.1=q.1:=by
  rw[e2] at h;exact Int.eq_of_mul_eq_mul_right (by have:=hq.pos;lia) h
 exact Prod.ext e1 e2
def gS (p q:Q2):Q2:=red (p.1*q.2+q.1*p.2) (p.2*q.2)
def fZ (p q:Q2):Q2:=red (p.1*q.2 - q.1*p.2) (p.2*q.2)
def tH (p q:Q2):Q2:=red (p.1*q.1) (p.2*q.2)
def tP (p q:Q2):Q2:=red (p.1*q.2) (p.2*q.1)
def tot (l:List Q2):Q2:=l.foldl gS (0,1)
theorem iE {a b:Int}(ha:1<=a)(hb:1<=b):a*b≠0:=by
 have:=Int.mul_pos (show 0 < a by lia) (show 0 < b by lia);lia
theorem jI (hp:1<=p.2)(hq:1<=q.2):Low (gS p q):=gW (iE hp hq)
theorem Hi (hp:1<=p.2)(hq:1<=q.2):(gS p q).1*(p.2*q.2)=(p.1*q.2+q.1*p.2)*(gS p q).2:=qX (iE hp hq)
def B (n:Nat)(i:Int):Prop:=i.natAbs < 2 ^ n
structure Bd (n:Nat) (p:Q2):Prop where
 a:B n p.1
 b:B n p.2
theorem B.mono (h:B n i)(l:n<=m):B m i:=Nat.lt_of_lt_of_le h (Nat.pow_le_pow_right ∅ l)
theorem B.mul (h:B n i)(q:B m j):B (n+m) (i*j):=by
 unfold B at *
 rw[Int.natAbs_mul,Nat.pow_add];exact Nat.mul_lt_mul'' h q
theorem B.add (h:B n i)(q:B n j):B (n+1) (i+j):=by
 unfold B at *
 have:=Int.natAbs_add_le i j;rw[Nat.pow_succ];lia
theorem B.neg (h:B n i):B n (-i):=by unfold B at *;lia
theorem B.sub (h:B n i)(q:B n j):B (n+1) (i - j):=by
 rw[Int.sub_eq_add_neg];exact h.add q.neg
theorem B.le (h:B n i)(l:j.natAbs<=i.natAbs):B n j:=Nat.lt_of_le_of_lt l h
theorem Bd.mono (h:Bd n p)(l:n<=m):Bd m p:=⟨h.a.mono l,h.b.mono l⟩
theorem uH (h:Bd n p)(g:Bd m q)(hp:1<=p.2)(hq:1<=q.2):Bd (n+m+1) (gS p q):=by
 have k:=kT (t:=p.1*q.2+q.1*p.2) (iE hp hq);have a2:B (n+m) (q.1*p.2):=by rw[Nat.add_comm];exact g.a.mul h.b
 exists ((h.a.mul g.b).add a2).le k.1,((h.b.mul g.b).mono (Nat.le_succ _)).le k.2
def D:List Q2->Int
 | []=>1
 |f :: r=>f.2*D r
def N:List Q2->Int
 | []=>0
 |f :: r=>f.1*D r+f.2*N r
theorem Yl (xs ys:List Q2):D (xs++ys)=D xs*D ys:=by
 induction xs with
 |nil=>simp[D]
 |cons x r ih=>simp only[cons_append,D,ih];grind
theorem qo7 (xs ys:List Q2):N (xs++ys)=N xs*D ys+D xs*N ys:=by
 induction xs with
 |nil=>simp[N,D]
 |cons x r ih=>simp only[cons_append,N,D,ih,Yl];grind
def Pos (l:List Q2):Prop:=∀f∈l,1<=f.2
theorem Nl:∀{p:Q2},Low p->Pos l->Low (l.foldl gS p):=by
 induction l with
 |nil=>intro p h _;exact h
 |cons x r ih=>intro p h k;exact ih (jI h.pos (k x ⋯)) λf hf=>k f (by simp[hf])
theorem Zj:Low (0,1):=⟨Int.le_refl 1,rfl⟩
theorem zU (h:Pos l):Low (tot l):=Nl Zj h
theorem De:∀{p:Q2},1<=p.2->Pos l->(l.foldl gS p).1*(p.2*D l)=(p.1*D l+p.2*N l)*(l.foldl gS p).2:=by
 induction l with
 |nil=>intro p h _;simp[D,N]
 |cons x r ih=>
  intro p h k;have hx:=k x ⋯;have kr:Pos r:=λf hf=>k f (by simp[hf]);have c:=Hi h hx;have hl:=jI h hx;have i:=ih hl.pos kr;simp only[foldl_cons,D,N];generalize (foldl gS (gS p x) r).1=a at *
  generalize (foldl gS (gS p x) r).2=b at *
  have ne:(gS p x).2≠0:=by have:=hl.pos;lia
  generalize (gS p x).1=u at *
  generalize (gS p x).2=v at *
  generalize D r=d at *
  generalize N r=n at *
  have:v*(a*(p.2*(x.2*d)))=v*((p.1*(x.2*d)+p.2*(x.1*d+x.2*n))*b):=by grind
  exact Int.eq_of_mul_eq_mul_left ne this
theorem Nb (h:Pos l):(tot l).1*D l=N l*(tot l).2:=by
 have:=De (p:=(0,1)) (Int.le_refl 1) h;unfold tot;simpa using this
theorem Uk:∀{n:Nat} {p:Q2},Bd n p->Low p->Pos l->(∀f∈l,Bd k f)->Bd (n+(k+1)*l.length) (l.foldl gS p):=by
 induction l with
 |nil=>intro n p h _ _ _;simpa using h
 |cons x r ih=>
  intro n p h hl hp hb;have q:=uH h (hb x ⋯) hl.pos (hp x ⋯);have:=ih q (jI hl.pos (hp x ⋯)) (λf hf=>hp f (by simp[hf])) λf hf=>hb f (by simp[hf]);refine this.mono ?_;simp only[length_cons,Nat.mul_add,Nat.mul_one];lia
theorem qe5 (hp:Pos l)(hb:∀f∈l,Bd k f):Bd (1+(k+1)*l.length) (tot l):=
 Uk ⟨show (0:Nat) < 2 ^ 1 by decide,show (1:Nat) < 2 ^ 1 by decide⟩ Zj hp hb
end Mq
open Mq (Gw Kv Kz Low dvr fA fZ gS gW gc iE jI kT rA red tH tP tot uH yO zU)
namespace L2
open PySem PySem.Spec PyProof.Rows
structure aX (K:Frag) (x qual:Str) (st:Stmt) (dV:Value) (f:Addr) (fd:FuncData):Prop where
 ex:∃(oc:Value) (od:Option Addr) (kV doc pm:Value) (an:Option Addr) (cdv ct:Value) (osl:Array (Option Value)),
  fd=W.fnOf x qual (fM st) (eK st) (aH st) dV kV doc pm an cdv ct/\K.lookup f=some ⟨oc,od,.func fd,osl⟩/\W.codeIn K cdv qual=true
 kp:W.keepIn K (.ref f)=true
section
variable {P:Program} {w:World} {K:Frag} {mg:Str->Option Value} {base:Heap} {CX:CXT}
theorem aX.okX {st:Stmt}(F:aX K x qual st dV f fd)(S:aQ N ps (aH st))(len:∀vs H Q E,sp vs H Q E->vs.length=ps.length)(hbody:∀(cdv:Value) (A:Around) (outer:List Env) (s:Shared) (H:Hp) (vs:List V) (Q:VK) (E:XK),gR k (A.deeper (envOfC qual (aH st) s.heap.objs.size f cdv))->sp vs H Q E->
   ∃t,PSs (xJ CX P w K mg base N qual (aH st) f cdv A outer s H E) (eK st) t/\t { nx:=λ_ H'=>Q .non H',rt:=Q } (start N vs) H):aJ P w K mg base CX (k+1) f fd ps sp:=by
 obtain⟨oc,od,kV,doc,pm,an,cdv,ct,osl,rfl,lk,hcd⟩:=F.ex;exact qj5 lk hcd S len λA outer s H vs Q E hr hsp=>hbody cdv A outer s H vs Q E hr hsp
theorem aX.ok {st:Stmt}(F:aX K x qual st dV f fd)(S:aQ N ps (aH st))(len:∀vs H Q E,sp vs H Q E->vs.length=ps.length)(hbody:∀(cdv:Value) (A:Around) (outer:List Env) (s:Shared) (H:Hp) (vs:List V) (Q:VK) (E:XK),gR k (A.deeper (envOfC qual (aH st) s.heap.objs.size f cdv))->sp vs H Q E->
   ∃t,PSs (xJ CX P w K mg base N qual (aH st) f cdv A outer s H E).nox (eK st) t/\t { nx:=λ_ H'=>Q .non H',rt:=Q } (start N vs) H):aJ P w K mg base CX (k+1) f fd ps sp:=
 F.okX S len λcdv A outer s H vs Q E hr hsp=>by
  obtain⟨t,h,q⟩:=hbody cdv A outer s H vs Q E hr hsp;exists t,h.nox,q
theorem aX.ok9 {st:Stmt}(F:aX K x qual st dV f fd)(S:aQ N ps (aH st))(hbody:∀(cdv:Value) (A:Around) (outer:List Env) (s:Shared) (H:Hp) (vs:List V) (Q:VK) (E:XK),gR k (A.deeper (envOfC qual (aH st) s.heap.objs.size f cdv))->sp vs H Q E->
   ∃t,PSs (xJ CX P w K mg base N qual (aH st) f cdv A outer s H E).nox (eK st) t/\t { nx:=λ_ H'=>Q .non H',rt:=Q } (start N vs) H)(len:∀vs H Q E,sp vs H Q E->vs.length=ps.length:=by intro _ _ _ _ h;first|(cases h;subst_vars;rfl)|(repeat (first | (obtain⟨rfl,_⟩:=h;rfl) | obtain⟨_,h⟩:=h))):aJ P w K mg base CX (k+1) f fd ps sp:=F.ok S len hbody
theorem aX.binds {st:Stmt}(F:aX K x qual st dV f fd)(h:∀(kV doc pm:Value) (an:Option Addr) (cdv ct:Value) (us:List Value),us.length=ps.length->bindArgs (W.fnOf x qual (fM st) (eK st) (aH st) dV kV doc pm an cdv ct) ⟨us,[]⟩=pure (ps.zip us)):aL K fd ps []:=by
 obtain⟨oc,od,kV,doc,pm,an,cdv,ct,osl,rfl,lk,hcd⟩:=F.ex;exact .all (h kV doc pm an cdv ct)
theorem zS {st:Stmt}{kV doc pm cdv ct:Value}(l:K.lookup f=some ⟨oc,od,.func (W.fnOf x qual (fM st) (eK st) (aH st) dV kV doc pm an cdv ct),osl⟩)(c:W.codeIn K cdv qual=true)(k:kI9 K f):aX K x qual st dV f (W.fnOf x qual (fM st) (eK st) (aH st) dV kV doc pm an cdv ct):=⟨⟨oc,od,kV,doc,pm,an,cdv,ct,osl,rfl,l,c⟩,k⟩
end
abbrev fT (p:Mq.Q2):HO:=.tup [.int p.1,.int p.2]
def Fq (K:Frag)(H:Hp)(a:Addr)(p:Mq.Q2):Prop:=SqT K H a [.int p.1,.int p.2]
theorem aP.seqT {K:Frag}(e:aP H H')(h:SqT K H a xs):SqT K H' a xs:=by
 rcases h with (h | ⟨o,h⟩) | h
 .exact .inl (.inl (e _ _ h))
 .exact .inl (.inr ⟨o,e _ _ h⟩)
 .exact .inr h
theorem aE (h:H p=none)(o:HO):aP H (upd H p o):=λb u q=>by rw[aU (bA q h)];exact q
theorem nw {H:Hp}{x:Addr}(h:H x=none)(o:HO):∃H1,upd H x o=H1/\aP H H1/\H1 x=some o:=⟨_,rfl,aE h o,aB⟩
theorem aP.fq {K:Frag}(e:aP H H')(h:Fq K H a p):Fq K H' a p:=e.seqT h
theorem Fq.of {K:Frag}(h:H a=some (fT p)):Fq K H a p:=SqT.of h
theorem eS {K:Frag}(hv:σ[i]?=some (some (.ref a)))(h:Fq K H a p)(q:Q (.int p.1) H):tOp (Qs K) (Pp i) (tC (.int 0)) σ H Q:=
 ⟨_,hv,a,_,_,_,rfl,rfl,h,rfl,q⟩
theorem cW {K:Frag}(hv:σ[i]?=some (some (.ref a)))(h:Fq K H a p)(q:Q (.int p.2) H):tOp (Qs K) (Pp i) (tC (.int 1)) σ H Q:=
 ⟨_,hv,a,_,_,_,rfl,rfl,h,rfl,q⟩
theorem bV (h1:Mq.B n i)(h2:Mq.B m j)(h3:n<=1048576)(h4:m<=1048576)(q:Q (.int (i*j)) H):rI Xu (λi j=>.int (i*j)) (.int i) (.int j) H Q:=
 ⟨_,_,rfl,rfl,⟨n,m,h1,h2,h3,h4⟩,q⟩
theorem hZ (h1:j≠0)(h2:Mq.B n j)(h3:n<=9000)(q:Q (.int (i.fdiv j)) H):rI Kq (λi j=>.int (i.fdiv j)) (.int i) (.int j) H Q:=
 ⟨_,_,rfl,rfl,⟨h1,n,h2,h3⟩,q⟩
structure Bl (mg:Str->Option Value):Prop where
 isi:mg "isinstance"=none
 int:mg "int"=none
 bool:mg "bool"=none
 abs:mg "abs"=none
def qD (t:Value):Prop:=t=.type "bool"\/t=.type "str"\/t=.type "NoneType"\/t=.type "tuple"\/t=.type "list"
inductive nX (K:Frag) (vs:List V) (H:Hp) (Q:VK) (E:XK):Prop where
 |mk (x):vs=[x]->((∃i,x=.int i/\Q (.bl true) H)\/(∃t,kD K H x t/\qD t/\Q (.bl false) H))->nX K vs H Q E
inductive Dh (vs:List V) (H:Hp) (Q:VK) (E:XK):Prop where
 |mk (a b:Int):vs=[.int a,.int b]->Q (.int (gc a b)) H->Dh vs H Q E
def xD (H:Hp)(Q:VK)(p:Mq.Q2):Prop:=∀a H',aP H H'->H' a=some (fT p)->Q (.ref a) H'
inductive nI (vs:List V) (H:Hp) (Q:VK) (E:XK):Prop where
 |mk (t b:Int) (n:Nat):vs=[.int t,.int b]->b≠0->Mq.B n b->n<=9000->xD H Q (red t b)->nI vs H Q E
inductive lP (K:Frag) (f:Mq.Q2->Mq.Q2->Mq.Q2) (vs:List V) (H:Hp) (Q:VK) (E:XK):Prop where
 |mk (a b:Addr) (p q:Mq.Q2) (n m:Nat):vs=[.ref a,.ref b]->Fq K H a p->Fq K H b q->1<=p.2->1<=q.2->Mq.Bd n p->Mq.Bd m q->n+m+1<=9000->xD H Q (f p q)->lP K f vs H Q E
inductive Fqs (K:Frag) (H:Hp):List V->List Mq.Q2->Prop where
 |nil:Fqs K H [] []
 |cons {a:Addr} {p:Mq.Q2} {xs:List V} {ps:List Mq.Q2} (h:Fq K H a p) (q:Fqs K H xs ps):Fqs K H (.ref a :: xs) (p :: ps)
theorem Fqs.same {K:Frag}(e:aP H H'):∀{xs:List V} {ps:List Mq.Q2},Fqs K H xs ps->Fqs K H' xs ps
 |_,_,.nil=>.nil
 |_,_,.cons h q=>.cons (e.fq h) (Fqs.same e q)
theorem Fqs.length {K:Frag}:∀{xs:List V} {ps:List Mq.Q2},Fqs K H xs ps->xs.length=ps.length
 |_,_,.nil=>rfl
 |_,_,.cons _ q=>by simp[Fqs.length q]
theorem Fqs.get {K:Frag}:∀{xs:List V} {ps:List Mq.Q2} {i:Nat} {x:V},Fqs K H xs ps->xs[i]?=some x->∃a p,x=.ref a/\ps[i]?=some p/\Fq K H a p
 |_,_,_,_,.nil,h=>by simp at h
 |_,_,0,_,.cons h _,e=>by simp at e;exists _,_,e.symm,rfl,h
 |_,_,i+1,_,.cons _ q,e=>by simpa using Fqs.get q (by simpa using e)
theorem Fqs.app {K:Frag}:∀{xs ys:List V} {ps qs:List Mq.Q2},Fqs K H xs ps->Fqs K H ys qs->Fqs K H (xs++ys) (ps++qs)
 |_,_,_,_,.nil,r=>r
 |_,_,_,_,.cons h q,r=>.cons h (Fqs.app q r)
theorem Fqs.take {K:Frag}:∀{xs:List V} {ps:List Mq.Q2} (n:Nat),Fqs K H xs ps->Fqs K H (xs.take n) (ps.take n)
 |_,_,_,.nil=>by simp;exact .nil
 |_,_,0,.cons _ _=>.nil
 |_,_,n+1,.cons h q=>.cons h (Fqs.take n q)
theorem Fq.upd {K:Frag}(h:Fq K H a p)(hl:H l=some (.lst xs)):Fq K (L2.upd H l o) a p:=by
 rcases h with (h | ⟨u,h⟩) | h
 .exact .inl (.inl (by rw[aU (jG h hl (λz=>by cases z))];exact h))
 .exact .inl (.inr ⟨u,by rw[aU (jG h hl (λz=>by cases z))];exact h⟩)
 .exact .inr h
theorem Fqs.upd {K:Frag}(hl:H l=some (.lst ys)):∀{xs:List V} {ps:List Mq.Q2},Fqs K H xs ps->Fqs K (L2.upd H l o) xs ps
 |_,_,.nil=>.nil
 |_,_,.cons h q=>.cons (h.upd hl) (Fqs.upd hl q)
theorem aP.change (s:aP H H')(h:H l=none):aP H (L2.upd H' l o):=λb u q=>by
 rw[aU (bA q h)];exact s b u q
def qd (p:Mq.Q2):PyData:=.tuple [.int p.1,.int p.2]
theorem Fq.dat {K:Frag}(h:Fq K H a p):pA K H (.ref a) (qd p):=.tup h (.cons (.int _) (.cons (.int _) .nil))
theorem Fqs.dat {K:Frag}:∀{xs:List V} {ps:List Mq.Q2},Fqs K H xs ps->pP K H xs (ps.map qd)
 |_,_,.nil=>.nil
 |_,_,.cons h q=>.cons h.dat (Fqs.dat q)
theorem Hy (p:Mq.Q2):(qd p).canLay0=true:=rfl
theorem pQ:∀ps:List Mq.Q2,PyData.canLayAll0 (ps.map qd)=true
 | []=>rfl
 |p :: r=>by
  show ((qd p).canLay0 && PyData.canLayAll0 (r.map qd))=true;rw[Hy,pQ r];rfl
theorem Dq (p:Mq.Q2):(qd p).depth<=1:=by simp[qd,PyData.depth,PyData.depthAll]
theorem rE:∀ps:List Mq.Q2,PyData.depthAll (ps.map qd)<=1
 | []=>by simp[PyData.depthAll]
 |p :: r=>by
  have a:=Dq p;have b:=rE r;simp only[map_cons,PyData.depthAll];lia
theorem Gx (ps:List Mq.Q2):(PyData.list (ps.map qd)).depth<=2:=by
 have:=rE ps;simp only[PyData.depth];lia
theorem qc3 (p q:Mq.Q2):PyData.eqv (qd p) (qd q)=decide (p=q):=by
 unfold qd;simp only[PyData.eqv,PyData.eqvAll]
 by_cases h:p=q
 .subst h;simp
 .rw[decide_eq_false h]
  by_cases h1:p.1=q.1
  .have h2:p.2≠q.2:=λz=>h (Prod.ext h1 z);simp[h2]
  .simp[h1]
theorem qd9 {K:Frag}(h1:Fq K H a p)(h2:Fq K H b q)(z:Q (.bl (if neg then !decide (p=q) else decide (p=q))) H):zI K neg (.ref a) (.ref b) H Q:=by
 exists _,_,h1.dat,h2.dat,Hy p,Hy q,?_,?_
 .have:=Dq p;lia
 .rw[qc3];exact z
theorem qe8 {K:Frag}(h1:SqL K H a xs)(h2:SqL K H b ys)(f1:Fqs K H xs ps)(f2:Fqs K H ys ps)(z:Q (.bl (!neg)) H):zI K neg (.ref a) (.ref b) H Q:=by
 exists _,_,.lst h1 f1.dat,.lst h2 f2.dat,?_,?_,?_,?_
 .exact pQ ps
 .exact pQ ps
 .have:=Gx ps;lia
 .have e:PyData.eqv (.list (ps.map qd)) (.list (ps.map qd))=true:=PySem.SeqAt.eqv_refl _ (pQ ps);rw[e]
  cases neg<;>exact z
abbrev Js (nl:Nat)(fr:List Nat)(g:TG)(tt:TT)(te:TE)(σ:St)(D:Addr)(Pv:Nat->List V->Hp->Prop)(i:Nat)(ys:List V)(x:V)(H:Hp):Prop:=
 g x (σC nl fr σ) H λσ2 H4=>σ2.length=(σC nl fr σ).length/\(∀(i:Nat) v,(σC nl fr σ)[i]?=some (some v)->σ2[i]?=some (some v))/\
  tt σ2 H4 λb H5=>if b=true then te σ2 H5 λy H6=>H6 D=some (.lst ys)/\ys.length < sizeLine/\Pv (i+1) (ys++[y]) (upd H6 D (.lst (ys++[y]))) else Pv (i+1) ys H5
section
variable {nl:Nat} {fr:List Nat} {g:TG} {tt:TT} {te:TE} {σ:St} {D:Addr} {H1:Hp} {Q:VK}
theorem fV {lo:Int}(Pv:Nat->List V->Hp->Prop)(h0:Pv 0 [] (upd H1 D (.lst [])))(hl:∀i ys H,Pv i ys H->H D=some (.lst ys))(hs:∀i ys H,i < n->Pv i ys H->∀(C:Nat->List V->Hp->Prop),(∀ys H,Pv (i+1) ys H->C (i+1) ys H)->Js nl fr g tt te σ D C i ys (.int (lo+i)) H)(hd:∀ys H,Pv n ys H->Q (.ref D) H):
  Fe (Itr lo n) nl fr g tt te σ D H1 Q:=by
 exists λi m ys H=>m=n - i/\i<=n/\Pv i ys H,⟨n,⋯,Nat.zero_le _,h0⟩,?_;rintro i m ys H ⟨rfl,hi,p⟩;exists hl i ys H p,?_
 by_cases hlt:i < n
 .refine .inr ⟨hlt,λx H' y=>?_⟩;obtain⟨e,y⟩:=y;subst e y;exact hs i ys _ hlt p (λj zs Hz=>∃m',m' < n - i/\m'=n - j/\j<=n/\Pv j zs Hz) λzs Hz z=>⟨n - (i+1),(),rfl,hlt,z⟩
 .have e:i=n:=by lia
  subst e;exact .inl ⟨Nat.le_refl _,hd ys H p⟩
theorem cB {K:Frag}(Pv:Nat->List V->Hp->Prop)(h0:Pv 0 [] (upd H1 D (.lst [])))(hl:∀i ys H,Pv i ys H->H D=some (.lst ys))(hx:∀i ys H,i<=xs.length->Pv i ys H->SqL K H a xs)(hs:∀i ys x H,xs[i]?=some x->Pv i ys H->∀(C:Nat->List V->Hp->Prop),(∀ys H,Pv (i+1) ys H->C (i+1) ys H)->Js nl fr g tt te σ D C i ys x H)(hd:∀ys H,Pv xs.length ys H->Q (.ref D) H):
  Fe (Itl K a) nl fr g tt te σ D H1 Q:=by
 exists λi m ys H=>m=xs.length - i/\i<=xs.length/\Pv i ys H,⟨xs.length,⋯,Nat.zero_le _,h0⟩,?_;rintro i m ys H ⟨rfl,hi,p⟩;exists hl i ys H p,?_;have q:=hx i ys H hi p
 by_cases hlt:i < xs.length
 .refine .inr ⟨⟨xs,xs[i],q,by simp[hlt]⟩,λx H' y=>?_⟩;obtain⟨e,y⟩:=y;subst e;exact hs i ys x _ (y xs q) p (λj zs Hz=>∃m',m' < xs.length - i/\m'=xs.length - j/\j<=xs.length/\Pv j zs Hz) λzs Hz z=>⟨xs.length - (i+1),(),rfl,hlt,z⟩
 .have e:i=xs.length:=by lia
  subst e;exact .inl ⟨⟨xs,q,Nat.le_refl _⟩,hd ys H p⟩
end
theorem bU:((σC 1 fr σ).set 0 (some x)).length=(σC 1 fr σ).length/\∀(i:Nat) v,(σC 1 fr σ)[i]?=some (some v)->((σC 1 fr σ).set 0 (some x))[i]?=some (some v):=by
 exists ⋯,λi v h=>?_
 match i with
 |0=>unfold σC at h;simp at h
 |k+1=>rw[getElem?_set_ne ()];exact h
theorem cG {names:List (Str × NameKind)}{cl:List (Str × Addr)}(h:names.all (λy=>!(y.2 == .cell || y.2 == .free) || (cl.lookup y.1).isSome)=true)(x:Str)(hx:names.lookup x=some .cell\/names.lookup x=some .free):∃c,cl.lookup x=some c:=by
 have key:∀k,(k=NameKind.cell\/k=NameKind.free)->names.lookup x=some k->∃c,cl.lookup x=some c:=λk hk e=>by
  have m:=all_eq_true.mp h _ (PySem.mem_of_lookup e);have:(k == NameKind.cell || k == NameKind.free)=true:=by rcases hk with rfl | rfl<;>rfl
  simp only[this,Bool.not_true,Bool.false_or] at m;exact Option.isSome_iff_exists.mp m
 rcases hx with e | e
 .exact key _ (.inl rfl) e
 .exact key _ (.inr rfl) e
section
variable {X:Cx} {pins:List (Addr × Obj)} {σ:St} {H:Hp} {s:Shared} {h':Heap}
theorem Inv.turnedL {fp:List Addr}(I:Inv X pins σ H s)(k:∀b o,b∉fp->s.heap.get? b=some o->h'.get? b=some o)(hf:∀b∈fp,jM X pins H b):Inv X pins σ H { s with heap:=h',toks:=t' }:=by
 have nit:∀b u,H b=some u->b∉fp:=λb u e z=>by rw[(hf b z).1] at e;cases e
 have nL:X.env.locals∉fp:=λz=>(hf _ z).2.1 rfl;refine I.step (g':=s.gens) (d':=s.drawn) (ch:=fp) (λb hb=>?_) (λb o _ _ hc e _=>k b o hc e) (λb o _ _ hc e _=>⟨o.slots,k b o hc e⟩) (λ_ _ _ _ n=>n)
  (λb o hc e=>⟨o,k b o hc e⟩) (λ_ _ e=>e) (λ_ _ _ e=>e) (λb ps e=>⟨#[],by rw[e];simp⟩) (λm hm=>?_) (λb u e=>?_) I.bare
 .obtain⟨f0,f1,f2,f3,f4,f5⟩:=hf b hb;exists f3,f1,f4,f5
 .obtain⟨o,es,ep,ho,r⟩:=hm;exists o,es,ep,k _ o nL ho,r
 .refine(I.hok b u e).stay (λc v hc q=>k c v ?_ q) (λ_ q=>q) λ_ _ q=>q;rcases hc with z | z
  .rw[z];exact nit b u e
  .exact nit c _ z
end
def Itz (K : Frag)(a b : Addr) : It :=
  ⟨λi H => ∃ xs ys x y, SqL K H a xs /\ SqL K H b ys /\ xs[i]? = some x /\ ys[i]? = some y,
   λi H v H' => ∃ T x y, v = .ref T /\ H T = none /\ H' = upd H T (.tup [x, y]) /\ ∀ xs ys, SqL K H a xs -> SqL K H b ys -> xs[i]? = some x /\ ys[i]? = some y,
   λi H => ∃ xs ys, SqL K H a xs /\ SqL K H b ys /\ (xs.length <= i \/ ys.length <= i)⟩
def ql9 (z TI TO i1 i2 l1 l2:Addr)(i:Nat)(h:Heap):Prop:=
 ZipApart z TI TO i1 i2 l1 l2/\IsZip h z TI TO .none/\IsPair h TI (.ref i1) (.ref i2)/\(∃a b,IsPair h TO a b)/\h.IsListIter i1 l1 i/\h.IsListIter i2 l2 i
theorem Ph {K:Frag}(z TI TO i1 i2 l1 l2:Addr):
  Ms P w K (.Tuple elts kk tpos) (Itz K l1 l2) [z,TI,TO,i1,i2] z (ql9 z TI TO i1 i2 l1 l2) where
 mem:=by simp
 obj:=λi h st b hb=>by
  obtain⟨ap,hz,hi,⟨a,c,ho⟩,⟨o1,e1,c1,d1⟩,⟨o2,e2,c2,d2⟩⟩:=st;simp only[mem_cons,not_mem_nil,or_false] at hb;rcases hb with rfl | rfl | rfl | rfl | rfl
  .exists _,hz,λv q=>by cases q
  .exists _,hi,λv q=>by cases q
  .exists _,ho,λv q=>by cases q
  .exists o1,e1,λv q=>by rw[d1] at q;cases q
  .exists o2,e2,λv q=>by rw[d2] at q;cases q
 keep:=λi h h' st k=>by
  obtain⟨ap,hz,hi,⟨a,c,ho⟩,⟨o1,e1,c1,d1⟩,⟨o2,e2,c2,d2⟩⟩:=st;exists ap,k _ ⋯ _ hz,k _ ⋯ _ hi,⟨a,c,k _ ⋯ _ ho⟩,⟨o1,k _ ⋯ _ e1,c1,d1⟩,⟨o2,k _ ⋯ _ e2,c2,d2⟩
 item:=by
  intro X hP hw hK hc i pins s σ H E I hf st hg;subst hP hw hK;obtain⟨ap,hz,hi,⟨a,c,ho⟩,t1,t2⟩:=st;obtain⟨xs,ys,x,y,hx,hy,ex,ey⟩:=hg;obtain⟨its1,rv1,p1,z1⟩:=I.list hx;obtain⟨its2,rv2,p2,z2⟩:=I.list hy;obtain⟨u1,hu1,ru1⟩:=rv1.get ex;obtain⟨u2,hu2,ru2⟩:=rv2.get ey;refine wpAny_pyNext_zip_item ap hz hi ho t1 t2 p1.isList p2.isList (x:=u1) (y:=u2) (by simpa using hu1) (by simpa using hu2) λh' g1 g2 g3 g4 g5 g6 kk'=>?_;have hn:H s.heap.objs.size=none:=I.hok.fresh (Nat.le_refl _);have lt:∀b∈[z,TI,TO,i1,i2],b < s.heap.objs.size:=λb hb=>by
   simp only[mem_cons,not_mem_nil,or_false] at hb;obtain⟨o1,e1,_⟩:=t1;obtain⟨o2,e2,_⟩:=t2;rcases hb with rfl | rfl | rfl | rfl | rfl
   .exact Heap.lt_size hz
   .exact Heap.lt_size hi
   .exact Heap.lt_size ho
   .exact Heap.lt_size e1
   .exact Heap.lt_size e2
  have I1:Inv X pins σ (upd H s.heap.objs.size (.tup [x,y])) { s with heap:=s.heap.push { cls:=.type "tuple",data:=.seq #[u1,u2] } }:=
   I.laid (t':=s.toks) (λb o e=>Heap.get?_push_of_some _ e) (Nat.le_refl _) (show cY X.prog X.w _ _ _ (.tup [x,y]) from ⟨zl9 2,[u1,u2],.cons ru1 (.cons ru2 .nil),IsTup.new _ _⟩)
  have hf1:∀b∈[z,TI,TO,i1,i2],jM X pins (upd H s.heap.objs.size (.tup [x,y])) b:=λb hb=>⟨by rw[aU (Nat.ne_of_lt (lt b hb))];exact(hf b hb).1,(hf b hb).2⟩
  have k1:∀b o,b∉[z,TI,TO,i1,i2]->(s.heap.push { cls:=.type "tuple",data:=.seq #[u1,u2] }).get? b=some o->h'.get? b=some o:=λb o nb e=>by
   simp only[mem_cons,not_mem_nil,or_false,not_or] at nb
   by_cases hb:b=s.heap.objs.size
   .subst hb;rw[Heap.get?_push_size _ rfl] at e
    cases e
    exact g5
   .have e0:s.heap.get? b=some o:=by rw[Heap.get?_push_ne _ _ _ hb] at e;exact e
    exact kk' b o nb.1 nb.2.2.1 nb.2.2.2.1 nb.2.2.2.2 e0
  have I2:Inv X pins σ (upd H s.heap.objs.size (.tup [x,y])) { s with heap:=h',toks:=s.toks }:=I1.turnedL (t':=s.toks) k1 hf1;exists _,rfl,wpAny_letOwnedTupleGo_zip (s:={ s with heap:=h' }) g1 λh2 q1 q2=>?_;have kz:∀b o,b≠z->h'.get? b=some o->h2.get? b=some o:=λb o nb e=>(q2.2 b nb).trans e;have I3:Inv X pins σ (upd H s.heap.objs.size (.tup [x,y])) { s with heap:=h2,toks:=s.toks }:=Inv.turnedL (s:={ s with heap:=h',toks:=s.toks }) (t':=s.toks) (fp:=[z]) I2 (λb o nb e=>kz b o (by simpa using nb) e) λb hb=>hf1 b (by simp at hb;simp[hb]);have hTI:h'.get? TI=some { cls:=.type "tuple",data:=.seq #[.ref i1,.ref i2] }:=kk' TI _ ap.TIz ap.TITO ap.TIi1 ap.TIi2 hi;obtain⟨o3,e3,c3,d3⟩:=g3;obtain⟨o4,e4,c4,d4⟩:=g4;exists .ref s.heap.objs.size,_,I3,rfl,⟨_,x,y,rfl,hn,rfl,λxs' ys' h1 h2=>?_⟩,⟨ap,q1,kz _ _ ap.TIz hTI,⟨_,_,kz _ _ ap.TOz g2⟩,⟨o3,kz _ _ ap.i1z e3,c3,d3⟩,⟨o4,kz _ _ ap.i2z e4,c4,d4⟩⟩,λb hb=>(hf1 b hb).1;rw[I.list_inj h1 hx,I.list_inj h2 hy];exists ex,ey
 done:=by
  intro X hP hw hK hc i pins s σ H E I hf st hg;subst hP hw hK;obtain⟨ap,hz,hi,⟨a,c,ho⟩,t1,t2⟩:=st;obtain⟨xs,ys,hx,hy,hor⟩:=hg;obtain⟨its1,rv1,p1,z1⟩:=I.list hx;obtain⟨its2,rv2,p2,z2⟩:=I.list hy;have l1':=rv1.length;have l2':=rv2.length;refine wpAny_pyNext_zip_end (I.ok.hd hc) ap hz hi ho t1 t2 p1.isList p2.isList (by rcases hor with h | h;left;simp;lia;right;simp;lia) λh' kk'=>⟨rfl,?_⟩
  refine I.turnedL (t':=s.toks) (λb o nb e=>?_) hf;simp only[mem_cons,not_mem_nil,or_false,not_or] at nb;exact kk' b o nb.1 nb.2.2.1 nb.2.2.2.1 nb.2.2.2.2 e
 self:=λA i s Q E st h=>by
  obtain⟨ap,hz,hi,⟨a,c,ho⟩,t1,t2⟩:=st;exact wpAny_pyIter_zip hz h
section
variable {X:Cx}
def qp8 (K:Frag)(ta:TA):TI:=λσ H R=>ta σ H λvs H1=>∃a b,vs=[.ref a,.ref b]/\(∃xs,SqL K H1 a xs)/\(∃ys,SqL K H1 b ys)/\R (Itz K a b) H1
theorem lD (hg:Gl X "zip")(hm:X.mg "zip"=none)(hv:bootBuiltins "zip"=some (.type "zip"))(ha:PA X [e1,e2] ta)(hs:starEach [e1,e2] X.env=(false,eval e1 X.env) :: starEach [e2] X.env:=by rfl)(hpl:(backTo pos (starEach [e2] X.env)).any (·.1)=false:=by rfl):PI X (.Tuple elts kk tpos) (.Call (.Name "zip" p) [e1,e2] [] pos) (qp8 X.K ta):=by
 intro pins s σ H R I h;refine Call_ (iG I hg hm hv (PyProof.Rows.callWith_type1 (thn (ha pos pins s σ H _ I h) λus s1 ⟨vs,H1,I1,r1,q1⟩=>?_) hs hpl));obtain⟨a,b,rfl,⟨xs,hx⟩,⟨ys,hy⟩,q⟩:=q1;obtain⟨u,w',rfl,ra,rb⟩:=Oy r1
 cases (show u=Value.ref a from ra)
 cases (show w'=Value.ref b from rb)
 obtain⟨its1,rv1,p1,z1⟩:=I1.list hx;obtain⟨its2,rv2,p2,z2⟩:=I1.list hy;have la:a < s1.heap.objs.size:=by obtain⟨o,e,_⟩:=p1.isList;exact Heap.lt_size e
 have lb:b < s1.heap.objs.size:=by obtain⟨o,e,_⟩:=p2.isList;exact Heap.lt_size e
 refine call_zip_2 p1.isList p2.isList λh' g1 g2 g3 g4 g5 g6 kk'=>?_;refine wpAny_pyIter_zip g1 ?_;have ne:∀i j:Nat,i≠j->s1.heap.objs.size+i≠s1.heap.objs.size+j:=λi j n e=>n (Nat.add_left_cancel e);have nl:∀(c:Addr) (i:Nat),c < s1.heap.objs.size->c≠s1.heap.objs.size+i:=λc i l e=>absurd (Nat.lt_of_lt_of_le l (Nat.le_add_right _ i)) (by rw[<- e];exact Nat.lt_irrefl _);have n0:∀j:Nat,j≠0->s1.heap.objs.size+j≠s1.heap.objs.size:=λj n e=>n (Nat.add_left_cancel (e.trans (Nat.add_zero _).symm));exists s1.heap.objs.size+4,[s1.heap.objs.size+4,s1.heap.objs.size+2,s1.heap.objs.size+3,s1.heap.objs.size,s1.heap.objs.size+1],_,Itz X.K a b,H1,rfl,I1.kept (t':=s1.toks) kk',Ph _ _ _ _ _ a b,⟨?_,g1,g2,⟨_,_,g3⟩,g4,g5⟩,λc hc=>?_,q
 .exact⟨ne 2 4 ∅,ne 3 4 ∅,(n0 4 ∅).symm,ne 1 4 ∅,ne 2 3 ∅,n0 2 ∅,ne 2 1 ∅,n0 3 ∅,ne 3 1 ∅,(n0 1 ∅).symm,
   nl a 4 la,nl a 3 la,Nat.ne_of_lt la,nl a 1 la,nl b 4 lb,nl b 3 lb,Nat.ne_of_lt lb,nl b 1 lb⟩
 .have hle:s1.heap.objs.size<=c:=by
   simp only[mem_cons,not_mem_nil,or_false] at hc;rcases hc with rfl | rfl | rfl | rfl | rfl<;>first | exact Nat.le_add_right _ _ | exact Nat.le_refl _
  exact I1.fpOk hle (I1.hok.fresh hle)
theorem Cl {K:Frag}{g:TG}{tb:TS}{D:jN}(Pv:Nat->St->Hp->Prop)(h0:Pv 0 σ H)(hl:∀i σ H,i<=min xs.length ys.length->Pv i σ H->SqL K H a xs/\SqL K H b ys)(hs:∀i x y σ H T,xs[i]?=some x->ys[i]?=some y->Pv i σ H->H T=none->g (.ref T) σ (upd H T (.tup [x,y])) λσ2 H2=>tb { D with nx:=Pv (i+1),ct:=Pv (i+1),bk:=D.nx } σ2 H2)(hd:∀σ H,Pv (min xs.length ys.length) σ H->D.nx σ H):
  ∃W:Nat->Nat->St->Hp->Prop,(∃m,W 0 m σ H)/\∀i m σ H,W i m σ H->
   ((Itz K a b).stop i H/\D.nx σ H)\/((Itz K a b).go i H/\∃N:St->Hp->Prop,(∀σ' H',N σ' H'->∃m',m' < m/\W (i+1) m' σ' H')/\∀x H',(Itz K a b).yld i H x H'->g x σ H' λσ2 H2=>tb { D with nx:=N,ct:=N,bk:=D.nx } σ2 H2):=by
 exists λi m σ H=>m=min xs.length ys.length - i/\i<=min xs.length ys.length/\Pv i σ H,⟨_,rfl,Nat.zero_le _,h0⟩,?_;rintro i m σ H ⟨rfl,hi,p⟩;obtain⟨qx,qy⟩:=hl i σ H hi p
 by_cases hlt:i < min xs.length ys.length
 .have hx:i < xs.length:=by lia
  have hy:i < ys.length:=by lia
  refine .inr ⟨⟨xs,ys,xs[i],ys[i],qx,qy,by simp[hx],by simp[hy]⟩,Pv (i+1),λσ' H' p'=>⟨min xs.length ys.length - (i+1),(),rfl,hlt,p'⟩,λv H' z=>?_⟩;obtain⟨T,x,y,rfl,hT,rfl,hh⟩:=z;obtain⟨ex,ey⟩:=hh xs ys qx qy;exact hs i x y σ H T ex ey p hT
 .have e:i=min xs.length ys.length:=by lia
  subst e;exact .inl ⟨⟨xs,ys,qx,qy,()⟩,hd σ H p⟩
theorem kF {K:Frag}(Pv:Nat->List V->Hp->Prop)(h0:Pv 0 [] (upd H1 D (.lst [])))(hl:∀i zs H,Pv i zs H->H D=some (.lst zs))(hx:∀i zs H,i<=min xs.length ys.length->Pv i zs H->SqL K H a xs/\SqL K H b ys)(hs:∀i zs x y H T,xs[i]?=some x->ys[i]?=some y->Pv i zs H->H T=none->∀(C:Nat->List V->Hp->Prop),(∀zs H,Pv (i+1) zs H->C (i+1) zs H)->Js nl fr g tt te σ D C i zs (.ref T) (upd H T (.tup [x,y])))(hd:∀zs H,Pv (min xs.length ys.length) zs H->Q (.ref D) H):
  Fe (Itz K a b) nl fr g tt te σ D H1 Q:=by
 exists λi m zs H=>m=min xs.length ys.length - i/\i<=min xs.length ys.length/\Pv i zs H,⟨_,rfl,Nat.zero_le _,h0⟩,?_;rintro i m zs H ⟨rfl,hi,p⟩;exists hl i zs H p,?_;obtain⟨qx,qy⟩:=hx i zs H hi p
 by_cases hlt:i < min xs.length ys.length
 .have hx':i < xs.length:=by lia
  have hy':i < ys.length:=by lia
  refine .inr ⟨⟨xs,ys,xs[i],ys[i],qx,qy,by simp[hx'],by simp[hy']⟩,λv H' z=>?_⟩;obtain⟨T,x,y,rfl,hT,rfl,hh⟩:=z;obtain⟨ex,ey⟩:=hh xs ys qx qy;exact hs i zs x y H T ex ey p hT (λj zs Hz=>∃m',m' < min xs.length ys.length - i/\m'=min xs.length ys.length - j/\j<=min xs.length ys.length/\Pv j zs Hz) λzs Hz z=>⟨min xs.length ys.length - (i+1),(),rfl,hlt,z⟩
 .have e:i=min xs.length ys.length:=by lia
  subst e;exact .inl ⟨⟨xs,ys,qx,qy,()⟩,hd zs H p⟩
inductive Kr (x:V) (vs:List V) (H:Hp) (Q:VK):Prop where
 |mk (l:Addr) (xs:List V) (k:Nat) (i:Int) (y:V):x=.ref l->vs=[.int i,y]->i=(k:Int)->k<=xs.length->H l=some (.lst xs)->xs.length < sizeLine->Q .non (upd H l (.lst (xs.take k++y :: xs.drop k)))->Kr x vs H Q
theorem Nt:MtM X "list.insert" Kr:=by
 intro pins s σ H x vs v us Q I rx rv h;obtain⟨l,xs,k,i,y,rfl,rfl,hik,hk,hH,hz,q⟩:=h
 cases rx
 obtain⟨u1,u2,rfl,⟨t,rfl⟩,ru⟩:=Oy rv;obtain⟨z,its,n,r,hl,e⟩:=I.lstM hH;have hs:sizeLine=16777216:=sizeLine_eq;have hfit:¬(!Builtin.List.listFitsIndex i)=true:=by
  rw[fitsIndex_both () ()];exact Bool.false_ne_true
 have hM:=AutoSeq1.list_insert_list_int_val_1 l its.toArray n i t u2 hfit (by rw[size_toArray];lia);refine call_meets F.slot_list_insert ⟨_,e,rfl⟩ F.entry_list_insert (F.args_list_insert_3 (Value.ref l) (Value.int i t) u2) hM ⟨e,?_⟩;exists .non,_,I.lset (its':=its.take k++u2 :: its.drop k) hH e ?_ ((r.take k).append (.cons ru (r.drop k))) ?_,rfl,q
 .have ek:(if i < 0 then (i+(its.toArray.size:Int)).toNat else min i.toNat its.toArray.size)=k:=by
   rw[if_neg (),size_toArray];lia
  show (its.toArray.extract 0 (if i < 0 then (i+(its.toArray.size:Int)).toNat else min i.toNat its.toArray.size)).push u2++its.toArray.extract (if i < 0 then (i+(its.toArray.size:Int)).toNat else min i.toNat its.toArray.size)=_;rw[ek];apply Array.ext';simp[take_of_length_le]
 .rw[List.length_append,length_cons,length_take,length_drop];lia
end
def Tb (h0:Heap)(H:Hp)(h:Heap)(a:Addr)(v:Value):Prop:=
 v=.none\/∃T oT ts,v=.ref T/\T≠a/\h0.get? T=none/\H T=none/\h.get? T=some oT/\oT.data=.fields ts/\ts[3]?=some .none
structure Fl (h0:Heap) (H:Hp) (h:Heap) (a:Addr) (C:Value) (d:Option Addr):Prop where
 new:h0.get? a=none
 free:H a=none
 at_:∃oe vs v,h.get? a=some oe/\oe.cls=C/\oe.dict=d/\oe.data=.fields vs/\vs[1]?=some v/\Tb h0 H h a v
theorem Fl.older (F:Fl h0 H h a C d)(k:∀b,h0.get? b=none->h1.get? b=none):Fl h1 H h a C d:=by
 obtain⟨n,f,oe,vs,v,e1,e2,e3,e4,e5,t⟩:=F;exists k _ n,f,oe,vs,v,e1,e2,e3,e4,e5,?_;rcases t with t | ⟨T,oT,ts,t1,t2,t3,t4⟩
 .exact .inl t
 .exact .inr ⟨T,oT,ts,t1,t2,k _ t3,t4⟩
theorem uV (f:Array Value->Array Value)(o:Obj):(o.mapFields f).dict=o.dict:=by
 obtain⟨c,d,dt,sl⟩:=o
 cases dt<;>rfl
section
variable {M:Model} {A:Around} {E:Value->Shared->Prop} {s:Shared}
theorem xU {head:Value}(hfr:A.frames=some (env :: outer))(hl:s.heap.FunFrames base (env :: outer))(hf:env.frame=some L)(he:s.heap.get? e=some oe)(hd:oe.data=.fields vs)(hsz:1 < vs.size)(h:∀h' T oT ts,s.heap.objs.size<=T->(∀b o,b∉frs (env :: outer)->b≠e->s.heap.get? b=some o->h'.get? b=some o)->(∀b o,b∈frs (env :: outer)->s.heap.get? b=some o->∃sl,h'.get? b=some { o with slots:=sl })->
   h'.get? e=some (oe.mapFields (·.setIfInBounds 1 (.ref T)))->h'.get? T=some oT->oT.data=.fields ts->ts[3]?=some .none->T≠e->Q .unit { s with heap:=h' }):
  wpAny M A (do let a <- frameOf env;let pl <- entryPlaceOf L hadNext;let b <- EntryCells.newEntry head a .none (rawInt L) .none pl;setField (.ref e) 1 b) (λ_ s'=>wpAny M A (setFlight (.ref e) none) Q E s') E s:=by
 have hene:e∉frs (env :: outer):=λhm=>by
  obtain⟨_,o,ho,hnf⟩:=hl.mem hm;rw[he] at ho;injection ho with ho;subst ho;exact hnf vs hd
 refine wpAny_bind (wpAny_frameOf_fun hfr hl hf λh₁ hs₁=>?_);refine wpAny_bind (wpAny_entryPlaceOf λpl hpl=>?_);unfold EntryCells.newEntry newFields;refine wpAny_bind (wpAny_newObj_type ?_ (hpl.sizeOk5 _ _ _ _ _));have he₁:h₁.get? e=some oe:=(hs₁.2.1 e hene).trans he;have he₂:=Heap.get?_push_of_some (h:=h₁) { cls:=.type "traceback",dict:=none,data:=.fields ([head,.ref L,.none,rawInt L,.none]++(if pl.isEmpty then replicate 6 Value.none else pl)).toArray } he₁;refine wpAny_setField he₂ hd hsz ?_;have hTe:h₁.objs.size≠e:=Nat.ne_of_gt (Heap.lt_size he₁);have hd₃:=Obj.data_mapFields hd (·.setIfInBounds 1 (Value.ref h₁.objs.size));have he₃:=Heap.get?_update_self (Obj.mapFields (·.setIfInBounds 1 (Value.ref h₁.objs.size))) he₂ (Obj.isFreed_of_fields hd₃);have hT₃:=(Heap.get?_update_other (h₁.push { cls:=.type "traceback",dict:=none,data:=.fields ([head,.ref L,.none,rawInt L,.none]++(if pl.isEmpty then replicate 6 Value.none else pl)).toArray })
  (Obj.mapFields (·.setIfInBounds 1 (Value.ref h₁.objs.size))) (Ne.symm hTe)).trans (Heap.get?_push_size h₁ rfl)
 unfold setFlight;refine wpAny_bind (wpAny_field he₃ hd₃ (x:=.ref h₁.objs.size) (by simp[hsz]) ?_);rw[if_pos (show (Value.ref h₁.objs.size != Value.none)=true from by simp)];have keep:∀b o,b≠e->h₁.get? b=some o->
   (((h₁.push { cls:=.type "traceback",dict:=none,data:=.fields ([head,.ref L,.none,rawInt L,.none]++(if pl.isEmpty then replicate 6 Value.none else pl)).toArray }).update e (Obj.mapFields (·.setIfInBounds 1 (Value.ref h₁.objs.size)))).update h₁.objs.size
    (Obj.mapFields (·.setIfInBounds 3 ((none:Option Addr).elim Value.none λf=>rawInt f)))).get? b=some o:=λb o hbe hb=>by
  have hbT:h₁.objs.size≠b:=Nat.ne_of_gt (Heap.lt_size hb);rw[Heap.get?_update_other _ _ hbT,Heap.get?_update_other _ _ (Ne.symm hbe)];exact Heap.get?_push_of_some _ hb
 refine wpAny_setField hT₃ rfl (by simp only[size_toArray,List.length_append,length_cons,length_nil]<;>lia) (h _ h₁.objs.size _ _ (Nat.le_of_eq hs₁.1.symm) ?_ ?_ ?_
  (Heap.get?_update_self _ hT₃ (Obj.isFreed_of_fields (Obj.data_mapFields rfl _))) (Obj.data_mapFields rfl _) ?_ hTe)
 .exact λb o hb hbe q=>keep b o hbe ((hs₁.2.1 b hb).trans q)
 .intro b o hb q;obtain⟨sl,e1⟩:=hs₁.2.2 b o q;exists sl,keep b _ (λz=>hene (z ▸ hb)) e1
 .rw[Heap.get?_update_other _ _ hTe];exact he₃
 .first | (simp;done) | (rcases hpl with rfl | ⟨_,_,_,_,_,_,_,rfl⟩<;>simp)
theorem Ri (hfr:A.frames=some (env :: outer))(hl:s.heap.FunFrames base (env :: outer))(hf:env.frame=some L)(F:Fl h0 H s.heap e C d)(hnew:∀b,s.heap.objs.size<=b->h0.get? b=none/\H b=none)(h:∀(h':Heap) (ch:List Addr),(∀b∈ch,h0.get? b=none/\H b=none/\∃o vs,s.heap.get? b=some o/\o.data=.fields vs)->(∀b o,b∉frs (env :: outer)->b∉ch->s.heap.get? b=some o->h'.get? b=some o)->
   (∀b o,b∈frs (env :: outer)->s.heap.get? b=some o->∃sl,h'.get? b=some { o with slots:=sl })->Fl h0 H h' e C d->Q .unit { s with heap:=h' }):
  wpAny M A (noteFrame (.ref e) env) (λ_ s'=>wpAny M A (setFlight (.ref e) none) Q E s') E s:=by
 obtain⟨n,f,oe,vs,v,e1,e2,e3,e4,e5,t⟩:=F;have hsz:1 < vs.size:=(Array.getElem?_eq_some_iff.mp e5).1;have fin:∀{h':Heap} {T:Addr} {oT:Obj} {ts:Array Value},s.heap.objs.size<=T->h'.get? e=some (oe.mapFields (·.setIfInBounds 1 (.ref T)))->h'.get? T=some oT->oT.data=.fields ts->ts[3]?=some .none->T≠e->Fl h0 H h' e C d:=by
  intro h' T oT ts z he hT hd h3 hTe;exists n,f,_,_,.ref T,he,?_,?_,Obj.data_mapFields e4 _,by simp[hsz],.inr ⟨T,oT,ts,rfl,hTe,(hnew T z).1,(hnew T z).2,hT,hd,h3⟩
  .rw[Obj.cls_mapFields];exact e2
  .rw[uV];exact e3
 rcases t with rfl | ⟨T,oT,ts,rfl,t2,t3,t4,t5,t6,t7⟩
 .unfold noteFrame;simp only[hf];refine wpAny_bind (wpAny_field e1 e4 e5 ?_);rw[if_neg ∅];refine xU hfr hl hf e1 e4 hsz λh' T oT ts z k1 k2 he hT hd h3 hTe=>?_;refine h h' [e] (λb hb=>?_) (λb o h1 h2 q=>k1 b o h1 (λw=>h2 (by simp[w])) q) k2 (fin z he hT hd h3 hTe);have hb:b=e:=by simpa using hb
  subst hb;exists n,f,_,_,e1,e4
 .unfold noteFrame;simp only[hf];refine wpAny_bind (wpAny_field e1 e4 e5 ?_);rw[if_pos (show (Value.ref T != Value.none)=true from by simp)];refine wpAny_bind (wpAny_field t5 t6 t7 ?_);rw[if_neg (show ¬((Value.none == rawInt L)=true) from by simp[rawInt])];refine wpAny_bind (wpAny_setField t5 t6 (Array.getElem?_eq_some_iff.mp t7).1 ?_);have other:∀b,b≠T->(s.heap.update T (Obj.mapFields (·.setIfInBounds 3 Value.none))).get? b=s.heap.get? b:=λb hb=>Heap.get?_update_other _ _ (Ne.symm hb);have noRecord:∀b o,s.heap.get? b=some o->(∀vs,o.data≠.fields vs)->b≠T:=λb o hb hnf q=>by
   rw[q,t5] at hb;injection hb with hb;subst hb;exact hnf ts t6
  have nofr:∀b,b∈frs (env :: outer)->b≠T:=λb hb=>by
   obtain⟨_,o,ho,hnf⟩:=hl.mem hb;exact noRecord b o ho hnf
  refine xU (s:={ s with heap:=s.heap.update T (Obj.mapFields (·.setIfInBounds 3 Value.none)) }) (base:=base) hfr (hl.of_keeps λb o hb hnf=>⟨o,(other b (noRecord b o hb hnf)).trans hb,rfl⟩) hf ((other e (Ne.symm t2)).trans e1) e4 hsz
   λh' T' oT' ts' z k1 k2 he hT hd h3 hTe=>?_
  have z':s.heap.objs.size<=T':=by
   have:=Heap.size_after_update s.heap T (Obj.mapFields (·.setIfInBounds 3 Value.none));exact Nat.le_trans (Nat.le_of_eq this.symm) z
  refine h h' [e,T] (λb hb=>?_) (λb o h1 h2 q=>?_) (λb o hb q=>?_) (fin z' he hT hd h3 hTe)
  .rcases mem_cons.mp hb with hb | hb
   .subst hb;exists n,f,_,_,e1,e4
   .have hb:b=T:=by simpa using hb
    subst hb;exists t3,t4,_,_,t5,t6
  .exact k1 b o h1 (λw=>h2 (by simp[w])) ((other b λw=>h2 (by simp[w])).trans q)
  .exact k2 b o hb ((other b (nofr b hb)).trans q)
end
section
variable {X:Cx} {pins:List (Addr × Obj)} {σ:List (Option V)} {H H':Hp} {s:Shared} {h':Heap}
theorem cY.ex (x:cY P w H h a o):∃u,h.get? a=some u:=by
 cases o with
 |lst xs=>obtain⟨_,_,_,_,e⟩:=x;exists _,e
 |tup xs=>obtain⟨_,_,_,o,e,_⟩:=x;exists _,e
 |dK kvs=>obtain⟨_,_,_,_,o,_,_,e,_⟩:=x;exists _,e
 |dT kvs=>obtain⟨_,_,_,_,o,_,_,e,_⟩:=x;exists _,e
 |set S n=>obtain⟨o,_,_,_,e,_⟩:=x;exists _,e
 |ins C dx fs=>obtain⟨_,_,_,e,_⟩:=x;exists _,e
 |own y=>obtain⟨_,e⟩:=x;exists _,e
 |xd fs=>obtain⟨_,⟨_,_,_,e,_⟩,_⟩:=x;exists _,e
 |rng lo hi=>obtain⟨_,_,_,e⟩:=x;exists _,e
 |frz ob u=>obtain⟨e,_⟩:=x;exists _,e
 |tbl ps=>exact⟨_,(show h.get? a=some _ from x)⟩
 |met f y=>exact⟨_,(show h.get? a=some _ from x)⟩
 |ext φ=>obtain⟨_,⟨_,e⟩,_⟩:=x;exists _,e
theorem HOk.none_of (x:HOk P w H h)(e:h.get? a=none):H a=none:=by
 cases q:H a with
 |none=>rfl
 |some o=>
  obtain⟨u,hu⟩:=(x a o q).ex;rw[e] at hu;cases hu
theorem Inv.stepN {ch:List Addr}(I:Inv X pins σ H s)(hch:∀b∈ch,X.s₀.heap.get? b=none/\b≠X.env.locals/\(∀x c,X.env.cells.lookup x=some c->c≠b)/\∀p∈X.pn++pins,p.1≠b)(keep:∀b o,b≠X.env.locals->b∉X.fs->b∉ch->s.heap.get? b=some o->H b=none->h'.get? b=some o)(slot:∀b o,b≠X.env.locals->b∈X.fs->b∉ch->s.heap.get? b=some o->H b=none->∃sl,h'.get? b=some { o with slots:=sl })(there:∀b o,b∉ch->s.heap.get? b=some o->∃o',h'.get? b=some o')(ns:∀m,s.heap.Ns X.env.locals m->h'.Ns X.env.locals m)(hok:HOk X.prog X.w H h')(hg:AllBare g'):
  Inv X pins σ H { s with heap:=h',gens:=g',drawn:=d',toks:=t' }:=by
 have neL:∀b o,X.s₀.heap.get? b=some o->b≠X.env.locals:=λb o e=>Nat.ne_of_lt (Nat.lt_of_lt_of_le (Heap.lt_size e) I.ok.above);have neC:∀b o,X.s₀.heap.get? b=some o->b∉ch:=λb o e hb=>by rw[(hch b hb).1] at e;cases e
 have cellK:∀x c,X.env.cells.lookup x=some c->∀v,s.heap.IsCell c v->h'.IsCell c v:=λx c e v ⟨o,ho,hd⟩=>by
  have nch:c∉ch:=λz=>(hch c z).2.2.1 x c e rfl
  by_cases hc:c∈X.fs
  .obtain⟨sl,q⟩:=slot c o (I.cne x c e) hc nch ho (I.freeC x c e);exists _,q,hd
  .exists o,keep c o (I.cne x c e) hc nch ho (I.freeC x c e),hd
 exists I.ok,I.os,hg,⟨λb o e n hb hx=>?_,λb o e n hb hx=>?_,λb o e n hx=>?_,λb o e hx=>?_,λb xs e=>I.base.tups b xs e,λb o xs e=>I.base.frzs b o xs e,λb ps e=>I.base.tbls b ps e⟩,?_,λx c e=>?_,I.free,I.freeC,λp hp=>?_,hok,I.len
 .exact keep b o (neL b o e) hb (neC b o e) (I.base.keep b o e n hb hx) (I.base.free b o e n hx)
 .obtain⟨sl,e1⟩:=I.base.slot b o e n hb hx;obtain⟨sl',e2⟩:=slot b _ (neL b o e) hb (neC b o e) e1 (I.base.free b o e n hx);exists sl',e2
 .exact I.base.free b o e n hx
 .obtain⟨o',e1⟩:=I.base.there b o e hx;exact there b o' (neC b o e) e1
 .obtain⟨m,hn,hl⟩:=I.loc;exists m,ns m hn,λi x v e1 e2 e3=>?_;obtain⟨u,r,l⟩:=hl i x v e1 e2 e3;exists u,r,?_;rcases l with l | ⟨k,c,e,z⟩
  .exact .inl l
  .exact .inr ⟨k,c,e,cellK x c e _ z⟩
 .obtain⟨v,z⟩:=I.cell x c e;exists v,cellK x c e v z
 .obtain⟨e,n,ne,nf,d⟩:=I.pin p hp;have nch:p.1∉ch:=λz=>(hch p.1 z).2.2.2 p hp rfl;exists keep p.1 p.2 ne nf nch e n,n,ne,nf,d
structure Frm (X:Cx):Prop where
 ex:X.ex=[]
 st:X.stack=X.env :: X.outer
 fr:X.env.frame=some X.env.locals
def tS (X:Cx)(pins:List (Addr × Obj))(σ:List (Option V))(H:Hp)(s:Shared)(a:Addr)(C:Value)(d:Option Addr):Prop:=
 Inv X pins σ H s/\∃h0:Heap,(∀p∈X.pn++pins,h0.get? p.1≠none)/\(∀b o,X.s₀.heap.get? b=some o->∃o',h0.get? b=some o')/\(∀b o,h0.get? b=some o->∃o',s.heap.get? b=some o')/\Fl h0 H s.heap a C d
theorem rD {h1 h2:Heap}(k:∀b o,h1.get? b=some o->∃o',h2.get? b=some o')(b:Addr)(e:h2.get? b=none):h1.get? b=none:=by
 cases q:h1.get? b with
 |none=>rfl
 |some o=>obtain⟨o',z⟩:=k b o q;rw[e] at z;cases z
theorem Jw {h:Heap}(e:h.objs.size<=b):h.get? b=none:=Heap.get?_none_of_le e
theorem rO {h:Heap}(e:h.get? b=some o)(hd:o.data=.fields vs)(e':h.get? c=some o')(hd':∀vs,o'.data≠.fields vs):b≠c:=by
 intro z;subst z;rw[e] at e';cases e';exact hd' vs hd
theorem zO {a:Addr}{C:Value}{d:Option Addr}{h0:Heap}(I:Inv X pins σ H s)(hp:∀p∈X.pn++pins,h0.get? p.1≠none)(hs:∀b o,X.s₀.heap.get? b=some o->∃o',h0.get? b=some o'){b:Addr}(hb:h0.get? b=none/\H b=none/\∃o vs,s.heap.get? b=some o/\o.data=.fields vs) :
  X.s₀.heap.get? b=none/\b≠X.env.locals/\(∀x c,X.env.cells.lookup x=some c->c≠b)/\∀p∈X.pn++pins,p.1≠b:=by
 obtain⟨h1,h2,o,vs,h3,h4⟩:=hb;exists rD hs b h1,?_,λx c e=>?_,λp hq z=>hp p hq (by rw[z];exact h1)
 .obtain⟨m,⟨o',es,ep,ho',hd',_⟩,_⟩:=I.loc;exact rO h3 h4 ho' λvs z=>by rw[hd'] at z;cases z
 .obtain⟨v,o',ho',hd'⟩:=I.cell x c e;exact Ne.symm (rO h3 h4 ho' λvs z=>by rw[hd'] at z;cases z)
theorem Jt (hA:A'.frames=some X.stack)(fm:Frm X)(L:tS X pins σ H s a C d)(h:∀s',tS X pins σ H s' a C d->Q .unit s'):
  wpAny (model X.prog X.w) A' (noteFrame (.ref a) X.env) (λ_ s2=>wpAny (model X.prog X.w) A' (setFlight (.ref a) none) Q E s2) E s:=by
 obtain⟨I,h0,hp,hs,ht,F⟩:=L;have hstk:=I.stack;have hfree:=I.stkFree;rw[fm.st] at hA hstk hfree;have hfrs:frs (X.env :: X.outer)=X.env.locals :: X.fs:=by unfold frs;rw[filterMap_cons,fm.fr];rfl
 refine Ri (base:=X.base) hA hstk fm.fr F (λb hb=>⟨rD ht b (Jw hb),I.hok.fresh hb⟩) λh' ch c1 c2 c3 F'=>?_;have tr:∀c u,H c=some u->∀v,s.heap.get? c=some v->h'.get? c=some v:=λc u e v q=>
  c2 c v (λz=>by rw[hfree c z] at e;cases e) (λz=>by rw[(c1 c z).2.1] at e;cases e) q
 have th:∀b o,b∉ch->s.heap.get? b=some o->∃o',h'.get? b=some o':=λb o hb q=>by
  by_cases hf:b∈frs (X.env :: X.outer)
  .obtain⟨sl,e⟩:=c3 b o hf q;exists _,e
  .exists o,c2 b o hf hb q
 have J:Inv X pins σ H { s with heap:=h',gens:=s.gens,drawn:=s.drawn,toks:=s.toks }:=by
  refine I.stepN (ch:=ch) (λb hb=>zO (a:=a) (C:=C) (d:=d) I hp hs (c1 b hb)) (λb o h1 h2 h3 e _=>c2 b o (by rw[hfrs];intro z;rcases mem_cons.mp z with z | z;exact h1 z;exact h2 z) h3 e)
   (λb o _ h2 _ e _=>c3 b o (by rw[hfrs];exact mem_cons_of_mem _ h2) e) th (λm hm=>?_) (λb u e=>?_) I.bare
  .obtain⟨o,es,ep,ho,r⟩:=hm;obtain⟨sl,e⟩:=c3 _ o (by rw[hfrs];exact mem_cons_self) ho;exists _,es,ep,e,r
  .refine(I.hok b u e).stay (λc v hc q=>?_) (λ_ q=>q) λ_ _ q=>q;rcases hc with rfl | hc
   .exact tr c u e v q
   .exact tr c _ hc v q
 refine h _ ⟨J,h0,hp,hs,λb o e=>?_,F'⟩;obtain⟨o',e'⟩:=ht b o e;exact th b o' (λz=>by rw[(c1 b z).1] at e;cases e) e'
theorem Wz (L:tS X pins σ H s a C d)(h:∀s',tS X pins σ H s' a C d->Q .unit s'):wpAny (model X.prog X.w) A' (setFlight (.ref a) none) Q E s:=by
 have L':=L;obtain⟨I,h0,hp,hs,ht,F⟩:=L';obtain⟨n,f,oe,vs,v,e1,e2,e3,e4,e5,t⟩:=F;unfold setFlight;refine wpAny_bind (wpAny_field e1 e4 e5 ?_);rcases t with rfl | ⟨T,oT,ts,rfl,t2,t3,t4,t5,t6,t7⟩
 .rw[if_neg ∅];exact wpAny_pure (h s L)
 .rw[if_pos (show (Value.ref T != Value.none)=true from by simp)];have hsz3:3 < ts.size:=(Array.getElem?_eq_some_iff.mp t7).1;have other:∀b,b≠T->(s.heap.update T (Obj.mapFields (·.setIfInBounds 3 ((none:Option Addr).elim Value.none λf=>rawInt f)))).get? b=s.heap.get? b:=λb hb=>Heap.get?_update_other _ _ (Ne.symm hb);have hT':=Heap.get?_update_self (Obj.mapFields (·.setIfInBounds 3 ((none:Option Addr).elim Value.none λf=>rawInt f))) t5 (Obj.isFreed_of_fields (Obj.data_mapFields t6 _));refine wpAny_setField t5 t6 hsz3 ?_;have c1:∀b∈[T],h0.get? b=none/\H b=none/\∃o vs,s.heap.get? b=some o/\o.data=.fields vs:=λb hb=>by
   have hb:b=T:=by simpa using hb
   subst hb;exists t3,t4,_,_,t5,t6
  have nT:∀b,b∉[T]->b≠T:=λb hb z=>hb (by simp[z]);have J:Inv X pins σ H { s with heap:=(s.heap.update T (Obj.mapFields (·.setIfInBounds 3 ((none:Option Addr).elim Value.none λf=>rawInt f)))),gens:=s.gens,drawn:=s.drawn,toks:=s.toks }:=by
   refine I.stepN (ch:=[T]) (λb hb=>zO (a:=a) (C:=C) (d:=d) I hp hs (c1 b hb)) (λb o _ _ h3 e _=>(other b (nT b h3)).trans e) (λb o _ _ h3 e _=>⟨o.slots,(other b (nT b h3)).trans e⟩)
    (λb o h3 e=>⟨o,(other b (nT b h3)).trans e⟩) (λm hm=>?_) (λb u e=>?_) I.bare
   .obtain⟨o,es,ep,ho,hd,r⟩:=hm;exists o,es,ep,(other _ (Ne.symm (rO t5 t6 ho λvs z=>by rw[hd] at z;cases z))).trans ho,hd,r
   .refine(I.hok b u e).stay (λc v hc q=>(other c ?_).trans q) (λ_ q=>q) λ_ _ q=>q;rintro rfl;rcases hc with rfl | hc
    .rw[t4] at e;cases e
    .rw[t4] at hc;cases hc
  refine h _ ⟨J,h0,hp,hs,λb o e=>?_,⟨n,f,oe,vs,.ref T,(other a (Ne.symm t2)).trans e1,e2,e3,e4,e5,.inr ⟨T,_,_,rfl,t2,t3,t4,hT',Obj.data_mapFields t6 _,by simp[hsz3]⟩⟩⟩;obtain⟨o',e'⟩:=ht b o e;exists o',(other b (λz=>by rw[z,t3] at e;cases e)).trans e'
end
def CX1 (P:Program)(w:World):CXT:=λouter H s E e s'=>∃a C d H',e=.ref a/\s'.os=s.os/\AllBare s'.gens/\Un (frs outer) [] H H' s.heap s'.heap/\HOk P w H' s'.heap/\Fl s.heap H' s'.heap a C d/\E C d H'
def Vv (X:Cx)(E:XK):Prop:=∀(pins:List (Addr × Obj)) (σ:St) (H:Hp) (s:Shared) (a:Addr) (C:Value) (d:Option Addr),tS X pins σ H s a C d->E C d H->X.xe (.ref a) s
section
variable {X:Cx} {pins:List (Addr × Obj)} {σ:List (Option V)} {H:Hp} {s s':Shared} {E:XK} {e:Value}
theorem pK (fm:Frm X)(I:Inv X pins σ H s)(hcx:CX1 X.prog X.w X.stack H s E e s'):∃a C d H',e=.ref a/\tS X pins σ H' s' a C d/\E C d H':=by
 obtain⟨a,C,d,H',rfl,os,bare,un,hok,F,q⟩:=hcx;exists a,C,d,H',rfl,⟨I.call' (ch:=[]) os un hok bare (λb z=>absurd z ⋯),s.heap,λp hp z=>?_,λb o e=>I.base.there b o e (by rw[fm.ex];simp),λb o e=>un.there b o e ⋯,F⟩,q;rw[(I.pin p hp).1] at z;cases z
theorem nV (fm:Frm X)(xo:Vv X E):kS (CX1 X.prog X.w) X E:=λpins σ H s e s' I hcx=>by
 obtain⟨a,C,d,H',rfl,L,q⟩:=pK fm I hcx;exact xo pins σ H' s' a C d L q
end
theorem gH {K:Frag}:
  Frm (xJ CX P w K mg base N qual scope f cd A outer s H E):=⟨rfl,rfl,rfl⟩
theorem iW {K:Frag}:
  Vv (xJ (CX1 P w) P w K mg base N qual scope f cd A outer s H E) E:=by
 intro pins σ H' s' a C d L q;show wpAny (model P w) (A.deeper (envOfC qual scope s.heap.objs.size f cd)) (leaving (envOfC qual scope s.heap.objs.size f cd) (.ref a)) (λ_ s''=>CX1 P w outer H s E (.ref a) s'') (λe' s''=>CX1 P w outer H s E e' s'') s';unfold leaving;refine wpAny_bind (Jt (X:=xJ (CX1 P w) P w K mg base N qual scope f cd A outer s H E) L.1.ok.frames gH L λs'' L''=>?_);obtain⟨J,h0,hp,hs0,hth,F⟩:=L'';exists a,C,d,H',rfl,J.os,J.bare,J.base,J.hok,F.older λb z=>rD hs0 b z,q
abbrev tQ:List Value:=[.type "ValueError",.type "Exception",.type "BaseException",.type "object"]
def Ta (K:Frag)(C:Addr):Prop:=W.excIn K C tQ "ValueError.__new__"=true
theorem qg6 {K:Frag}(X:K.In h)(q:W.excIn K C bmB newId=true):
  ∃bm N nm qn bs hdct sn sub ab col dd k0 k1 k2 k3 k5 mN,h.get? C=some (excClassObj nm qn C N bs bm hdct sn sub ab col dd k0 k1 k2 k3 k5 newId)/\h.Ns N mN/\mN "__init__"=none/\OwnTail h bmB bm:=by
 unfold W.excIn at q;split at q
 .rename_i dd cd sl ho
  split at q
  .rename_i C' bm k0 k1 k2 k3 n k5 hm hs
   simp only[Bool.and_eq_true,beq_iff_eq,Bool.not_eq_true'] at q;obtain⟨⟨⟨⟨⟨rfl,rfl⟩,hdel⟩,ht⟩,hok⟩,hni⟩:=q;obtain⟨nm,bs,mro,ns,qn,hd,sn,sub,ab,col,del⟩:=cd;dsimp only at hm hdel hok hni;subst hm hdel;have hsl:sl=#[k0,k1,k2,k3,some (.builtin n),k5]:=by
    obtain⟨l⟩:=sl;simp only at hs;rw[hs]
   subst hsl;exists bm,ns,nm,qn,bs,hd,sn,sub,ab,col,dd,k0,k1,k2,k3,k5,_,X _ _ ho,.of_isNs (W.isNs_of_in X hok),W.nsMap_none_of_in X hok hni,W.tail_of_in X ht
  .cases q
 .cases q
section
variable {X:Cx} {pins:List (Addr × Obj)} {σ:List (Option V)} {H:Hp} {s:Shared}
def qe1 (C:Addr)(E:XK)(ta:TA):TS:=λ_ σ H=>ta σ H λvs H1=>vs.length<=sizeLine/\E (.ref C) none H1
theorem wZ (fm:Frm X)(xo:Vv X E)(hc:X.calm=true)(hg:Gl X x)(hm:X.mg x=some (.ref C))(q:Ta X.K C)(ha:PA X (e₀ :: es) ta)(hdb:(x == ("__debug__":Str))=false:=by decide)(he:starEach (e₀ :: es) X.env=(false,eval e₀ X.env) :: starEach es X.env:=by rfl)(hpl:(backTo cpos (starEach es X.env)).any (·.1)=false:=by rfl):
  PS X (.Raise (some (.Call (.Name x np) (e₀ :: es) [] cpos)) none pos) (qe1 C E ta):=by
 intro pins s σ H D I h;obtain⟨tl,N,nm,qn,bs,hdct,sn,sub,ab,col,dd,k0,k1,k2,k3,k5,mN,hC,hN,hni,T⟩:=qg6 I.mod.kin q;have FB:=PySem.F.excBase_ValueError;refine wpAny_Raise_call_subU (C:=C) (nm:=nm) (q:=qn) (N:=N) (bs:=bs) (bm:=tl) (hdct:=hdct) (sn:=sn) (sub:=sub) (ab:=ab) (col:=col) (dd:=dd) (k0:=k0) (k1:=k1) (k2:=k2) (k3:=k3) (k5:=k5)
  FB ∅ FB (mN:=mN) (T.hasType FB.hasBase) (I.ok.hd hc) (by rw[he];show (false || (backTo cpos (starEach es X.env)).any (·.1))=false;rw[hpl];rfl) hni (jS I hg hm ⟨rfl,?_⟩ hdb)
 have ha':=ha cpos pins s σ H _ I h;rw[he] at ha' ⊢;refine Calls.evalArgs_plain (wpAny_mono ha' (λvs s2 h2=>?_) λ_ _ y=>y);obtain⟨xs,H1,I1,r,hz,q1⟩:=h2;exists rfl,by rw[<- r.length];exact hz,I1.bk _ _ hC,hN.keeps I1.bk,T.keeps I1.bk,λh' e hx=>?_;obtain⟨t,he1,htn,ht⟩:=hx.there;refine xo pins σ H1 _ e (.ref C) none ⟨I1.kept (t':=s2.toks) hx.keeps,s2.heap,λp hp z=>?_,λb o e=>I1.base.there b o e (by rw[fm.ex];simp),λb o z=>⟨o,hx.keeps b o z⟩,⟨hx.new,I1.hok.none_of hx.new,_,_,.none,he1,rfl,rfl,rfl,rfl,.inl rfl⟩⟩ q1;rw[(I1.pin p hp).1] at z;cases z
end
abbrev TEX:=St->Hp->VK->XK->Prop
abbrev TSX:=jN->(St->XK)->St->Hp->Prop
def XP (X:Cx)(pins:List (Addr × Obj))(E:St->XK)(e:Value)(s':Shared):Prop:=∃a C d σ' H',e=.ref a/\tS X pins σ' H' s' a C d/\E σ' C d H'
def PX (X:Cx)(e:Expr)(t:TEX):Prop:=
 ∀(pins:List (Addr × Obj)) (s:Shared) (σ:St) (H:Hp) (Q:VK) (E:XK),Inv X pins σ H s->t σ H Q E->wpAny (model X.prog X.w) X.A (eval e X.env) (EP X pins σ Q) (XP X pins λσ' C d H'=>σ'=σ/\E C d H') s
def PSX (X:Cx)(st:Stmt)(t:TSX):Prop:=
 ∀(pins:List (Addr × Obj)) (s:Shared) (σ:St) (H:Hp) (D:jN) (E:St->XK),Inv X pins σ H s->t D E σ H->wpAny (model X.prog X.w) X.A (exec st X.env) (SP X pins D) (XP X pins E) s
def ql1 (X:Cx)(st:List Stmt)(t:TSX):Prop:=
 ∀(pins:List (Addr × Obj)) (s:Shared) (σ:St) (H:Hp) (D:jN) (E:St->XK),Inv X pins σ H s->t D E σ H->wpAny (model X.prog X.w) X.A (execs st X.env) (SP X pins D) (XP X pins E) s
theorem XP.at (h:XP X pins (λσ' C d H'=>σ'=σ/\E σ C d H') e s'):XP X pins E e s':=by
 obtain⟨a,C,d,σ',H',rfl,L,rfl,q⟩:=h;exists a,C,d,σ',H',rfl,L,q
section
variable {X:Cx} {k:Nat} {f C:Addr} {fd:FuncData} {ps:List Str} {sp:Sp} {dvs:List V} {ds:List Value} {x m:Str} {p pos apos:Pos} {e o:Expr} {es:List Expr} {ta:TE} {t:TA}
def qj0 (sp:Sp)(dvs:List V)(t:TA):TEX:=λσ H Q E=>t σ H λvs H1=>sp (vs++dvs) H1 Q E
theorem qo3 (F:aJ X.prog X.w X.K X.mg X.base (CX1 X.prog X.w) k f fd ps sp)(fm:Frm X)(hr:gR k X.A)(hb:aL X.K fd ps ds)(hd:cA dvs ds)(I:Inv X pins σ H s)(r:cA vs us)(h:sp (vs++dvs) H Q E):wpAny (model X.prog X.w) X.A (call (.ref f) us) (EP X pins σ Q) (XP X pins λσ' C d H'=>σ'=σ/\E C d H') s:=by
 have r2:cA (vs++dvs) (us++ds):=r.append hd;have hl:(us++ds).length=ps.length:=by rw[<- r2.length];exact F.len _ _ _ _ h
 refine wpAny_call (codeAny_mono (F.run X.A X.stack s H ⟨us,[]⟩ (us++ds) (vs++dvs) Q E hr I.env0 (hb s us I.kIn hl) r2 h) λr s' hq=>?_)
 cases r with
 |error e=>
  obtain⟨a,C,d,H',rfl,L,q⟩:=pK fm I hq;exists a,C,d,σ,H',rfl,L,rfl,q
 |ok fl=>
  cases fl with
  |ret u=>exact I.after hq
  |next=>exact False.elim hq
  |brk=>exact False.elim hq
  |cont=>exact False.elim hq
theorem Ln (F:aJ X.prog X.w X.K X.mg X.base (CX1 X.prog X.w) k f fd ps sp)(fm:Frm X)(hr:gR k X.A)(hg:Gl X x)(hm:X.mg x=some (.ref f))(hk:W.keepIn X.K (.ref f)=true)(hb:aL X.K fd ps ds)(hd:cA dvs ds)(ha:PA X.nox (e :: es) t)(hdb:(x == ("__debug__":Str))=false:=by decide)(he:starEach (e :: es) X.env=(false,eval e X.env) :: starEach es X.env:=by rfl)(hpl:(backTo pos (starEach es X.env)).any (·.1)=false:=by rfl) :
  PX X (.Call (.Name x p) (e :: es) [] pos) (qj0 sp dvs t):=by
 intro pins s σ H Q E I h;refine wpAny_Call_Name_kw (jS I hg hm ?_ hdb);refine W.callWith_K (h₀:=X.base) I.ok.mod.kin hk (wpAny_mono (ha pos pins s σ H _ (I.wish _) h) (λus s1 h1=>?_) λ_ _ z=>False.elim z) he hpl;obtain⟨vs,H1,I1,r,q⟩:=h1;exists I1.kIn,qo3 F fm hr hb hd I1.unwish r q
def qm0 (te:TEX):TSX:=λD E σ H=>te σ H (λ_ H1=>D.nx σ H1) (E σ)
theorem Dc (he:PX X e te)(hs:swapsWith e none pos.line X.env=pure false:=by rfl):PSX X (.Expr e pos) (qm0 te):=by
 intro pins s σ H D E I h;exact wpAny_Expr_any (wpAny_mono (he pins s σ H _ _ I h) (λv s1 ⟨x,H1,I1,r1,q1⟩=>⟨σ,H1,I1,q1⟩) λ_ _ z=>XP.at z) I.quiet hs
theorem Dn {st:Stmt}{t:TSX}(h1:PSX X st t):ql1 X [st] t:=by
 intro pins s σ H D E I h;refine wpAny_execs_cons (wpAny_mono (h1 pins s σ H D E I h) (λf s1 q=>?_) λ_ _ z=>z)
 cases f with
 |next=>exact wpAny_execs_nil q
 |ret v=>exact q
 |brk=>exact q
 |cont=>exact q
end
abbrev Cx.sup (X:Cx)(a:Addr):Cx:={ X with A:=X.A.mark (some (.ref a)),calm:=false,xe:=λ_ _=>False }
section
variable {X:Cx} {pins:List (Addr × Obj)} {σ:List (Option V)} {H:Hp} {s:Shared} {a:Addr}
theorem Cx.Ok.sup (ok:X.Ok)(a:Addr):(X.sup a).Ok:=
 ⟨ok.mod,ok.kind,ok.glob,ok.blt,ok.above,ok.inj,ok.has,ok.cab,λz=>Bool.noConfusion z,ok.frames,ok.stk,ok.exf,ok.bs,ok.bsz,ok.noex,ok.exfs,ok.funs,ok.frf⟩
theorem Inv.sup (I:Inv X pins σ H s)(a:Addr):Inv (X.sup a) pins σ H s:=⟨I.ok.sup a,I.os,I.bare,I.base,I.loc,I.cell,I.free,I.freeC,I.pin,I.hok,I.len⟩
theorem Inv.unsup (ok:X.Ok)(I:Inv (X.sup a) pins σ H s):Inv X pins σ H s:=⟨ok,I.os,I.bare,I.base,I.loc,I.cell,I.free,I.freeC,I.pin,I.hok,I.len⟩
def Ay (a:Addr)(C:Value)(d:Option Addr):HO:=.ext λh=>∃o vs,h.get? a=some o/\o.cls=C/\o.dict=d/\o.data=.fields vs
theorem tS.track (L:tS X pins σ H s a C d)(fm:Frm X):Inv X pins σ (upd H a (Ay a C d)) s:=by
 obtain⟨I,h0,hp,hs,ht,F⟩:=L;obtain⟨n,f,oe,vs,v,e1,e2,e3,e4,e5,t⟩:=F;obtain⟨c1,c2,c3,c4⟩:=zO (a:=a) (C:=C) (d:=d) I hp hs (b:=a) ⟨n,f,_,_,e1,e4⟩;have tr:∀b u,H b=some u->upd H a (Ay a C d) b=some u:=λb u e=>by rw[aU (bA e f)];exact e
 exists I.ok,I.os,I.bare,⟨I.base.keep,I.base.slot,λb o e n' hx=>?_,I.base.there,λb xs e=>tr _ _ (I.base.tups b xs e),λb o u e=>tr _ _ (I.base.frzs b o u e),λb ps e=>?_⟩,I.loc,I.cell,?_,λx c e=>?_,λp hp'=>?_,λb o e=>?_,I.len
 .have:b≠a:=λz=>by rw[z,c1] at e;cases e
  rw[aU this];exact I.base.free b o e n' hx
 .obtain⟨more,z⟩:=I.base.tbls b ps e;exists more,tr _ _ z
 .rw[aU (Ne.symm c2)];exact I.free
 .rw[aU (c3 x c e)];exact I.freeC x c e
 .obtain⟨z1,z2,z3⟩:=I.pin p hp';exists z1,by rw[aU (c4 p hp')];exact z2,z3
 .by_cases hb:b=a
  .subst hb;rw[aB] at e;cases e;exists ⟨oe,vs,e1,e2,e3,e4⟩,⟨oe,e1⟩,λh1 h2 p k=>?_;obtain⟨o,vs',z1,z2⟩:=p;exists o,vs',k o z1,z2
  .rw[aU hb] at e;exact(I.hok b o e).stay (λ_ _ _ q=>q) (λc q=>tr _ _ q) λc xs q=>tr _ _ q
theorem oH (I:Inv X pins σ H s)(hN:X.N.Nodup)(hj:X.N[j]?=some n)(hl:X.env.scope.names.lookup n=some .local)(h:∀s',Inv X pins (σ.set j none) H s'->Q .unit s'):wpAny (model X.prog X.w) A' (do bindName X.env n .none;unbindBehindTheSuite X.env n pos) Q E s:=by
 obtain⟨m,hn,hlk⟩:=id I.loc;have hcls:(X.env.scope.kind == .class || (X.env.scope.kind == .module && X.env.locals != X.env.globals))=false:=by rw[I.ok.kind];rfl
 have hiσ:j < σ.length:=by rw[I.len];exact(List.getElem?_eq_some_iff.mp hj).1
 have cne:=I.cne;refine wpAny_nameGoes_keeps hl hn hcls λh' v hn' hs=>?_;obtain⟨oL,_,_,hoL,_⟩:=id hn;refine h _ ⟨I.ok,I.os,I.bare,⟨λb o e n hb hx=>?_,λb o e n hb hx=>?_,I.base.free,λb o e hx=>?_,I.base.tups,I.base.frzs,I.base.tbls⟩,⟨_,hn',λi y v' e1 e2 e3=>?_⟩,λy c e=>?_,I.free,I.freeC,λp hp=>?_,λb ob e=>?_,by simpa using I.len⟩
 .exact(hs.2 b (Nat.ne_of_lt (Nat.lt_of_lt_of_le (Heap.lt_size e) I.ok.above))).trans (I.base.keep b o e n hb hx)
 .obtain⟨sl,e1⟩:=I.base.slot b o e n hb hx;exists sl,(hs.2 b (Nat.ne_of_lt (Nat.lt_of_lt_of_le (Heap.lt_size e) I.ok.above))).trans e1
 .obtain⟨o',e1⟩:=I.base.there b o e hx;exists o',(hs.2 b (Nat.ne_of_lt (Nat.lt_of_lt_of_le (Heap.lt_size e) I.ok.above))).trans e1
 .by_cases hij:i=j
  .subst hij;rw[getElem?_set_self hiσ] at e2
   cases e2
  .rw[getElem?_set_ne (Ne.symm hij)] at e2;obtain⟨u',r',q⟩:=hlk i y v' e1 e2 e3;exists u',r',?_;rcases q with ⟨k,e⟩ | ⟨k,c,e,z⟩
   .refine .inl ⟨k,?_⟩;have:y≠n:=λe=>hij (vI hN e1 (e ▸ hj));simp[this,e]
   .exact .inr ⟨k,c,e,z.sameBut hs (cne y c e)⟩
 .obtain⟨w',z⟩:=I.cell y c e;exists w',z.sameBut hs (cne y c e)
 .obtain⟨e,n,ne,nf,d⟩:=I.pin p hp;exists (hs.2 p.1 ne).trans e,n,ne,nf,d
 .refine(I.hok b ob e).stay (λc w' hc q=>(hs.2 c ?_).trans q) (λ_ q=>q) λ_ _ q=>q;rintro rfl;rcases hc with rfl | hc
  .rw[I.free] at e;cases e
  .rw[I.free] at hc;cases hc
end
abbrev TH:=Addr->Value->Option Addr->jN->St->Hp->Prop
def PH (X:Cx)(hs:List ExceptHandler)(t:TH):Prop:=
 ∀(pins:List (Addr × Obj)) (s:Shared) (σ:St) (H:Hp) (D:jN) (a:Addr) (C:Value) (d:Option Addr),tS X pins σ H s a C d->t a C d D σ H->wpAny (model X.prog X.w) X.A (handleBy (.ref a) X.env hs) (SP X pins D) X.xe s
section
variable {X:Cx} {pos np:Pos} {T:Str} {tc:Value} {b₀:Stmt} {suite:List Stmt} {rest:List ExceptHandler} {ts:TS} {tr:TH}
def qg0:TH:=λ_ _ _ _ _ _=>False
theorem Cv:PH X hs qg0:=λ_ _ _ _ _ _ _ _ _ h=>h.elim
def Yt (X:Cx)(T:Str)(c:Value):Prop:=X.mg T=some c\/(X.mg T=none/\bootBuiltins T=some c/\T≠"__name__")
theorem qd2 (I:Inv X pins σ H s)(hg:Gl X T)(hc:Yt X T tc)(h:Q tc s)(hd:(T == ("__debug__":Str))=false:=by decide):wpAny (model X.prog X.w) X.A (eval (.Name T np) X.env) Q E s:=by
 rcases hc with e | ⟨e,hv,hn⟩
 .exact jS I hg e h hd
 .exact iG I hg e hv h hn hd
theorem tS.ty (L:tS X pins σ H s a C d):W.Looks M s.heap (typeOf (.ref a)) C:=by
 obtain⟨I,h0,hp,hs,ht,n,f,oe,vs,v,e1,e2,_⟩:=L;subst e2;exact(W.Looks.ld e1).andThen .now
def Wd (K:Frag)(tc:Value)(j:Nat)(ts:TS)(tr:TH):TH:=λa C d D σ H=>∃b,W.exmOne K C tc=some b/\
 if b=true then ts { nx:=λσ' H'=>D.nx (σ'.set j none) H',rt:=D.rt,bk:=λσ' H'=>D.bk (σ'.set j none) H',ct:=λσ' H'=>D.ct (σ'.set j none) H' } (σ.set j (some (.ref a))) (upd H a (Ay a C d)) else tr a C d D σ H
theorem Yx (fm:Frm X)(hN:X.N.Nodup)(hj:X.N[j]?=some n)(hl:X.env.scope.names.lookup n=some .local)(hg:Gl X T)(hc:Yt X T tc)(hs:∀a,PSs (X.sup a) (b₀ :: suite) ts)(hr:PH X rest tr)(hd:(T == ("__debug__":Str))=false:=by decide):
  PH X (.ExceptHandler (some (.Name T np)) (some n) (b₀ :: suite) pos :: rest) (Wd X.K tc j ts tr):=by
 intro pins s σ H D a C d L h;obtain⟨b,hb,h⟩:=h;have I:=L.1;refine wpAny_handleBy_cons (codeAny_handlers_test (qd2 (X:=X.sup a) (I.sup a) hg hc ((W.exm_one I.kIn L.ty hb).here ?_) hd)) (by intro q;cases q)
 cases b with
 |false=>
  rw[if_neg Bool.false_ne_true] at h;exact hr pins s σ H D a C d L h
 |true=>
  rw[if_pos rfl] at h;refine codeAny_handlers_suite_as (Wz (X:=X) L λs' L'=>?_);refine kB (X:=X.sup a) ((L'.track fm).sup a) hN hj (.inl hl) (v:=.ref a) rfl (λs2 I2=>?_) (.inr hl);refine wpAny_mono (hs a pins s2 _ _ _ I2 h) (λf s3 q=>?_) λ_ _ z=>False.elim z
  cases f with
  |next=>
   obtain⟨σ',H',J,q⟩:=q;exact oH (J.unsup I.ok) hN hj hl λs4 J4=>⟨_,H',J4,q⟩
  |brk=>
   obtain⟨σ',H',J,q⟩:=q;exact oH (J.unsup I.ok) hN hj hl λs4 J4=>⟨_,H',J4,q⟩
  |cont=>
   obtain⟨σ',H',J,q⟩:=q;exact oH (J.unsup I.ok) hN hj hl λs4 J4=>⟨_,H',J4,q⟩
  |ret u=>
   obtain⟨v,σ',H',J,r,q⟩:=q;exact oH (J.unsup I.ok) hN hj hl λs4 J4=>⟨v,_,H',J4,r,q⟩
def qq4 (tb:TSX)(to:TS)(th:TH):TS:=λD σ H=>tb { D with nx:=to D } (λσ' C d H'=>∀a,H' a=none->th a C d D σ' H') σ H
theorem Qm (fm:Frm X)(hb:ql1 X body tb)(ho:PSs X orelse to)(hh:PH X (h₀ :: hs) th):PS X (.Try body (h₀ :: hs) orelse [] pos) (qq4 tb to th):=by
 intro pins s σ H D I h;refine wpAny_Try_except (wpAny_mono (hb pins s σ H _ _ I h) (λf s1 q=>?_) λe s1 q=>?_)
 .cases f with
  |next=>
   obtain⟨σ',H',I',q⟩:=q;exact ho pins s1 σ' H' D I' q
  |ret v=>exact q
  |brk=>exact q
  |cont=>exact q
 .obtain⟨a,C,d,σ',H',rfl,L,q⟩:=q;refine Jt I.ok.frames fm L λs2 L2=>?_;exact hh pins s2 σ' H' D a C d L2 (q a L2.2.choose_spec.2.2.2.free)
end
structure Wg (K:Frag) (C:Addr):Prop where
 ga:W.findIn K (.ref C) "__getattribute__"=some (some (.builtin "BaseException.__getattribute__"))
 gn:W.findIn K (.ref C) "__getattr__"=some none
 bx:W.mroIn K C (.type "BaseException")=some true
 ob:W.mroIn K C (.type "object")=some true
 ca:W.findIn K (.ref C) "__class__"=some (some (.builtin "object.__class__"))
 hn:W.specialIn K (.builtin "object.__class__") "__get__"=some (some (.builtin "getset_descriptor.__get__"))
 tk:W.takesIn K (.builtin "object.__class__")=some true
 cl:(W.clsIn K C).isSome=true
section
variable {prog:Program} {w:World} {A:Around} {E:Value->Shared->Prop} {s:Shared} {K:Frag} {x D:Addr} {ox:Obj} {odo:Option Obj} {name:Str}
theorem Mg (k:Wg K D)(X:K.In s.heap)(I:W.InstAt s.heap x ox D odo)(h:Q .unit s):
  wpAny (model prog w) A (checkBuiltinCall "BaseException.__getattribute__" ⟨[.ref x,nameV],[]⟩) Q E s:=by
 have hk:builtinKind "BaseException.__getattribute__"=some .slot:=by decide +kernel
 have hsplit:splitId "BaseException.__getattribute__"=some ("BaseException","__getattribute__"):=by decide +kernel
 obtain⟨hh,g,d,t,os⟩:=s;have L0:=I.type (M:=model prog w);have L1:=W.looks_mroIn (M:=model prog w) X k.bx;have LI:W.Looks (model prog w) hh (isInstance (.ref x) (.type "BaseException")) true:=L0.andThen L1;have ha:=PySem.F.args_bexc_ga (.ref x) nameV;simp only[checkBuiltinCall,hk,hsplit];refine wpAny_bind (LI.at ?_)
 repeat (first | lk | wp_step)
 exact h
theorem qe7 {fill expr:Bool}(k:Wg K D)(X:K.In s.heap)(I:W.InstAt s.heap x ox D odo)(hv:W.handedIn v=true)(hf:W.findObj K D odo name=some (.value v)\/∃g a,W.findObj K D odo name=some (.bind g a)/\∀(A':Around) (R:Result->Shared->Prop),R (.ok (.ret v)) s->codeAny (model prog w) A' (.call g ⟨[a,.ref x,.ref D],[]⟩) R s)(h:P v s):
  wpAny (model prog w) A (getAttrBy (.ref x) (.str name tk) fill expr) P E s:=by
 obtain⟨hh,g,d,t,os⟩:=s;have L0:=I.type (M:=model prog w);have L1:=W.looks_findIn (M:=model prog w) X k.ga;have L2:=W.looks_findIn (M:=model prog w) X k.gn;unfold getAttrBy;refine wpAny_holding (wpAny_bind (L0.at (wpAny_bind (L1.at ?_))));show wpAny _ _ (getAttrByItsOwn (.ref x) (.str name tk) (.ref D) (.builtin "BaseException.__getattribute__") fill expr) _ _ _;unfold getAttrByItsOwn hookBefore;have f3:=PySem.F.attr_ValueError.ga.bind (.ref x);refine wpAny_bind (L2.at ?_);refine wpAny_bind (wpAny_attempt (wpAny_holding ?_));unfold callGetattribute boundAndCalled;rw[if_neg (by cases expr<;>decide)];refine wpAny_bind (wpAny_of_eq f3 ?_);refine wpAny_call (codeAny_call_builtin PySem.F.attr_ValueError.ga.plain PySem.F.entry_bexc_ga (Mg k X I ?_));unfold Builtin.«object.__getattribute__»;refine wpAny_bind (wpAny_pure ?_);refine wpAny_bind (wpAny_pure ?_);refine wpAny_bind (L0.at ?_);rcases hf with hf | ⟨gg,a,hf,hc⟩
 .refine wpAny_bind ((W.looks_find (M:=model prog w) X I hf).at ?_);refine wpAny_pure ?_;show wpAny _ _ (handedOut v) _ _ _;rw[W.handedOut_of hv];exact wpAny_pure h
 .refine wpAny_bind ((W.looks_find (M:=model prog w) X I hf).at ?_);show wpAny _ _ (Builtin.ObjectAttr.bindTo gg a (.ref x) (.ref D)) _ _ _;show wpAny _ _ (holding [a] (call gg [a,.ref x,.ref D]) >>= ret) _ _ _;refine wpAny_bind (wpAny_holding (wpAny_call (hc _ _ ?_)));refine wpAny_pure ?_;show wpAny _ _ (handedOut v) _ _ _;rw[W.handedOut_of hv];exact wpAny_pure h
end
end L2
namespace Mq
theorem qW (hp:1<=p.2)(hq:1<=q.2):Low (fZ p q):=gW (iE hp hq)
theorem Nr (hp:1<=p.2)(hq:1<=q.2):Low (tH p q):=gW (iE hp hq)
theorem uM {p q:Q2}(hp:1<=p.2)(hq:q.1≠0):p.2*q.1≠0:=Int.mul_ne_zero () hq
theorem Ty (hp:1<=p.2)(hq:q.1≠0):Low (tP p q):=gW (uM hp hq)
theorem Dg (h:Bd n p)(g:Bd m q)(hp:1<=p.2)(hq:1<=q.2):Bd (n+m+1) (fZ p q):=by
 have k:=kT (t:=p.1*q.2 - q.1*p.2) (iE hp hq);have a2:B (n+m) (q.1*p.2):=by rw[Nat.add_comm];exact g.a.mul h.b
 exists ((h.a.mul g.b).sub a2).le k.1,((h.b.mul g.b).mono (Nat.le_succ _)).le k.2
theorem Ul (h:Bd n p)(g:Bd m q)(hp:1<=p.2)(hq:1<=q.2):Bd (n+m) (tH p q):=by
 have k:=kT (t:=p.1*q.1) (iE hp hq);exists (h.a.mul g.a).le k.1,(h.b.mul g.b).le k.2
theorem Vw (h:Bd n p)(g:Bd m q)(hp:1<=p.2)(hq:q.1≠0):Bd (n+m) (tP p q):=by
 have k:=kT (t:=p.1*q.2) (uM hp hq);exists (h.a.mul g.b).le k.1,(h.b.mul g.a).le k.2
end Mq
namespace L2
open PySem PySem.Spec PyProof.Rows
def NW (K:Frag)(H:Hp)(x:V):Prop:=∃t,kD K H x t/\qD t
inductive Bu (K:Frag) (vs:List V) (H:Hp) (Q:VK) (E:XK):Prop where
 |mk (a b:Addr) (p q:Mq.Q2) (n m:Nat):vs=[.ref a,.ref b]->Fq K H a p->Fq K H b q->Mq.Bd n p->Mq.Bd m q->n+m+1<=9000->Q (.bl (decide (p.1*q.2 < q.1*p.2))) H->Bu K vs H Q E
inductive TyQ (K:Frag) (H:Hp):V->Value->Prop where
 |of {x:V} {t:Value} (h:kD K H x t):TyQ K H x t
 |tup {a:Addr} {xs:List V} (h:SqT K H a xs):TyQ K H (.ref a) (.type "tuple")
 |lst {a:Addr} {xs:List V} (h:SqL K H a xs):TyQ K H (.ref a) (.type "list")
section
variable {X:Cx} {pins:List (Addr × Obj)} {σ:St} {H:Hp} {s:Shared} {A:Around} {E:Value->Shared->Prop} {Q:Value->Shared->Prop} {c:Value} {b:Bool}
theorem Gq (I:Inv X pins σ H s)(rx:cL x u)(ty:TyQ X.K H x t)(e:W.kitOne X.K t c=some b)(h:∀tk,Q (.bool b) { s with toks:=tk }):
  wpAny (model X.prog X.w) A (call (.builtin "isinstance") [u,c]) Q E s:=by
 cases ty with
 |of ty=>exact Mb I rx ty e h
 | @tup a xs ht=>
  cases (show u=Value.ref a from rx)
  obtain⟨its,_,p,_⟩:=I.tuple ht;obtain⟨o,h1,h2,_⟩:=p;exact W.kia_one W.kitx_tuple I.kIn ⟨o,h1,h2⟩ e (λz=>nomatch z) h
 | @lst a xs ht=>
  cases (show u=Value.ref a from rx)
  obtain⟨its,_,p,_⟩:=I.list ht;obtain⟨o,h1,h2,_⟩:=p.isList;exact W.kia_one W.kitx_list I.kIn ⟨_,h1,h2⟩ e (λz=>nomatch z) h
end
section
variable {X:Cx}
theorem Ny:kI X (.builtin "isinstance") (λxs H Q=>∃x n t b,xs=[x,.ty n]/\TyQ X.K H x t/\W.kitOne X.K t (.type n)=some b/\Q (.bl b) H):=by
 intro pins s σ H vs us Q I rv h;obtain⟨x,n,t,b,rfl,ty,e,q⟩:=h;obtain⟨u,u2,rfl,r1,r2⟩:=Oy rv
 cases (show u2=Value.type n from r2)
 exact Gq I r1 ty e λtk=>⟨.bl b,H,I.tok tk,rfl,q⟩
theorem fH {i:Nat}(hN:X.N[i]?=some x)(hv:Vis X.env.scope x)(b:X.mg "isinstance"=none)(b2:X.mg T=none)(g1:Gl X "isinstance")(g2:Gl X T)(hT:bootBuiltins T=some (.type T'))(hd:(x == ("__debug__":Str))=false:=by decide)(hcd:(x == ("__classdict__":Str))=false:=by decide)(hTn:T≠"__name__":=by decide)(hTd:(T == ("__debug__":Str))=false:=by decide)(he:starEach [.Name x p2,.Name T p3] X.env=(false,eval (.Name x p2) X.env) :: starEach [.Name T p3] X.env:=by rfl)(he2:starEach [.Name T p3] X.env=(false,eval (.Name T p3) X.env) :: starEach [] X.env:=by rfl)(hpl:(backTo pos (starEach [.Name T p3] X.env)).any (·.1)=false:=by rfl):
  PE X (.Call (.Name "isinstance" p1) [.Name x p2,.Name T p3] [] pos) (λσ H Q=>∃v t b,σ[i]?=some (some v)/\TyQ X.K H v t/\W.kitOne X.K t (.type T')=some b/\Q (.bl b) H):=by
 have h:=bM (X:=X) (pos:=pos) (p:=p1) Ny g1 b PyProof.Rows.boot_isinstance (aA (Pt (i:=i) (pos:=p2) hN hv hd hcd) (aA (Ve (v:=.ty T') (pos:=p3) g2 b2 hT rfl hTn hTd) aC he2) he) ∅ ∅ he hpl;intro pins s σ H Q I q;obtain⟨v,t,bb,h1,h2,h3,h4⟩:=q;exact h pins s σ H Q I ⟨v,h1,v,T',t,bb,rfl,h2,h3,h4⟩
end
theorem SqL.upd {K:Frag}(h:SqL K H a xs)(ne:a≠l):SqL K (L2.upd H l o) a xs:=by
 rcases h with (h | ⟨u,h⟩) | h
 .exact .inl (.inl (by rw[aU ne];exact h))
 .exact .inl (.inr ⟨u,by rw[aU ne];exact h⟩)
 .exact .inr h
theorem SqT.upd {K:Frag}(h:SqT K H a xs)(hl:H l=some (.lst ys)):SqT K (L2.upd H l o) a xs:=by
 rcases h with (h | ⟨u,h⟩) | h
 .exact .inl (.inl (by rw[aU (jG h hl (λz=>by cases z))];exact h))
 .exact .inl (.inr ⟨u,by rw[aU (jG h hl (λz=>by cases z))];exact h⟩)
 .exact .inr h
theorem vC {K:Frag}:∀ns:List Int,pP K H (ns.map V.int) (ns.map PyData.int)
 | []=>.nil
 |n :: r=>.cons (.int n) (vC r)
theorem wJ:∀ns:List Int,PyData.canLayAll0 (ns.map PyData.int)=true
 | []=>rfl
 |n :: r=>by
  show ((PyData.int n).canLay0 && PyData.canLayAll0 (r.map PyData.int))=true;rw[wJ r];rfl
theorem Rv (ns:List Int)(lo hi:Option Int):∃ms:List Int,jA (ns.map V.int) lo hi=ms.map V.int/\ms.length<=ns.length:=by
 exists (ns.drop (HT.sIx (ns.map V.int).length 0 lo)).take (HT.sIx (ns.map V.int).length (ns.map V.int).length hi - HT.sIx (ns.map V.int).length 0 lo),?_,?_
 .unfold jA;rw[map_take,map_drop]
 .rw[length_take,length_drop];lia
theorem jR:(((σC 2 fr σ).set 0 (some x)).set 1 (some y)).length=(σC 2 fr σ).length/\∀(i:Nat) v,(σC 2 fr σ)[i]?=some (some v)->(((σC 2 fr σ).set 0 (some x)).set 1 (some y))[i]?=some (some v):=by
 exists ⋯,λi v h=>?_
 match i with
 |0=>unfold σC at h;simp at h
 |1=>unfold σC at h;simp at h
 |k+2=>rw[getElem?_set_ne (),getElem?_set_ne ()];exact h
theorem Fqs.set {K:Frag}(h:Fq K H a p):∀{xs:List V} {ps:List Mq.Q2} (i:Nat),Fqs K H xs ps->Fqs K H (xs.set i (.ref a)) (ps.set i p)
 |_,_,_,.nil=>.nil
 |_,_,0,.cons _ q=>.cons h q
 |_,_,i+1,.cons g q=>.cons g (Fqs.set h i q)
theorem Fqs.at {K:Frag}:∀{xs:List V} {ps:List Mq.Q2} {i:Nat} {p:Mq.Q2},Fqs K H xs ps->ps[i]?=some p->∃a,xs[i]?=some (.ref a)/\Fq K H a p
 |_,_,_,_,.nil,h=>by simp at h
 |_,_,0,_,.cons h _,e=>by simp at e;subst e;exists _,rfl,h
 |_,_,i+1,_,.cons _ q,e=>by simpa using Fqs.at q (by simpa using e)
theorem Mu (lo:-(2 ^ n:Int) < i)(hi:i < 2 ^ n):Mq.B n i:=by
 unfold Mq.B;have e:((2 ^ n:Nat):Int)=2 ^ n:=by simp
 lia
theorem qC (h:k < n):ixN n (k:Int)=some k:=by
 unfold ixN;rw[if_pos (),if_pos ()];simp
section
variable {X:Cx} {tg:Expr}
inductive qm2 (K:Frag) (xs:List V) (H:Hp) (Q:VK):Prop where
 |mk (p:Addr) (bs:List Bool):xs=[.ref p]->SqL K H p (bs.map V.bl)->Q (.bl (bs.all id)) H->qm2 K xs H Q
theorem mM (hc:X.calm=true):kI X (.builtin "all") (qm2 X.K):=by
 intro pins s σ H xs us Q I r h;obtain⟨p,bs,rfl,hq,q⟩:=h;obtain⟨u,rfl,rx⟩:=lS r
 cases rx
 obtain⟨its,rv,pl,hz⟩:=I.list hq;have hlen:its.toArray.size=bs.length:=by rw[size_toArray,<- rv.length,length_map]
 have hne:p≠s.heap.objs.size:=by
  obtain⟨o,e,_⟩:=pl.isList;exact Nat.ne_of_lt (Heap.lt_size e)
 refine call_all_walk (wpAny_pyIter_list pl.isList ?_);exists s.heap.objs.size,_,_,_,_,_,λi=>bs.getD i false,rfl,Walks.list (by exact I.ok.hd hc) s.heap.objs.size p hne its.toArray,⟨⟨_,Heap.get?_push_size _ rfl,rfl,rfl⟩,?_⟩,?_,?_
 .obtain⟨o,e,c⟩:=pl.isList;exists o,Heap.get?_push_of_some _ e,c
 .intro i v s' Q' E' hv q';have hv':its[i]?=some v:=by simpa using hv
  have hi:i < its.length:=(List.getElem?_eq_some_iff.mp hv').1;have hb:(bs.map V.bl)[i]?=some (.bl (bs.getD i false)):=by
   rw[getElem?_map,getElem?_eq_getElem (by rw[<- hlen];simpa using hi)];simp[getD,getElem?_eq_getElem (show i < bs.length by rw[<- hlen];simpa using hi)]
  obtain⟨u,hu,ru⟩:=rv.get hb;have e:u=v:=by rw[hv'] at hu;cases hu;rfl
  subst e
  cases ru
  exact wpAny_truthy_bool q'
 .intro h' tk kk;have e:(List.range its.toArray.size).all (λi=>bs.getD i false)=bs.all id:=by
   rw[hlen,Bool.eq_iff_iff,all_eq_true,all_eq_true];constructor
   .intro z b hb;obtain⟨i,hi,rfl⟩:=getElem_of_mem hb;have:=z i (mem_range.mpr hi);simpa[getD,getElem?_eq_getElem hi] using this
   .intro z i hi;have hi':=mem_range.mp hi;have:=z bs[i] (getElem_mem hi');simpa[getD,getElem?_eq_getElem hi'] using this
  rw[e];exists .bl _,H,I.kept (t':=tk) λb o hb=>?_,rfl,q;have hb2:b≠s.heap.objs.size:=Nat.ne_of_lt (Heap.lt_size hb);exact kk b o (by simpa using hb2) (Heap.get?_push_of_some _ hb)
end
inductive Kj {ι:Type} (C:ι->Addr) (m:Str) (sp:ι->Sp) (dvs:List V) (E:XK) (t:TA) (σ:St) (Q:VK) (x:V) (H1:Hp):Prop where
 |mk (i a dx fs):x=.ref a->H1 a=some (.ins (C i) dx fs)->fs.lookup m=none->(t σ H1 λvs H2=>sp i (x :: (vs++dvs)) H2 Q E)->Kj C m sp dvs E t σ Q x H1
def qi3 {ι:Type}(C:ι->Addr)(m:Str)(sp:ι->Sp)(dvs:List V)(E:XK)(ta:TE)(t:TA):TE:=λσ H Q=>ta σ H λx H1=>Kj C m sp dvs E t σ Q x H1
section
variable {X:Cx} {ι:Type} {C f:ι->Addr} {fd:ι->FuncData} {sp:ι->Sp} {m:Str} {CX:CXT} {k:Nat} {ps:List Str} {ds:List Value} {dvs:List V} {E:XK} {o e:Expr} {es:List Expr} {ta:TE} {t:TA} {apos pos:Pos}
theorem kH (he:PE X o ta)(c:∀i,Cls X.K (C i))(hm:∀i,gZ X.K (C i) m (f i))(F:∀i,aJ X.prog X.w X.K X.mg X.base CX k (f i) (fd i) ps (sp i))(hr:gR k X.A)(hb:∀i,aL X.K (fd i) ps ds)(hd:cA dvs ds)(hx:kS CX X E)(ht:eval (.Call (.Attribute o m apos) [] [] pos) X.env=(do
   let ov <- eval o X.env
   standAt apos.atName
   let (f,first) <- holding [ov] (getMethod ov m pl)
   callWith pos f first (backTo pos (starEach [] X.env)) (backToKw pos (keywordEach [] X.env))):=by rfl):
  PE X (.Call (.Attribute o m apos) [] [] pos) (qi3 C m sp dvs E ta Vp):=by
 intro pins s σ H Q I h;refine W.methodCall_KW (pl:=pl) (thn (he pins s σ H _ I h) λu s1 ⟨x,H1,I1,rx,i,a,dx,fs,ex,ea,l,q⟩=>?_) ht;subst ex;obtain rfl:u=Value.ref a:=rx;refine pD I1 ea (c i) (hm i) l ?_;exact W.callWith_K0 (first:=[.ref a]) I1.kIn (hm i).kp (Cr (us:=[.ref a]) (vs:=[.ref a]) (F i) hr (hb i) hd hx I1 (.cons rfl .nil) q)
end
inductive Kd where
 |pc | pu | ho
 deriving DecidableEq
def Kd.wd:Kd->Str
 | .pc=>"piece"
 | .pu=>"push"
 | .ho=>"hold"
def Kd.cn:Kd->Str
 | .pc=>"Piece"
 | .pu=>"Push"
 | .ho=>"Hold"
theorem Kd.wd_inj {k j:Kd}(h:k.wd=j.wd):k=j:=by
 cases k<;>cases j<;>first | rfl | exact absurd h ∅
theorem fsg:¬(("start":Str) = "goal"):=by decide +kernel
theorem fsz:¬(("start":Str) = "size"):=by decide +kernel
theorem fgz:¬(("goal":Str) = "size"):=by decide +kernel
def oS (s g z:V):List (Str × V):=dZ "size" z (dZ "goal" g (dZ "start" s []))
theorem iM (s g z:V):(oS s g z).lookup ("start":Str)=some s:=by
 unfold oS;rw[bL,if_neg fsz,bL,if_neg fsg,bL,if_pos rfl]
theorem jH (s g z:V):(oS s g z).lookup ("goal":Str)=some g:=by
 unfold oS;rw[bL,if_neg fgz,bL,if_pos rfl]
theorem lB (s g z:V):(oS s g z).lookup ("size":Str)=some z:=by
 unfold oS;rw[bL,if_pos rfl]
theorem kG (s g z:V){m:Str}(h1:¬m = "start")(h2:¬m = "goal")(h3:¬m = "size"):(oS s g z).lookup m=none:=by
 unfold oS;rw[bL,if_neg h3,bL,if_neg h2,bL,if_neg h1];rfl
def Rw (CK:Kd->Addr)(H:Hp)(x:Addr)(k:Kd)(s g z:V):Prop:=∃dx,H x=some (.ins (CK k) dx (oS s g z))
theorem Rw.same (e:aP H H')(h:Rw CK H x k s g z):Rw CK H' x k s g z:=let ⟨dx,q⟩:=h;⟨dx,e _ _ q⟩
theorem Rw.upd (h:Rw CK H x k s g z)(hl:H l=some (.lst ys)):Rw CK (L2.upd H l o) x k s g z:=let ⟨dx,q⟩:=h;⟨dx,by rw[aU (jG q hl (λz=>by cases z))];exact q⟩
structure RT (K:Frag) (mg:Str->Option Value) (CR:Addr) (CK:Kd->Addr):Prop where
 cl:∀k,Cls K (CK k)
 nS:∀k,hJ K (CK k) "start"
 nG:∀k,hJ K (CK k) "goal"
 nZ:∀k,hJ K (CK k) "size"
 t1:∀k,W.findIn K (.ref (CK k)) "__class__"=some (some (.builtin "object.__class__"))
 t2:W.specialIn K (.builtin "object.__class__") "__get__"=some (some (.builtin "getset_descriptor.__get__"))
 t3:W.takesIn K (.builtin "object.__class__")=some true
 t4:∀k,W.mroIn K (CK k) (.type "object")=some true
 isR:∀k,W.kitOne K (.ref (CK k)) (.ref CR)=some true
 isK:∀k j,W.kitOne K (.ref (CK k)) (.ref (CK j))=some (decide (k=j))
 mR:mg "Row"=some (.ref CR)
 mK:∀k,mg (Kd.cn k)=some (.ref (CK k))
section
variable {K:Frag} {mg:Str->Option Value} {CR:Addr} {CK:Kd->Addr} {H:Hp} {x:Addr} {k:Kd} {s g z:V}
theorem Rw.new (h1:H x=none)(h2:H dx=none)(ne:dx≠x):aP H (L2.upd (L2.upd H dx (.own x)) x (.ins C dx fs)):=λb o e=>by
 rw[aU (bA e h1),aU (bA e h2)];exact e
end
inductive Av (CK:Kd->Addr) (vs:List V) (H:Hp) (Q:VK) (E:XK):Prop where
 |mk (x dx:Addr) (k:Kd) (s g z:V):vs=[.ref x,s,g,z]->H x=some (.ins (CK k) dx [])->Q .non (upd H x (.ins (CK k) dx (oS s g z)))->Av CK vs H Q E
inductive kY (k:Kd) (vs:List V) (H:Hp) (Q:VK) (E:XK):Prop where
 |mk (x):vs=[x]->Q (.str k.wd) H->kY k vs H Q E
inductive oI (k:Kd) (vs:List V) (H:Hp) (Q:VK) (E:XK):Prop where
 |mk (x):vs=[x]->Q (.bl (decide (k≠.pu))) H->oI k vs H Q E
inductive uB (CK:Kd->Addr) (vs:List V) (H:Hp) (Q:VK) (E:XK):Prop where
 |mk (x:Addr) (k:Kd) (s g z:V):vs=[.ref x]->Rw CK H x k s g z->(∀t,H t=none->Q (.ref t) (upd H t (.tup [.str k.wd,s,g,z])))->uB CK vs H Q E
def qr5 (CK:Kd->Addr)(H:Hp)(Q:VK)(k:Kd)(s g z:V):Prop:=∀x H',aP H H'->H x=none->Rw CK H' x k s g z->Q (.ref x) H'
theorem Ib {K:Frag}(h1:pA K H x d)(h2:pA K H y d)(hl:d.canLay0=true)(hd:d.depth<=16)(z:Q (.bl (!neg)) H):zI K neg x y H Q:=by
 exists d,d,h1,h2,hl,hl,(),?_;have e:PyData.eqv d d=true:=PySem.SeqAt.eqv_refl _ hl;rw[e]
 cases neg<;>exact z
def rd4 (w:Str)(i j:Int)(p:Mq.Q2):PyData:=.tuple [.str w,.int i,.int j,qd p]
theorem Uv (h:(PyData.str w).canLay0=true)(i j:Int)(p:Mq.Q2):(rd4 w i j p).canLay0=true:=by
 show ((PyData.str w).canLay0 && ((PyData.int i).canLay0 && ((PyData.int j).canLay0 && ((qd p).canLay0 && true))))=true;rw[h];rfl
theorem Kd.lay (k:Kd):(PyData.str k.wd).canLay0=true:=by cases k<;>decide +kernel
theorem ifT {A B:Prop}(h:c=true)(x:A):if c=true then A else B:=by rw[if_pos h];exact x
theorem ifF {A B:Prop}(h:c=false)(x:B):if c=true then A else B:=by rw[if_neg (by rw[h];decide)];exact x
theorem Vh {K:Frag}(h:SqT K H t [.str w,.int i,.int j,.ref a])(f:Fq K H a p):pA K H (.ref t) (rd4 w i j p):=.tup h (.cons (.str _) (.cons (.int _) (.cons (.int _) (.cons f.dat .nil))))
theorem gL (k j:Kd):decide (V.str k.wd=V.str j.wd)=decide (k=j):=by
 by_cases h:k=j
 .subst h;simp
 .rw[decide_eq_false h];exact decide_eq_false λz=>h (Kd.wd_inj (V.str.inj z))
theorem kD.same {K:Frag}(s:aP H H')(h:kD K H x t):kD K H' x t:=by
 cases h with
 |non=>exact .non
 |bl b=>exact .bl b
 |int i=>exact .int i
 |str y=>exact .str y
 |flt y=>exact .flt y
 |lst e=>exact .lst (s _ _ e)
 |frz e=>exact .frz (s _ _ e)
 |tup e=>exact .tup (s _ _ e)
 |dK e=>exact .dK (s _ _ e)
 |dT e=>exact .dT (s _ _ e)
 |ins e cl ha hn htk hm=>exact .ins (s _ _ e) cl ha hn htk hm
theorem kA {p:Kd->Prop}(a:p .pc)(b:p .pu)(c:p .ho):∀k,p k:=λk=>by cases k<;>assumption
theorem wL (K:Frag)(t:PySem.Value):PySem.W.kitOne K t t=some true:=by unfold PySem.W.kitOne;rw[if_pos (beq_self_eq_true _)]
def kd3 {α:Type}(a b c:α):Kd->α
 | .pc=>a
 | .pu=>b
 | .ho=>c
end L2
namespace Mq
def nB (ps:List Q2):Prop:=∀p∈ps,Low p
end Mq
open Mq (nB)
namespace L2
open PySem PySem.Spec PyProof.Rows
section
variable {κ:Type} [DecidableEq κ]
def lJ (kvs:List (κ × V))(k:κ):Option V:=(kvs.find? λkv=>decide (kv.1=k)).map (·.2)
def tO (kvs:List (κ × V))(k:κ)(v:V):List (κ × V):=
 if (kvs.any λkv=>decide (kv.1=k))=true then kvs.map (λkv=>if kv.1=k then (kv.1,v) else kv) else kvs++[(k,v)]
theorem vZ {p:κ × V}(e:p.1=k):lJ (p :: r) k=some p.2:=by simp[lJ,find?_cons,e]
theorem wC {p:κ × V}(e:¬p.1=k):lJ (p :: r) k=lJ r k:=by simp[lJ,find?_cons,e]
theorem tI (kvs:List (κ × V))(k:κ)(v:V):(tO kvs k v).length<=kvs.length+1:=by
 unfold tO;split
 .rw[length_map];lia
 .rw[List.length_append,length_cons,length_nil];lia
theorem jZ.isSome_eq (r:jZ o u):o.isSome=u.isSome:=by
 cases o with
 |none=>cases u with
  |none=>rfl
  |some _=>exact(show False from r).elim
 |some _=>cases u with
  |none=>exact(show False from r).elim
  |some _=>rfl
theorem KV.val (r:KV kvs vs)(k:κ):jZ (lJ kvs k) (valueAt vs k):=by
 unfold KV at r
 induction r with
 |nil=>exact True.intro
 | @cons p q ps qs h t ih=>
  obtain⟨h1,h2⟩:=h
  by_cases e:p.1=k
  .have e':q.1=k:=h1.symm.trans e;have b:valueAt (q :: qs) k=some q.2:=by simp[valueAt,find?_cons,e']
   rw[vZ e,b];exact h2
  .have e':¬q.1=k:=λz=>e (h1.trans z);have b:valueAt (q :: qs) k=valueAt qs k:=by simp[valueAt,find?_cons,e']
   rw[wC e,b];exact ih
theorem KV.any (r:KV kvs vs)(k:κ):(kvs.any λkv=>decide (kv.1=k))=vs.any λkv=>decide (kv.1=k):=by
 unfold KV at r
 induction r with
 |nil=>rfl
 |cons h t ih=>rw[any_cons,any_cons,ih,h.1]
theorem KV.repl (r:KV kvs vs)(k:κ)(ry:cL y u):
  KV (kvs.map λkv=>if kv.1=k then (kv.1,y) else kv) (vs.map λkv=>if kv.1=k then (kv.1,u) else kv):=by
 unfold KV at r ⊢
 induction r with
 |nil=>exact .nil
 | @cons p q ps qs h t ih=>
  rw[map_cons,map_cons];refine .cons ?_ ih;obtain⟨h1,h2⟩:=h
  by_cases e:p.1=k
  .rw[if_pos e,if_pos (h1.symm.trans e)];exists h1,ry
  .rw[if_neg e,if_neg (λz=>e (h1.trans z))];exists h1,h2
theorem KV.put (r:KV kvs vs)(k:κ)(ry:cL y u):KV (tO kvs k y) (stored vs k u):=by
 unfold tO stored;rw[r.any k]
 by_cases e:(vs.any λkv=>decide (kv.1=k))=true
 .rw[if_pos e,if_pos e];exact r.repl k ry
 .rw[if_neg e,if_neg e];exact Paired.snoc r ⟨rfl,ry⟩
theorem KV.length {kvs:List (κ × V)}(r:KV kvs vs):kvs.length=vs.length:=Paired.length r
end
theorem Ll (r:cL (kV k) u):(dW P w).is k u=true:=by
 cases k with
 |inl i=>obtain⟨t,e⟩:=(show ∃t,u=Value.int i t from r);subst e;exact Fp P w i t
 |inr x=>obtain⟨t,e⟩:=(show ∃t,u=Value.str x t from r);subst e;exact Fh P w x t
theorem yU:∀{ks:List Key} {us:List Value},cA (ks.map kV) us->ItemsAre (dW P w) ks us
 | [],_,r=>by rw[map_nil] at r;cases r;exact .nil
 |k :: ks,_,r=>by
  rw[map_cons] at r
  cases r with
  |cons h t=>exact .cons (Ll h) (yU t)
abbrev KT (H:Hp):List (List Key × V)->List (List Key × Addr × Value)->Prop:=Paired λp q=>p.1=q.1/\H q.2.1=some (.tup (p.1.map kV))/\cL p.2 q.2.2
theorem KT.val (r:KT H kvs xs)(k:List Key):jZ (lJ kvs k) ((atKey xs k).map (·.2)):=by
 induction r with
 |nil=>exact True.intro
 | @cons p q ps qs h t ih=>
  obtain⟨h1,_,h2⟩:=h
  by_cases e:p.1=k
  .have e':q.1=k:=h1.symm.trans e;have b:atKey (q :: qs) k=some q.2:=by simp[atKey,find?_cons,e']
   rw[vZ e,b];exact h2
  .have e':¬q.1=k:=λz=>e (h1.trans z);have b:atKey (q :: qs) k=atKey qs k:=by simp[atKey,find?_cons,e']
   rw[wC e,b];exact ih
section
variable {P:Program} {w:World} {H:Hp} {h:Heap} {a:Addr}
theorem Yz (ok:HOk P w H h)(e:Rd H a u):cY P w H h a u:=e.ok ok
theorem Le (ok:HOk P w H h)(e:Rd H a (.dK kvs)):kvs.length<=sizeLine/\(a == sysModules)=false/\∃vs,KV kvs vs/\h.DictOf (dW P w) a vs:=
 show cY P w H h a (.dK kvs) from Yz ok e
theorem Rz (ok:HOk P w H h)(e:H a=some (.dK kvs)):kvs.length<=sizeLine/\(a == sysModules)=false/\∃vs,KV kvs vs/\h.DictOf (dW P w) a vs:=Le ok (.inl e)
theorem Pl (ok:HOk P w H h)(e:H a=some (.tup (ks.map kV))):(tupleKind (dW P w)).is h ks a:=by
 obtain⟨_,its,r,o,h1,h2,n,h3⟩:=(show cY P w H h a (.tup (ks.map kV)) from ok a _ e)
 exists o,its.toArray,n,h1,h2,h3,by simpa using yU r
theorem Td (ok:HOk P w H h)(e:Rd H a (.dT kvs)):kvs.length<=sizeLine/\(a == sysModules)=false/\
  ∃xs,KT H kvs xs/\h.DictOfH (tupleKind (dW P w)) a xs:=by
 obtain⟨z,y,xs,r,o,es,ep,h1,h2,h3,h4,h5⟩:=(show cY P w H h a (.dT kvs) from Yz ok e)
 exists z,y,xs,r,o,es,ep,h1,h2,h3,h4,λx hx=>?_,h5;have all:∀{l:List (List Key × V)} {m:List (List Key × Addr × Value)},KT H l m->∀x∈m,(tupleKind (dW P w)).is h x.1 x.2.1:=by
  intro l m q
  induction q with
  |nil=>intro x hx;exact nomatch hx
  | @cons p q ps qs hq t ih=>
   intro x hx;rcases mem_cons.mp hx with e | hx
   .subst e;exact Pl ok (by rw[<- hq.1];exact hq.2.1)
   .exact ih x hx
 exact all r x hx
end
def rT (H:Hp)(a:Addr)(y:V)(r:Option V):Prop:=
 (∃kvs k,Rd H a (.dK kvs)/\y=kV k/\r=lJ kvs k)\/∃kvs k b,Rd H a (.dT kvs)/\y=.ref b/\H b=some (.tup (k.map kV))/\r=lJ kvs k
theorem rT.k {k:Key}(e:H a=some (.dK kvs)):rT H a (kV k) (lJ kvs k):=.inl ⟨kvs,k,.inl e,rfl,rfl⟩
section
variable {X:Cx} {pins:List (Addr × Obj)} {σ:St} {H:Hp} {s:Shared} {a:Addr} {y v:V} {u r:Value} {o:Option V} {A:Around} {E:Value->Shared->Prop}
theorem Inv.big (I:Inv X pins σ H s):sysModules < s.heap.objs.size:=by
 have h:mainGlobals < s.heap.objs.size:=(I.mod.glob.keeps I.bk).lt;exact Nat.lt_trans ∅ h
theorem Mv (hu:A.units+1 < cLine)(I:Inv X pins σ H s)(g:rT H a y (some v))(ry:cL y u)(h:∀w' s',Inv X pins σ H s'->cL v w'->Q w' s'):
  wpAny (model X.prog X.w) A (getItem (.ref a) u) Q E s:=by
 rcases g with ⟨kvs,k,e,ey,l⟩ | ⟨kvs,k,b,e,ey,eb,l⟩
 .subst ey;obtain⟨z,hd,vs,rel,dd⟩:=Le I.hok e;obtain⟨w',hw,rw'⟩:=jZ.some_of (v:=v) (o:=valueAt vs k) (by rw[l];exact rel.val k);exact wpAny_getItem_of (Ll ry) dd.mapOf hw (h w' _ (I.tok _) rw')
 .subst ey
  cases (show u=Value.ref b from ry)
  obtain⟨z,hd,xs,rel,dd⟩:=Td I.hok e;obtain⟨w',hw,rw'⟩:=jZ.some_of (v:=v) (o:=(atKey xs k).map (·.2)) (by rw[l];exact rel.val k);obtain⟨p,hp,hp2⟩:=Option.map_eq_some_iff.mp hw;refine wpAny_getItem_heap (tupleKind_room_in1 hu) (Pl I.hok eb) dd hp ?_;rw[hp2];exact h w' _ (I.tok _) rw'
theorem Lq (I:Inv X pins σ H s)(mu:Mut (H a))(hs:Heap.SameBut a s.heap h')(he:∃q,h'.get? a=some q)(new:cY X.prog X.w (upd H a ob) h' a ob):
  Inv X pins σ (upd H a ob) { s with heap:=h',toks:=t' }:=
 I.write (x:=a) (e:=a) mu (.inl rfl) (λb q hb z=>(hs.2 b hb).trans z) he new
theorem Of (z:kvs.length<=sizeLine)(hd:(a == sysModules)=false)(rel:KV kvs vs)(dd:h'.DictOf (dW P w) a vs):
  cY P w H' h' a (.dK kvs):=⟨z,hd,vs,rel,dd⟩
end
def qm5 (i:Expr):Prop:=∀ov iv,subscripted i false ov iv=operate [ov,iv] (getItem ov iv)
theorem Yi {T id:String}(hl:typeLookup (.type T) "__getitem__"=pure (some (.builtin id)))(hs:qm5 slice)(h:wpAny (model prog w) A (eval value env) (λo s₁=>wpAny (model prog w) A (eval slice env) (λi s₂=>s₂.TypeIs o T/\wpAny (model prog w) A (getItem o i) Q E s₂) E s₁) E s):
  wpAny (model prog w) A (eval (.Subscript value slice pos) env) Q E s:=by
 refine Subscript_ (wpAny_mono h (λo s₁ h₁=>wpAny_mono h₁ (λi s₂ h₂=>?_) λ_ _ x=>x) λ_ _ x=>x);obtain⟨hT,h₂⟩:=h₂;unfold subscriptTail;refine wpAny_bind ?_;rw[getitemInPython_of_ne hT.not_modules];refine wpAny_bind (wpAny_specialOf hT hl ?_);have fin:wpAny (model prog w) A (subscripted slice false o i) (λr s₃=>wpAny (model prog w) A (letTemporaryGo value o r >>= λ_=>pure r) Q E s₃) E s₂:=by
  rw[hs o i];exact wpAny_operating (wpAny_mono h₂ (λr s₃ h₃=>wpAny_bind (wpAny_letTemporaryGo (wpAny_pure h₃))) λ_ _ x=>x)
 first
  |exact wpAny_pure (wpAny_bind fin)
  |exact wpAny_bind (wpAny_pure (wpAny_bind fin))
  |exact wpAny_bind fin
theorem Ds (I:Inv X pins σ H s)(g:rT H a y o):s.TypeIs (.ref a) "dict":=by
 rcases g with ⟨kvs,k,e,_,_⟩ | ⟨kvs,k,b,e,_,_,_⟩
 .obtain⟨_,_,vs,_,dd⟩:=Le I.hok e;exact dd.typeIs
 .obtain⟨_,_,xs,_,dd⟩:=Td I.hok e;exact dd.typeIs
def qj6 (td ty:TE):TE:=λσ H Q=>td σ H λx H1=>ty σ H1 λy H2=>∃a v,x=.ref a/\rT H2 a y (some v)/\Q v H2
section
variable {X:Cx} {o i e value:Expr} {pos pos' tpos:Pos} {td ty tv:TE}
theorem qM (hu:X.A.units+1 < cLine)(ho:PE X o td)(hi:PE X i ty)(hs:qm5 i):PE X (.Subscript o i pos) (qj6 td ty):=by
 intro pins s σ H Q I h;refine Yi PySem.F.slot_dict_getitem.lookup hs (thn (ho pins s σ H _ I h) λu s1 ⟨x,H1,I1,rx,q1⟩=>thn (hi pins s1 σ H1 _ I1 q1) λiv s2 ⟨y,H2,I2,ry,a,v,ex,g,q2⟩=>?_);subst ex;obtain rfl:u=Value.ref a:=rx;exists Ds I2 g,Mv hu I2 g ry λw' s3 I3 rw'=>⟨v,H2,I3,rw',q2⟩
end
theorem Fk (h:Heap)(hb:sysModules < h.objs.size):cY P w H (h.push { cls:=.type "dict",data:=.dict #[] }) h.objs.size (.dK []):=
 ⟨Nat.zero_le _,beq_eq_false_iff_ne.mpr (Ne.symm (Nat.ne_of_lt hb)),[],.nil,Heap.DictOf.new h⟩
def qg9:TE:=λ_ H Q=>∀p,H p=none->Q (.ref p) (upd H p (.dK []))
section
variable {X:Cx} {pos:Pos}
theorem Uc:PE X (.Dict [] [] pos) qg9:=λpins s σ H Q I h=>
 wpAny_Dict_empty ⟨.ref s.heap.objs.size,_,I.laid (a:=s.heap.objs.size) (o:=.dK []) (t':=s.toks) (λ_ _ q=>Heap.get?_push_of_some _ q) (Nat.le_refl _) (Fk s.heap I.big),rfl,h _ (I.hok.fresh (Nat.le_refl _))⟩
end
def Ij:List (TE × TE)->St->Hp->(List (V × V)->Hp->Prop)->Prop
 | [],_,H,Q=>Q [] H
 | (tk,tv) :: r,σ,H,Q=>tk σ H λx H1=>tv σ H1 λy H2=>Ij r σ H2 λps H3=>Q ((x,y) :: ps) H3
abbrev VV:List (V × V)->List (Value × Value)->Prop:=Paired λp q=>cL p.1 q.1/\cL p.2 q.2
def PPs (X:Cx)(pos:Pos)(keys:List (Option Expr))(values:List Expr)(trs:List (TE × TE)):Prop:=
 ∀(pins:List (Addr × Obj)) (s:Shared) (σ:St) (H:Hp) (Q:List (V × V)->Hp->Prop),Inv X pins σ H s->Ij trs σ H Q->
  wpAny (model X.prog X.w) X.A (evalPairs (pairTrees keys values X.env pos)) (λvs s'=>∃ps H',Inv X pins σ H' s'/\VV ps vs/\Q ps H') X.xe s
theorem Vo:PPs X pos [] [] []:=λpins s σ H Q I h=>pairTrees_nil_walk ⟨[],H,I,.nil,h⟩
theorem pZ (hk:PE X k tk)(hv:PE X v tv)(hr:PPs X pos ks vs trs):
  PPs X pos (some k :: ks) (v :: vs) ((tk,tv) :: trs):=λpins s σ H Q I h=>
 pairTrees_cons_walk (thn (hk pins s σ H _ I h) λu s1 ⟨x,H1,I1,rx,q1⟩=>thn (hv pins s1 σ H1 _ I1 q1) λw2 s2 ⟨y,H2,I2,ry,q2⟩=>
  thn (hr pins s2 σ H2 _ I2 q2) λws s3 ⟨ps,H3,I3,rel,q3⟩=>⟨(x,y) :: ps,H3,I3,.cons ⟨rx,ry⟩ rel,q3⟩)
def rF (kvs more:List (Key × V)):List (Key × V):=more.foldl (λacc kv=>tO acc kv.1 kv.2) kvs
theorem KV.merge:∀{more:List (Key × V)} {rs:List (Key × Value)} {kvs:List (Key × V)} {vs:List (Key × Value)},KV more rs->KV kvs vs->KV (rF kvs more) (merged vs rs):=by
 intro more rs kvs vs r;unfold KV at r
 induction r generalizing kvs vs with
 |nil=>intro q;exact q
 | @cons p q ps qs h t ih=>
  intro r0;have e:KV (tO kvs p.1 p.2) (stored vs q.1 q.2):=by
   have:=r0.put p.1 h.2;rw[<- h.1];exact this
  exact ih e
theorem oR:∀(more kvs:List (Key × V)),(rF kvs more).length<=kvs.length+more.length
 | [],kvs=>by show kvs.length<=kvs.length+0;lia
 |p :: r,kvs=>by
  have h1:=oR r (tO kvs p.1 p.2);have h2:=tI kvs p.1 p.2;show (rF (tO kvs p.1 p.2) r).length<=_;rw[length_cons];lia
theorem uX:∀{kvs:List (Key × V)} {ws:List (Value × Value)},VV (kvs.map λkv=>(kV kv.1,kv.2)) ws->∃rs,Carries (dW P w) ws rs/\KV kvs rs
 | [],_,r=>by rw[map_nil] at r;cases r;exists [],True.intro,.nil
 |p :: kvs,_,r=>by
  rw[map_cons] at r
  cases r with
  | @cons a b as bs h t=>
   obtain⟨rs,c,q⟩:=uX (P:=P) (w:=w) t;obtain⟨b1,b2⟩:=b;exists (p.1,b2) :: rs,⟨Ll h.1,rfl,c⟩,.cons ⟨rfl,h.2⟩ q
def qi8 (trs:List (TE × TE)):TE:=λσ H Q=>∀p,H p=none->Ij trs σ (upd H p (.dK [])) λps H2=>H2 p=some (.dK [])/\∃kvs:List (Key × V),ps=kvs.map (λkv=>(kV kv.1,kv.2))/\kvs.length<=15/\Q (.ref p) (upd H2 p (.dK (rF [] kvs)))
theorem Wn (h:PPs X pos keys values trs)(hall:keys.all (·.isSome)=true)(hl:keys.length=values.length)(h0:keys≠[])(h15:keys.length<=15):PE X (.Dict keys values pos) (qi8 trs):=by
 intro pins s σ H Q I q;have hn:=I.hok.fresh (Nat.le_refl s.heap.objs.size);have I1:=I.laid (a:=s.heap.objs.size) (o:=.dK []) (h':=s.heap.push { cls:=.type "dict",data:=.dict #[] }) (t':=s.toks) (λ_ _ q=>Heap.get?_push_of_some _ q) (Nat.le_refl _) (Fk s.heap I.big);refine wpAny_Dict_walk (knd:=dW X.prog X.w) hall hl h0 h15 (thn (h pins _ σ _ _ I1 (q _ hn)) λws s2 ⟨ps,H2,I2,rel,e,kvs,ep,lk,q2⟩=>?_);subst ep;obtain⟨rs,c,rk⟩:=uX (P:=X.prog) (w:=X.w) rel;obtain⟨z,hd,vs0,r0,dd⟩:=Rz I2.hok e
 cases r0
 exists rs,c,dd,λh' dd' hs=>⟨.ref s.heap.objs.size,_,?_,rfl,q2⟩;have hz:(rF [] kvs).length<=sizeLine:=by
  have h1:=oR kvs [];rw[length_nil] at h1;rw[sizeLine_eq];lia
 have he:∃q,h'.get? s.heap.objs.size=some q:=let ⟨q,_,_,hq,_⟩:=dd';⟨q,hq⟩
 exact Lq I2 (by rw[e];exact True.intro) hs he (Of hz hd (rk.merge .nil) dd')
structure M2 (X:Cx) (o:Expr) (m:Str) (apos:Pos) (e f:Expr) (cpos:Pos):Prop where
 base:attributeBase o m X.env (eval o X.env)=eval o X.env
 few:((backTo cpos (starEach [e,f] X.env)).all (λx=>!x.1) && (backToKw cpos (keywordEach [] X.env)).all (λx=>x.1.isSome)
  && decide (([e,f]:List Expr).length+([]:List Keyword).length+(if ([]:List Keyword).isEmpty then 0 else 1) < 30))=true
 line:(apos.endLine == cpos.line)=true
 trees:backTo cpos (starEach [e,f] X.env)=[(false,eval e X.env),(false,eval f X.env)]
def IsD (H:Hp)(a:Addr):Prop:=(∃kvs,Rd H a (.dK kvs))\/∃kvs,Rd H a (.dT kvs)
theorem Ub (I:Inv X pins σ H s)(d:IsD H a):
  s.TypeIs (.ref a) "dict"/\(∀b,Value.ref a=.ref b->∃ob,s.heap.get? b=some ob/\ob.dict=none)/\(a == sysModules)=false:=by
 rcases d with ⟨kvs,e⟩ | ⟨kvs,e⟩
 .obtain⟨_,hd,vs,_,dd⟩:=Le I.hok e;exists dd.typeIs,λb q=>?_,hd
  cases q
  obtain⟨ob,_,_,h1,h2,_⟩:=dd;exists ob,h1,h2.2.1
 .obtain⟨_,hd,xs,_,dd⟩:=Td I.hok e;exists dd.typeIs,λb q=>?_,hd
  cases q
  obtain⟨ob,_,_,h1,h2,_⟩:=dd;exists ob,h1,h2.2.1
theorem pG:∀ns:List Int,PyData.depthAll (ns.map PyData.int)<=1
 | []=>by simp[PyData.depthAll]
 |n :: r=>by
  have b:=pG r;simp only[map_cons,PyData.depthAll,PyData.depth];lia
theorem xH {K:Frag}{ns:List Int}(h1:SqL K H a (ns.map V.int))(h2:SqL K H b (ns.map V.int))(z:Q (.bl (!neg)) H):zI K neg (.ref a) (.ref b) H Q:=
 Ib (d:=.list (ns.map PyData.int)) (.lst h1 (vC ns)) (.lst h2 (vC ns)) (wJ ns) (by have:=pG ns;simp only[PyData.depth];lia) z
theorem Fq.mod {K:Frag}(l:K.lookup a=some ⟨.type "tuple",d,.seq #[.int i t,.int j u] n,sl⟩)(H:Hp):Fq K H a (i,j):=
 .inr ⟨_,_,_,l,rfl,rfl,(zl9 2),.cons ⟨_,rfl⟩ (.cons ⟨_,rfl⟩ .nil)⟩
abbrev RD:=Kd × Int × Int × Mq.Q2
inductive Rts (K:Frag) (H:Hp):List V->List RD->Prop where
 |nil:Rts K H [] []
 |cons {t z:Addr} {k:Kd} {i j:Int} {p:Mq.Q2} {xs:List V} {ds:List RD} (h:SqT K H t [.str k.wd,.int i,.int j,.ref z]) (f:Fq K H z p) (q:Rts K H xs ds):Rts K H (.ref t :: xs) ((k,i,j,p) :: ds)
section
variable {K:Frag} {H H':Hp}
theorem Rts.same (e:aP H H'):∀{xs:List V} {ds:List RD},Rts K H xs ds->Rts K H' xs ds
 |_,_,.nil=>.nil
 |_,_,.cons h f q=>.cons (e.seqT h) (e.fq f) (Rts.same e q)
theorem Rts.length:∀{xs:List V} {ds:List RD},Rts K H xs ds->xs.length=ds.length
 |_,_,.nil=>rfl
 |_,_,.cons _ _ q=>by simp[Rts.length q]
theorem Rts.app:∀{xs ys:List V} {ds es:List RD},Rts K H xs ds->Rts K H ys es->Rts K H (xs++ys) (ds++es)
 |_,_,_,_,.nil,r=>r
 |_,_,_,_,.cons h f q,r=>.cons h f (Rts.app q r)
theorem Rts.at:∀{xs:List V} {ds:List RD} {q:Nat} {d:RD},Rts K H xs ds->ds[q]?=some d->∃t z,xs[q]?=some (.ref t)/\SqT K H t [.str d.1.wd,.int d.2.1,.int d.2.2.1,.ref z]/\Fq K H z d.2.2.2
 |_,_,_,_,.nil,h=>by simp at h
 |_,_,0,_,.cons h f _,e=>by simp at e;subst e;exists _,_,rfl,h,f
 |_,_,i+1,_,.cons _ _ q,e=>by simpa using Rts.at q (by simpa using e)
theorem Rts.set (h:SqT K H t [.str k.wd,.int i,.int j,.ref z])(f:Fq K H z p):∀{xs:List V} {ds:List RD} (q:Nat),Rts K H xs ds->Rts K H (xs.set q (.ref t)) (ds.set q (k,i,j,p))
 |_,_,_,.nil=>.nil
 |_,_,0,.cons _ _ q=>.cons h f q
 |_,_,n+1,.cons a b q=>.cons a b (Rts.set h f n q)
theorem Rts.upd (hl:H l=some (.lst ys)):∀{xs:List V} {ds:List RD},Rts K H xs ds->Rts K (L2.upd H l o) xs ds
 |_,_,.nil=>.nil
 |_,_,.cons h f q=>.cons (h.upd hl) (f.upd hl) (Rts.upd hl q)
def rdd (d:RD):PyData:=rd4 d.1.wd d.2.1 d.2.2.1 d.2.2.2
theorem Rts.dat:∀{xs:List V} {ds:List RD},Rts K H xs ds->pP K H xs (ds.map rdd)
 |_,_,.nil=>.nil
 |_,_,.cons h f q=>.cons (Vh h f) (Rts.dat q)
theorem Eo:∀ds:List RD,PyData.canLayAll0 (ds.map rdd)=true
 | []=>rfl
 |d :: r=>by
  show ((rdd d).canLay0 && PyData.canLayAll0 (r.map rdd))=true;rw[Eo r,show (rdd d).canLay0=true from Uv (Kd.lay _) _ _ _];rfl
theorem xA:∀ds:List RD,PyData.depthAll (ds.map rdd)<=3
 | []=>by simp[PyData.depthAll]
 |d :: r=>by
  have b:=xA r;have a:(rdd d).depth<=3:=by simp[rdd,rd4,qd,PyData.depth,PyData.depthAll]
  simp only[map_cons,PyData.depthAll];lia
theorem qi0 (h1:SqL K H a xs)(h2:SqL K H b ys)(f1:Rts K H xs ds)(f2:Rts K H ys ds)(z:Q (.bl (!neg)) H):zI K neg (.ref a) (.ref b) H Q:=
 Ib (d:=.list (ds.map rdd)) (.lst h1 f1.dat) (.lst h2 f2.dat) (Eo ds) (by have:=xA ds;simp only[PyData.depth];lia) z
end
def cK (l:Addr)(H H':Hp):Prop:=∀b o,H b=some o->b≠l->H' b=some o
theorem aP.x (s:aP H H'):cK l H H':=λb o h _=>s b o h
theorem cK.write (a:cK l H H1):cK l H (upd H1 l o):=λc u h n=>by rw[aU n];exact a c u h n
section
variable {K:Frag} {H H':Hp} {l:Addr}
theorem cK.seqT (hl:H l=some (.lst ys))(e:cK l H H')(h:SqT K H a xs):SqT K H' a xs:=by
 rcases h with (h | ⟨u,h⟩) | h
 .exact .inl (.inl (e _ _ h (jG h hl (λz=>by cases z))))
 .exact .inl (.inr ⟨u,e _ _ h (jG h hl (λz=>by cases z))⟩)
 .exact .inr h
theorem cK.rts (hl:H l=some (.lst ys))(e:cK l H H'):∀{xs:List V} {ds:List RD},Rts K H xs ds->Rts K H' xs ds
 |_,_,.nil=>.nil
 |_,_,.cons h f q=>.cons (e.seqT hl h) (e.seqT hl f) (cK.rts hl e q)
end
theorem fpk:¬(("point_count":Str) = "kept"):=by decide +kernel
def pL (m:Int)(l:Addr):List (Str × V):=dZ "kept" (.ref l) (dZ "point_count" (.int m) [])
theorem Db (m:Int)(l:Addr):(pL m l).lookup ("point_count":Str)=some (.int m):=by
 unfold pL;rw[bL,if_neg fpk,bL,if_pos rfl]
theorem fU (m:Int)(l:Addr):(pL m l).lookup ("kept":Str)=some (.ref l):=by
 unfold pL;rw[bL,if_pos rfl]
theorem fD (m:Int)(l:Addr){x:Str}(h1:¬x = "point_count")(h2:¬x = "kept"):(pL m l).lookup x=none:=by
 unfold pL;rw[bL,if_neg h2,bL,if_neg h1];rfl
def xM (m:Int)(d:RD):Prop:=0<=d.2.1/\d.2.1 < m/\0<=d.2.2.1/\d.2.2.1 < m/\Low d.2.2.2/\(d.1=.pc->0 < d.2.2.2.1)/\Mq.Bd 1000 d.2.2.2
structure dR (CN:Addr) (K:Frag) (H:Hp) (n l:Addr) (m:Int) (ds:List RD):Prop where
 ob:∃dx,H n=some (.ins CN dx (pL m l))
 ls:∃ts,H l=some (.lst ts)/\Rts K H ts ds
theorem dR.same {K:Frag}(e:aP H H')(h:dR CN K H n l m ds):dR CN K H' n l m ds:=
 let ⟨⟨dx,a⟩,ts,b,c⟩:=h;⟨⟨dx,e _ _ a⟩,ts,e _ _ b,c.same e⟩
theorem dR.x {K:Frag}(hq:H q=some (.lst ys))(e:cK q H H')(ne:l≠q)(h:dR CN K H n l m ds):dR CN K H' n l m ds:=
 let ⟨⟨dx,a⟩,ts,b,c⟩:=h;⟨⟨dx,e _ _ a (jG a hq (λz=>by cases z))⟩,ts,e _ _ b ne,e.rts hq c⟩
structure NT (K:Frag) (mg:Str->Option Value) (CN:Addr):Prop where
 cl:Cls K CN
 nP:hJ K CN "point_count"
 nK:hJ K CN "kept"
 t1:W.findIn K (.ref CN) "__class__"=some (some (.builtin "object.__class__"))
 t2:W.specialIn K (.builtin "object.__class__") "__get__"=some (some (.builtin "getset_descriptor.__get__"))
 t3:W.takesIn K (.builtin "object.__class__")=some true
 t4:W.mroIn K CN (.type "object")=some true
 mN:mg "Net"=some (.ref CN)
inductive pI (K:Frag) (CK:Kd->Addr) (vs:List V) (H:Hp) (Q:VK) (E:XK):Prop where
 |mk (t:Addr) (v s g z:V) (_:vs=[.ref t]) (_:SqT K H t [v,s,g,z]) (k:Kd):v=.str k.wd->qr5 CK H Q k s g z->pI K CK vs H Q E
inductive Km (K:Frag) (vs:List V) (H:Hp) (Q:VK) (E:XK):Prop where
 |mk (a:Addr) (p:Mq.Q2):vs=[.ref a]->Fq K H a p->Low p->Q (.bl true) H->Km K vs H Q E
inductive qf4 (K:Frag) (vs:List V) (H:Hp) (Q:VK) (E:XK):Prop where
 |mk (a:Addr) (p:Mq.Q2) (n:Nat):vs=[.ref a]->Fq K H a p->Low p->0 < p.1->Mq.Bd n p->n<=8000->Q (.bl true) H->qf4 K vs H Q E
inductive Zp (vs:List V) (H:Hp) (Q:VK) (E:XK):Prop where
 |mk (i b:Int):vs=[.int i,.int b]->0<=i->i < b->Q (.bl true) H->Zp vs H Q E
inductive Uy (K:Frag) (vs:List V) (H:Hp) (Q:VK) (E:XK):Prop where
 |mk (k:Kd) (z:Addr) (p:Mq.Q2):vs=[.str k.wd,.ref z]->Fq K H z p->Low p->(k=.pc->0 < p.1)->Mq.Bd 1000 p->Q .non H->Uy K vs H Q E
inductive Am (CN:Addr) (vs:List V) (H:Hp) (Q:VK) (E:XK):Prop where
 |mk (n dx:Addr) (m:Int):vs=[.ref n,.int m]->H n=some (.ins CN dx [])->1<=m->m<=20->(∀l H',H l=none->(∀b o,H b=some o->b≠n->H' b=some o)->H' n=some (.ins CN dx (pL m l))->H' l=some (.lst [])->Q .non H')->Am CN vs H Q E
inductive sK (CN:Addr) (K:Frag) (vs:List V) (H:Hp) (Q:VK) (E:XK):Prop where
 |mk (n l:Addr) (m:Int) (ds:List RD):vs=[.ref n]->dR CN K H n l m ds->Q (.int m) H->sK CN K vs H Q E
inductive Bz (CN:Addr) (K:Frag) (vs:List V) (H:Hp) (Q:VK) (E:XK):Prop where
 |mk (n l:Addr) (m:Int) (ds:List RD):vs=[.ref n]->dR CN K H n l m ds->(∀a ts H',aP H H'->H a=none->H' a=some (.lst ts)->Rts K H' ts ds->Q (.ref a) H')->Bz CN K vs H Q E
inductive Tc (CN:Addr) (K:Frag) (CK:Kd->Addr) (vs:List V) (H:Hp) (Q:VK) (E:XK):Prop where
 |mk (n l x z:Addr) (m:Int) (ds:List RD) (k:Kd) (i j:Int) (p:Mq.Q2):vs=[.ref n,.ref x]->dR CN K H n l m ds->Rw CK H x k (.int i) (.int j) (.ref z)->Fq K H z p->xM m (k,i,j,p)->ds.length < 40->(∀H',cK l H H'->dR CN K H' n l m (ds++[(k,i,j,p)])->Q (.int ds.length) H')->Tc CN K CK vs H Q E
inductive vW (CN:Addr) (K:Frag) (vs:List V) (H:Hp) (Q:VK) (E:XK):Prop where
 |mk (n l z:Addr) (m q:Int) (ds:List RD) (k:Kd) (i j:Int) (p0 p:Mq.Q2):vs=[.ref n,.int q,.ref z]->dR CN K H n l m ds->0<=q->ds[q.toNat]?=some (k,i,j,p0)->Fq K H z p->Low p->(k=.pc->0 < p.1)->Mq.Bd 1000 p->(∀H',cK l H H'->dR CN K H' n l m (ds.set q.toNat (k,i,j,p))->Q .non H')->vW CN K vs H Q E
theorem fB (P:St->Hp->Prop)(h1:∀X:St->Hp->Prop,(∀σ' H',P σ' H'->X σ' H')->(a1) { D with nx:=X } σ H)(h2:∀σ' H',P σ' H'->u D σ' H'):(lT a1 (u)) D σ H:=h1 _ h2
theorem qf1 (P:St->Hp->Prop)(h1:∀X:St->Hp->Prop,(∀σ' H',P σ' H'->X σ' H')->(lT a1 (a2)) { D with nx:=X } σ H)(h2:∀σ' H',P σ' H'->u D σ' H'):(lT a1 (lT a2 (u))) D σ H:=h1 _ h2
theorem Oa (P:St->Hp->Prop)(h1:∀X:St->Hp->Prop,(∀σ' H',P σ' H'->X σ' H')->(lT a1 (lT a2 (a3))) { D with nx:=X } σ H)(h2:∀σ' H',P σ' H'->u D σ' H'):(lT a1 (lT a2 (lT a3 (u)))) D σ H:=h1 _ h2
theorem qs7 (P:St->Hp->Prop)(h1:∀X:St->Hp->Prop,(∀σ' H',P σ' H'->X σ' H')->(lT a1 (lT a2 (lT a3 (a4)))) { D with nx:=X } σ H)(h2:∀σ' H',P σ' H'->u D σ' H'):(lT a1 (lT a2 (lT a3 (lT a4 (u))))) D σ H:=h1 _ h2
theorem Mc (ns:List Int)(lo hi:Option Int):∃ms:List Int,jA (ns.map V.int) lo hi=ms.map V.int:=
 ⟨(ns.drop (HT.sIx (ns.map V.int).length 0 lo)).take (HT.sIx (ns.map V.int).length (ns.map V.int).length hi - HT.sIx (ns.map V.int).length 0 lo),by unfold jA;rw[map_take,map_drop]⟩
end L2
namespace Mq
def val (p:Q2):Rat:=(p.1:Rat) / (p.2:Rat)
theorem cH {b:Int}(h:b≠0):(b:Rat)≠0:=λe=>h (Rat.intCast_inj.mp (by simpa using e))
theorem Fz {p:Q2}(hp:p.2≠0)(hb:b≠0)(h:p.1*b=t*p.2):val p=(t:Rat) / (b:Rat):=by
 unfold val;have h1:=cH hp;have h2:=cH hb;have h3:(p.1:Rat)*(b:Rat)=(t:Rat)*(p.2:Rat):=by rw[<- Rat.intCast_mul,<- Rat.intCast_mul,h]
 grind
theorem jP (hb:b≠0):val (red t b)=(t:Rat) / (b:Rat):=by
 have:=(gW (t:=t) hb).pos;exact Fz () hb (qX hb)
theorem qS (hp:Low p)(hq:Low q)(h:val p=val q):p=q:=by
 refine Pb hp hq ?_;have p1:=cH (show p.2≠0 by have:=hp.pos;lia);have q1:=cH (show q.2≠0 by have:=hq.pos;lia);unfold val at h;have:(p.1:Rat)*(q.2:Rat)=(q.1:Rat)*(p.2:Rat):=by grind
 rw[<- Rat.intCast_mul,<- Rat.intCast_mul] at this;exact Rat.intCast_inj.mp this
theorem vS (hp:1<=p.2)(hq:1<=q.2):val (gS p q)=val p+val q:=by
 have p1:=cH (show p.2≠0 by lia);have q1:=cH (show q.2≠0 by lia);unfold gS;rw[jP (iE hp hq),Rat.intCast_add,Rat.intCast_mul,Rat.intCast_mul,Rat.intCast_mul];unfold val;grind
theorem oK (hp:1<=p.2)(hq:1<=q.2):val (fZ p q)=val p - val q:=by
 have p1:=cH (show p.2≠0 by lia);have q1:=cH (show q.2≠0 by lia);unfold fZ;rw[jP (iE hp hq),Rat.intCast_sub,Rat.intCast_mul,Rat.intCast_mul,Rat.intCast_mul];unfold val;grind
theorem My (hp:1<=p.2)(hq:1<=q.2):val (tH p q)=val p*val q:=by
 have p1:=cH (show p.2≠0 by lia);have q1:=cH (show q.2≠0 by lia);unfold tH;rw[jP (iE hp hq),Rat.intCast_mul,Rat.intCast_mul];unfold val;grind
theorem Qi (hp:1<=p.2)(hq:1<=q.2)(h0:q.1≠0):val (tP p q)=val p / val q:=by
 have p1:=cH (show p.2≠0 by lia);have q1:=cH (show q.2≠0 by lia);have q2:=cH h0;unfold tP;rw[jP (uM hp h0),Rat.intCast_mul,Rat.intCast_mul];unfold val;grind
theorem Ku:val (0,1)=0:=by unfold val;simp;grind
theorem qo9:val (1,1)=1:=by unfold val;simp;grind
structure Ps (p:Q2):Prop where
 low:Low p
 pos:0 < p.1
theorem Vr (ht:0 < t)(hb:0 < b):0 < (red t b).1:=by
 have h1:=qX (t:=t) (b:=b) ();have h2:=(gW (t:=t) (b:=b) ()).pos;have h3:0 < t*(red t b).2:=Int.mul_pos ht ();rw[<- h1] at h3;exact Int.pos_of_mul_pos_left h3 ()
theorem qa4 (ht:0 < t)(hb:0 < b):Ps (red t b):=⟨gW (),Vr ht hb⟩
def jF:List Rat->Rat
 | []=>0
 |x :: l=>x+jF l
theorem En (a b:List Rat):jF (a++b)=jF a+jF b:=by
 induction a with
 |nil=>simp[jF];grind
 |cons x l ih=>simp only[cons_append,jF,ih];grind
theorem yK:∀{l:List Q2} {p:Q2},1<=p.2->Pos l->val (l.foldl gS p)=val p+jF (l.map val)
 | [],p,_,_=>by simp[jF];grind
 |q :: l,p,hp,h=>by
  have hq:=h q ⋯;rw[foldl_cons,yK (jI hp hq).pos (λf hf=>h f (mem_cons_of_mem _ hf)),vS hp hq];simp only[map_cons,jF];grind
theorem Kn (h:Pos l):val (tot l)=jF (l.map val):=by
 unfold tot;rw[yK ∅ h,Ku];grind
def rs (n:Nat)(F:Nat->Rat):Rat:=match n with
 |0=>0
 |n+1=>rs n F+F n
theorem aK {F G:Nat->Rat}(h:∀i,i < n->F i=G i):rs n F=rs n G:=by
 induction n with
 |zero=>rfl
 |succ n ih=>simp only[rs];rw[ih (λi hi=>h i ()),h n ()]
theorem eH (n:Nat)(F G:Nat->Rat):rs n (λi=>F i+G i)=rs n F+rs n G:=by
 induction n with
 |zero=>simp[rs];grind
 |succ n ih=>simp only[rs];rw[ih];grind
theorem eQ (n:Nat)(c:Rat)(F:Nat->Rat):rs n (λi=>c*F i)=c*rs n F:=by
 induction n with
 |zero=>simp[rs]
 |succ n ih=>simp only[rs];rw[ih];grind
theorem rP (n:Nat)(F:Nat->Rat):rs n (λi=>- F i)=- rs n F:=by
 induction n with
 |zero=>simp[rs]
 |succ n ih=>simp only[rs];rw[ih];grind
theorem dQ (n:Nat):rs n (λ_=>0)=0:=by
 induction n with
 |zero=>rfl
 |succ n ih=>simp only[rs];rw[ih];grind
theorem Gy (n k:Nat)(F:Nat->Rat):rs n (λi=>if k=i then F i else 0)=if k < n then F k else 0:=by
 induction n with
 |zero=>simp[rs]
 |succ n ih=>
  simp only[rs];rw[ih]
  by_cases h1:k < n
  .rw[if_pos h1,if_neg (),if_pos ()];grind
  .by_cases h2:k=n
   .subst h2;rw[if_neg h1,if_pos rfl,if_pos ()];grind
   .rw[if_neg h1,if_neg h2,if_neg ()];grind
theorem Ws (l:List Rat):jF l=rs l.length (λi=>l.getD i 0):=by
 rw[show jF l=jF (l.take l.length) by rw[take_length]]
 suffices h:∀n,n<=l.length->jF (l.take n)=rs n (λi=>l.getD i 0) from h _ (Nat.le_refl _)
 intro n
 induction n with
 |zero=>intro _;rfl
 |succ n ih=>
  intro hn;rw[take_add_one,En,ih ()];have:l[n]?=some l[n]:=getElem?_eq_getElem ();rw[this];simp only[rs,Option.toList,jF];rw[getD_eq_getElem?_getD,this];simp only[Option.getD_some];grind
abbrev z0:Q2:=(0,1)
abbrev Row:=Nat × Nat × Q2
theorem Gu (n:Nat)(F:Nat->Rat):jF ((List.range n).map F)=rs n F:=by
 induction n with
 |zero=>rfl
 |succ n ih=>rw[range_succ,map_append,En,ih];simp only[map_cons,map_nil,jF,rs];grind
theorem nB.pos (h:nB ls):Pos ls:=λp hp=>(h p hp).pos
def oY (L b:Int):Int:=Int.fdiv L (gc L b)*b
theorem pC (hL:1<=L)(hb:1<=b):1<=oY L b/\(∃j,oY L b=L*j)/\(∃k,oY L b=k*b/\1<=k)/\oY L b<=L*b:=by
 have gp:0 < gc L b:=wO ();have d1:gc L b ∣ L:=by unfold gc;exact Int.gcd_dvd_left ..
 have d2:gc L b ∣ b:=by unfold gc;exact Int.gcd_dvd_right ..
 obtain⟨k,hk⟩:=d1;obtain⟨j,hj⟩:=d2;have ek:Int.fdiv L (gc L b)=k:=fA () hk;have k1:1<=k:=by
  have:0 < gc L b*k:=by lia
  have:=Int.pos_of_mul_pos_right this ();lia
 unfold oY;rw[ek];exists ?_,⟨j,?_⟩,⟨k,rfl,k1⟩,?_
 .have:0 < k*b:=Int.mul_pos () ();lia
 .generalize gc L b=g at *
  rw[hk,hj];grind
 .have:k<=L:=by
   rw[hk];have:=Int.mul_le_mul_of_nonneg_right (show 1<=gc L b by lia) (show 0<=k by lia);lia
  exact Int.mul_le_mul_of_nonneg_right this ()
def cQ (ps:List Q2):Int:=ps.foldl (λL p=>oY L p.2) 1
theorem Mr (ps:List Q2)(p:Q2):cQ (ps++[p])=oY (cQ ps) p.2:=by unfold cQ;rw[foldl_append];rfl
theorem oA {ps:List Q2}(h:ps[i]?=some p):cQ (ps.take (i+1))=oY (cQ (ps.take i)) p.2:=by
 rw[take_add_one,h];exact Mr _ _
theorem oZ (hp:Pos ps)(hb:∀p∈ps,Bd n p):∀i,i<=ps.length->1<=cQ (ps.take i)/\B (1+n*i) (cQ (ps.take i))/\∀p∈ps.take i,∃k,cQ (ps.take i)=k*p.2
 |0,_=>⟨by show (1:Int)<=1;lia,show (1:Nat) < 2 ^ (1+n*0) by simp,λp h=>by simp at h⟩
 |i+1,hi=>by
  obtain⟨h1,h2,h3⟩:=oZ hp hb i ();have e:ps[i]?=some ps[i]:=getElem?_eq_getElem ();have mem:ps[i]∈ps:=getElem_mem _;rw[oA e];obtain⟨l1,⟨j,l2⟩,⟨k,l3,l4⟩,l5⟩:=pC h1 (hp _ mem);exists l1,?_,λp hpp=>?_
  .have:=h2.mul (hb _ mem).b;refine B.mono (n:=1+n*i+n) (this.le ?_) (by rw[Nat.mul_succ];lia);have h0:1<=ps[i].2:=hp _ mem;have:0<=cQ (ps.take i)*ps[i].2:=Int.mul_nonneg () ();lia
  .rw[take_add_one,e] at hpp;rcases mem_append.mp hpp with z | z
   .obtain⟨q,hq⟩:=h3 p z;exists q*j,by rw[l2,hq];grind
   .have:p=ps[i]:=by simpa using z
    rw[this];exists k,l3
theorem jU (hp:Pos ps):1<=cQ ps:=by
 have:∀(l:List Q2) (L:Int),1<=L->Pos l->1<=l.foldl (λL p=>oY L p.2) L:=λl=>by
  induction l with
  |nil=>intro L h _;exact h
  |cons p l ih=>intro L h q;exact ih _ (pC h (q p ⋯)).1 λx hx=>q x (mem_cons_of_mem _ hx)
 exact this ps 1 () hp
def Gb (L:Int)(p:Q2):Int:=p.1*Int.fdiv L p.2
def iw (ps:List Q2):List Int:=ps.map (Gb (cQ ps))
theorem qi2 (h:1<=p.2)(e:L=k*p.2):((Gb L p:Int):Rat)=val p*(L:Rat):=by
 have e1:Int.fdiv L p.2=k:=fA () (by rw[e,Int.mul_comm]);have n:=cH (show p.2≠0 by lia);unfold Gb val;rw[e1,e,Rat.intCast_mul,Rat.intCast_mul];grind
theorem Ey (hp:Pos ps):∀p∈ps,∃k,cQ ps=k*p.2:=λp hpp=>by
 have:∀(l:List Q2) (L:Int),1<=L->Pos l->(∃j,l.foldl (λL p=>oY L p.2) L=L*j)/\∀p∈l,∃k,l.foldl (λL p=>oY L p.2) L=k*p.2:=λl=>by
  induction l with
  |nil=>intro L h _;exists ⟨1,⋯⟩,λp h=>by simp at h
  |cons q l ih=>
   intro L h hq;obtain⟨l1,⟨j,l2⟩,⟨k,l3,l4⟩,l5⟩:=pC h (hq q ⋯);obtain⟨⟨j2,i1⟩,i2⟩:=ih (oY L q.2) l1 λx hx=>hq x (mem_cons_of_mem _ hx);exists ⟨j*j2,by rw[foldl_cons,i1,l2];grind⟩,λp hp=>?_;rcases mem_cons.mp hp with rfl | hp
   .exists k*j2,by rw[foldl_cons,i1,l3];grind
   .exact i2 p hp
 exact(this ps 1 () hp).2 p hpp
def hV (X:List (List Q2)):Prop:=∀row∈X,Pos row
theorem vO (h:Pos row)(j:Nat):1<=(row.getD j z0).2:=by
 rw[getD_eq_getElem?_getD]
 cases e:row[j]? with
 |none=>exact Int.le_refl 1
 |some v=>exact h v (mem_of_getElem? e)
end Mq
open Mq (Ey Gb Gy Ku Ps aK cH cQ dQ eH eQ hV iw jF jP jU oK oZ qS vS)
namespace L2
open PySem PySem.Spec PyProof.Rows
section
variable {M:Model} {A:Around} {E:Value->Shared->Prop} {s:Shared}
theorem Fi (hQ:Q { scope:=scope,locals:=s.heap.objs.size,globals:=globals,cells:=cellsFrom (s.heap.objs.size+1) scope.names cl,qual:=qual,func:=none,code:=env.code,frame:=env.frame,builtins:=env.builtins } { s with heap:=pushCells (s.heap.push { cls:=.type "dict",data:=.dict #[] }) scope.names }):
  wpAny M A (newFunctionEnv scope globals cl [] qual none .none (some env)) Q E s:=by
 simp only[newFunctionEnv,Option.isSome_some,if_true];refine wpAny_bind (wpAny_alloc ?_);refine wpAny_bind (wpAny_layCells _ (λname kind cells=>by cases hkc:kind == NameKind.cell<;>simp[hkc]) _ _ _ _ ?_);rw[show ({ s with heap:=s.heap.push { cls:=.type "dict",data:=.dict #[] } }:Shared).heap.objs.size=s.heap.objs.size+1 from Heap.size_push ..];exact wpAny_bind (wpAny_pure (wpAny_pure hQ))
end
abbrev Cu (scope:Scope)(cl:List (Str × Addr))(x0:Str)(C:Addr)(env:Env):Env:={ compEnvC scope cl C env with cells:=(x0,C+1) :: cl }
structure Cp (X:Cx) (scope:Scope) (cl:List (Str × Addr)) (x0:Str) (Nc:List Str) (nl:Nat) (fr:List Nat):Prop where
 clos:closureFor scope X.env=pure cl
 kind:scope.kind=.function
 names:∀y∈scope.names,y.2=.local->scope.names.lookup y.1=some .local
 one:∀n,cellsFrom n scope.names cl=(x0,n) :: cl
 psh:∀h,pushCells h scope.names=h.push { cls:=.type "cell",data:=.cell none }
 nin:cl.lookup x0=none
 sub:∀x c,cl.lookup x=some c->X.env.cells.lookup x=some c
 has:∀C x,(relabel scope X.env).names.lookup x=some .cell\/(relabel scope X.env).names.lookup x=some .free->∃c,((x0,C) :: cl).lookup x=some c
 len:Nc.length=nl+fr.length
 tail:∀i n,Nc[nl+i]?=some n->∃j,fr[i]?=some j/\X.N[j]?=some n/\X.env.kindOf n=some .cell/\cl.lookup n=X.env.cells.lookup n/\((relabel scope X.env).names.lookup n=some .cell\/(relabel scope X.env).names.lookup n=some .free)
abbrev eY (X:Cx)(scope:Scope)(cl:List (Str × Addr))(x0:Str)(Nc:List Str)(C:Addr)(s3:Shared)(H3:Hp)(fp:List Addr)(pins:List (Addr × Obj)):Cx:=
 { X with N:=Nc,s₀:=s3,H₀:=H3,env:=Cu scope cl x0 C X.env,outer:=X.stack,ex:=fp,fn:=λx=>x == x0,pn:=X.pn++pins,xe:=λ_ _=>False }
section
variable {X:Cx} {scope:Scope} {cl:List (Str × Addr)} {x0:Str} {Nc:List Str} {nl:Nat} {fr:List Nat} {pins:List (Addr × Obj)} {σ:St} {H3:Hp} {s3:Shared} {fp:List Addr} {h4:Heap} {tk:Nat}
theorem Ej (ck:Cp X scope cl x0 Nc nl fr)(I:Inv X pins σ H3 s3)(hf:∀b∈fp,jM X pins H3 b)(hfs:∀b∈fp,b < s3.heap.objs.size)(hns:h4.Ns s3.heap.objs.size λ_=>none)(hce:h4.IsCell (s3.heap.objs.size+1) none)(hk:∀b o,s3.heap.get? b=some o->h4.get? b=some o) :
  Inv (eY X scope cl x0 Nc s3.heap.objs.size s3 H3 fp pins) [] (σC nl fr σ) H3 { s3 with heap:=h4,toks:=tk }:=by
 have stk:∀b∈frs X.stack,b∈X.env.locals :: X.fs:=I.stkSub;have nfs:∀b,b≠X.env.locals->b∉X.fs->b∉frs X.stack:=λb h1 h2 z=>(mem_cons.mp (stk b z)).elim h1 h2;have ltc:∀x c,cl.lookup x=some c->c < s3.heap.objs.size:=λx c e=>by
  obtain⟨v,z⟩:=I.cell x c (ck.sub x c e);exact z.lt
 have lk:∀x c,((x0,s3.heap.objs.size+1) :: cl).lookup x=some c->(x=x0/\c=s3.heap.objs.size+1)\/cl.lookup x=some c:=λx c e=>by
  rw[lookup_cons] at e
  cases q:x == x0 with
  |true=>rw[q] at e;cases e;exact .inl ⟨eq_of_beq q,rfl⟩
  |false=>rw[q] at e;exact .inr e
 refine⟨⟨I.ok.mod,ck.kind,I.ok.glob,I.ok.blt,Nat.le_refl _,λx y c h1 h2=>?inj,λx hx=>ck.has _ x hx,λx c hz hl=>?cab,I.ok.hd,I.ok.frames,.inl rfl,λb hb=>?_,I.bs,Nat.le_trans I.ok.bsz I.sz,λb o e hb=>?_,λb hb=>?_,I.stack,I.stkFree⟩,
  rfl,I.bare,Un.kept hk,⟨_,hns,λi x v h1 h2 h3=>?_⟩,λx c e=>?_,I.hok.fresh (Nat.le_refl _),λx c e=>?frC,λp hp=>?_,I.hok.kept hk,?_⟩
 case inj=>
  rcases lk x c h1 with ⟨e1,e2⟩ | h1<;>rcases lk y c h2 with ⟨e3,e4⟩ | h2
  .rw[e1,e3]
  .have h:=ltc y c h2;rw[e2] at h;exact absurd h (Nat.not_lt.mpr (Nat.le_succ _))
  .have h:=ltc x c h1;rw[e4] at h;exact absurd h (Nat.not_lt.mpr (Nat.le_succ _))
  .exact I.ok.inj x y c (ck.sub x c h1) (ck.sub y c h2)
 case cab=>
  rcases lk x c hl with ⟨e1,e2⟩ | h1
  .rw[e2];exact Nat.le_succ _
  .have hz':(x == x0)=true:=hz;rw[eq_of_beq hz',ck.nin] at h1;cases h1
 case frC=>
  rcases lk x c e with ⟨e1,e2⟩ | h1
  .rw[e2];exact I.hok.fresh (Nat.le_succ _)
  .exact I.freeC x c (ck.sub x c h1)
 .obtain⟨f0,f1,f2,f3,f4,f5⟩:=hf b hb;exists Nat.ne_of_lt (hfs b hb),λx c e=>?_;rcases lk x c e with ⟨e1,e2⟩ | h1
  .rw[e2];exact Nat.ne_of_gt (Nat.lt_succ_of_lt (hfs b hb))
  .exact f4 x c (ck.sub x c h1)
 .obtain⟨f0,f1,f2,f3,f4,f5⟩:=hf b hb;rcases f3 with z | z
  .exact I.ok.noex b o e z
  .exact absurd (Nat.lt_of_lt_of_le (Heap.lt_size e) (Nat.le_trans I.ok.bsz z)) (Nat.lt_irrefl _)
 .obtain⟨f0,f1,f2,f3,f4,f5⟩:=hf b hb;exact nfs b f1 f2
 .-- a name's value
  unfold σC at h2
  by_cases hi:i < nl
  .rw[getElem?_append_left (by simpa using hi),getElem?_replicate] at h2;split at h2<;>cases h2
  .have hi':nl<=i:=by lia
   rw[getElem?_append_right (by simpa using hi'),length_replicate,getElem?_map] at h2;obtain⟨k,rfl⟩:∃k,i=nl+k:=⟨i - nl,()⟩
   obtain⟨j,e1,e2,e3,e4,e5⟩:=ck.tail k x h1;rw[Nat.add_sub_cancel_left,e1] at h2;have h2':(σ[j]?).join=some v:=by simpa using h2
   have h2'':σ[j]?=some (some v):=by
    cases q:σ[j]? with
    |none=>rw[q] at h2';cases h2'
    |some z=>rw[q] at h2';exact congrArg some h2'
   obtain⟨m,hn,hl⟩:=I.loc;obtain⟨u,r,l⟩:=hl j x v e2 h2'' (.inr (.inl e3));exists u,r,?_;rcases l with ⟨k1,_⟩ | ⟨k1,c,ec,z⟩
   .rw[e3] at k1;cases k1
   .obtain⟨o,ho,hd⟩:=z;refine .inr ⟨e5,c,?_,o,hk _ _ ho,hd⟩;show ((x0,s3.heap.objs.size+1) :: cl).lookup x=some c;rw[lookup_cons];have ec':cl.lookup x=some c:=by rw[e4];exact ec
    cases q:x == x0 with
    |true=>rw[eq_of_beq q,ck.nin] at ec';cases ec'
    |false=>exact ec'
 .rcases lk x c e with ⟨e1,e2⟩ | h1
  .rw[e2];exists none,hce
  .obtain⟨v,o,ho,hd⟩:=I.cell x c (ck.sub x c h1);exists v,o,hk _ _ ho,hd
 .have hp':p∈X.pn++pins:=by simpa using hp
  obtain⟨e,n,ne,nf,d⟩:=I.pin p hp';exists hk _ _ e,n,Nat.ne_of_lt (Heap.lt_size e),nfs _ ne nf,d
 .unfold σC;show _=Nc.length;rw[List.length_append,length_replicate,length_map,ck.len]
theorem Nm (I:Inv X pins σ H3 s3)(hf:∀b∈fp,jM X pins H3 b)(J:Inv (eY X scope cl x0 Nc s3.heap.objs.size s3 H3 fp pins) pins' σ' H' s'):Inv X pins σ H' s'/\jM X pins H' s3.heap.objs.size:=by
 exists I.call' (ch:=fp) J.os J.base J.hok J.bare λb hb=>?_,I.fpOk (Nat.le_refl _) J.free;obtain⟨f0,f1,f2,f3,f4,f5⟩:=hf b hb;exists f3,f1,f4,f5
end
section
variable {X:Cx} {scope:Scope} {cl:List (Str × Addr)} {x0:Str} {Nc:List Str} {nl:Nat} {fr:List Nat} {elt tg iter:Expr} {ifs:List Expr} {pos:Pos} {wi:TI} {g:TG} {tt:TT} {te:TE}
theorem Na (hc:X.calm=true)(ck:Cp X scope cl x0 Nc nl fr)(hi:PI X tg iter wi)(hg:∀C s3 H3 fp pins,PG (eY X scope cl x0 Nc C s3 H3 fp pins) tg g)(ht:∀C s3 H3 fp pins,PIf (eY X scope cl x0 Nc C s3 H3 fp pins) ifs tt)(he:∀C s3 H3 fp pins,PE (eY X scope cl x0 Nc C s3 H3 fp pins) elt te)(I:Inv X pins σ H s)(h:Df wi nl fr g tt te σ H Q){RR:Value->Addr->Result->Shared->Prop}(fin:∀D C s',(∃H',(∃m,s'.heap.Ns C m)/\Inv X pins σ H' s'/\jM X pins H' C/\Q (.ref D) H')->RR (.ref D) C (.ok .next) s'):
  wpAny (model X.prog X.w) X.A (eval iter X.env) (λx s₁=>wpAny (model X.prog X.w) X.A (pyIter x) (λit s₂=>wpAny (model X.prog X.w) X.A (newList []) (λacc s₃=>
   wpAny (model X.prog X.w) X.A (newFunctionEnv scope X.env.globals cl [] X.env.qual none .none (some X.env)) (λcenv s₄=>
    codeAny (model X.prog X.w) X.A (.compStart (.ListComp elt [⟨tg,iter,ifs,0⟩] scope pos) 0 it acc { cenv with scope:=relabel scope X.env }) (RR acc cenv.locals) s₄) X.xe s₃) X.xe s₂) X.xe s₁) X.xe s:=by
 refine thn (hi pins s σ H _ I h) λv s1 h1=>thn h1 λitv s2 h2=>?_;obtain⟨it,fp,tn,J,H2,e,I2,T,st2,f2,hD⟩:=h2;subst e;have hn2:H2 s2.heap.objs.size=none:=I2.hok.fresh (Nat.le_refl _);obtain⟨W,⟨m0,w0⟩,turn⟩:=hD s2.heap.objs.size hn2;refine wpAny_newObj_type (Fi ?_);dsimp only;rw[ck.one,ck.psh];have I3:Inv X pins σ (upd H2 s2.heap.objs.size (.lst [])) { s2 with heap:=s2.heap.push { cls:=.type "list",dict:=none,data:=.seq ([]:List Value).toArray } }:=
  I2.laid (t':=s2.toks) (λb u e=>Heap.get?_push_of_some _ e) (Nat.le_refl _) ⟨Nat.zero_le _,[],0,.nil,Heap.get?_push_size _ rfl⟩
 have hfs:∀b∈fp,b < s2.heap.objs.size:=λb hb=>by
  obtain⟨o,e,_⟩:=T.obj 0 _ st2 b hb;exact Heap.lt_size e
 have f3:∀b∈fp,jM X pins (upd H2 s2.heap.objs.size (.lst [])) b:=λb hb=>⟨by rw[aU (Nat.ne_of_lt (hfs b hb))];exact(f2 b hb).1,(f2 b hb).2⟩
 generalize hH3:upd H2 s2.heap.objs.size (.lst [])=H3 at *
 generalize hs3:({ s2 with heap:=s2.heap.push { cls:=.type "list",dict:=none,data:=.seq ([]:List Value).toArray } }:Shared)=s3 at *
 have z3:s3.heap=s2.heap.push { cls:=.type "list",dict:=none,data:=.seq ([]:List Value).toArray }:=by rw[<- hs3]
 have hsz3:s3.heap.objs.size=s2.heap.objs.size+1:=by rw[z3,Heap.size_push]
 rw[<- z3];generalize hh4:(s3.heap.push { cls:=.type "dict",data:=.dict #[] }).push { cls:=.type "cell",data:=.cell none }=h4;have hk4:∀b o,s3.heap.get? b=some o->h4.get? b=some o:=λb o e=>by rw[<- hh4];exact Heap.get?_push_of_some _ (Heap.get?_push_of_some _ e)
 have hce4:h4.IsCell (s3.heap.objs.size+1) none:=by
  rw[<- hh4];exists { cls:=.type "cell",data:=.cell none },?_,rfl;have:=Heap.get?_push_size (s3.heap.push { cls:=.type "dict",data:=.dict #[] }) (o:={ cls:=.type "cell",data:=.cell none }) rfl;rw[Heap.size_push] at this;exact this
 have hfs3:∀b∈fp,b < s3.heap.objs.size:=λb hb=>Nat.lt_of_lt_of_le (hfs b hb) (by rw[hsz3];exact Nat.le_succ _);have hns':h4.Ns s3.heap.objs.size λ_=>none:=by
  rw[<- hh4];exact(Heap.Ns.new s3.heap (.type "dict")).keeps λb o e=>Heap.get?_push_of_some _ e
 have K0:=λtk=>Ej (tk:=tk) ck I3 f3 hfs3 hns' hce4 hk4;have stat:∀{H':Hp},(∀b∈fp,H' b=none)->∀b∈fp,jM (eY X scope cl x0 Nc s3.heap.objs.size s3 H3 fp pins) [] H' b:=λ{H'} hn b hb=>by
  obtain⟨f0,g1,g2,g3,g4,g5⟩:=f3 b hb;exists hn b hb,Nat.ne_of_lt (hfs3 b hb),λz=>?_,.inl hb,λx c e=>?cl,λp hp=>g5 p (by simpa using hp)
  case cl=>
   have e':((x0,s3.heap.objs.size+1) :: cl).lookup x=some c:=e;rw[lookup_cons] at e'
   cases q:x == x0 with
   |true=>rw[q] at e';cases e';exact Nat.ne_of_gt (Nat.lt_succ_of_lt (hfs3 b hb))
   |false=>rw[q] at e';exact g4 x c (ck.sub x c e')
  exact(mem_cons.mp (I3.stkSub b z)).elim g1 g2
 have st4:tn 0 h4:=T.keep 0 _ _ st2 λb hb o e=>hk4 b o (by rw[z3];exact Heap.get?_push_of_some _ e);have loop:∀tk,codeAny (model X.prog X.w) X.A (.compLoop (.ListComp elt [⟨tg,iter,ifs,0⟩] scope pos) 0 (.ref it) (.ref s2.heap.objs.size) (Cu scope cl x0 s3.heap.objs.size X.env)) (RR (.ref s2.heap.objs.size) s3.heap.objs.size) { s3 with heap:=h4,toks:=tk }:=by
  intro tk;refine yI (λn s'=>∃i ys H',Inv (eY X scope cl x0 Nc s3.heap.objs.size s3 H3 fp pins) [] (σC nl fr σ) H' s'/\tn i s'.heap/\(∀b∈fp,H' b=none)/\W i n ys H') ?_ m0 ⟨0,[],H3,K0 tk,st4,λb hb=>(f3 b hb).1,w0⟩;rintro n s5 ⟨i,ys,H5,I5,st5,fr5,w5⟩;obtain⟨hl5,q5⟩:=turn i n ys H5 w5;rcases q5 with ⟨stop,qn⟩ | ⟨go,step⟩
  .refine wpAny_mono (T.done (eY X scope cl x0 Nc s3.heap.objs.size s3 H3 fp pins) rfl rfl rfl hc i [] s5 (σC nl fr σ) H5 (λ_ _=>False) I5 (stat fr5) st5 stop) (λr s6 h6=>?_) λ_ _ z=>z;obtain⟨hr,I6⟩:=h6;subst hr;obtain⟨z1,z2⟩:=Nm I3 f3 I6;refine fin _ _ _ ⟨H5,?_,z1,z2,qn⟩;obtain⟨m,hm,_⟩:=I6.loc;exists m,hm
  .refine wpAny_mono (T.item (eY X scope cl x0 Nc s3.heap.objs.size s3 H3 fp pins) rfl rfl rfl hc i [] s5 (σC nl fr σ) H5 (λ_ _=>False) I5 (stat fr5) st5 go) (λr s6 h6=>?_) λ_ _ z=>z;obtain⟨u,hr,h6⟩:=h6;subst hr;refine wpAny_mono h6 (λ_ s7 h7=>?_) λ_ _ z=>z;obtain⟨x,H7,I7,r7,y7,st7,fr7⟩:=h7;have I7':=I7.pinned (stat fr7) (T.obj _ _ st7);refine wpAny_mono (hg s3.heap.objs.size s3 H3 fp pins _ s7 _ H7 x u _ I7' r7 (step x H7 y7)) (λ_ s8 h8=>?_) λ_ _ z=>z;obtain⟨σ8,H8,I8,l8,k8,q8⟩:=h8;refine wpAny_mono (ht s3.heap.objs.size s3 H3 fp pins _ s8 σ8 H8 _ I8 q8) (λb s9 h9=>?_) λ_ _ z=>z;obtain⟨H9,I9,q9⟩:=h9;have again:∀{ys':List V} {H':Hp} {s':Shared} {m':Nat},Inv (eY X scope cl x0 Nc s3.heap.objs.size s3 H3 fp pins) ([]++rL fp s7.heap) σ8 H' s'->m' < n->W (i+1) m' ys' H'->
     ∃m,m < n/\∃i ys H',Inv (eY X scope cl x0 Nc s3.heap.objs.size s3 H3 fp pins) [] (σC nl fr σ) H' s'/\tn i s'.heap/\(∀b∈fp,H' b=none)/\W i m ys H':=λ{ys' H' s' m'} I' hm w'=>by
    exists m',hm,i+1,ys',H',I'.unpinned.weak l8.symm k8,T.keep _ _ _ st7 λb hb o e=>(I'.pin (b,o) (mem_append_right _ (mem_append_right _ (iF hb e)))).1,λb hb=>?_,w';obtain⟨o,e,d⟩:=T.obj _ _ st7 b hb;exact(I'.pin (b,o) (mem_append_right _ (mem_append_right _ (iF hb e)))).2.1
   cases b with
   |false=>
    rw[if_neg Bool.false_ne_true] at q9 ⊢;obtain⟨m',hm,w9⟩:=q9;exact again I9 hm w9
   |true=>
    rw[if_pos rfl] at q9 ⊢;refine wpAny_mono (he s3.heap.objs.size s3 H3 fp pins _ s9 σ8 H9 _ I9 q9) (λyv s10 h10=>?_) λ_ _ z=>z;obtain⟨y,H10,I10,r10,hl10,hz10,m',hm,w10⟩:=h10;refine wpAny_mono (gB (X:=eY X scope cl x0 Nc s3.heap.objs.size s3 H3 fp pins) _ s10 σ8 H10 (.ref s2.heap.objs.size) [y] _ [yv] (λv H'=>H'=upd H10 s2.heap.objs.size (.lst (ys++[y]))) I10 rfl (.cons r10 .nil) ⟨_,ys,y,rfl,rfl,hl10,hz10,rfl⟩) (λ_ s11 h11=>?_) λ_ _ z=>z;obtain⟨_,H11,I11,_,e11⟩:=h11;subst e11;exact again I11 hm w10
 have L:=loop s2.toks;rw[show s3.gens=s2.gens by rw[<- hs3],show s3.drawn=s2.drawn by rw[<- hs3],show s3.os=s2.os by rw[<- hs3]] at L;exact codeAny_compStart_list L (T.self _ 0 _ _ _ st4 L)
theorem Sr (hc:X.calm=true)(ck:Cp X scope cl x0 Nc nl fr)(hi:PI X tg iter wi)(hg:∀C s3 H3 fp pins,PG (eY X scope cl x0 Nc C s3 H3 fp pins) tg g)(ht:∀C s3 H3 fp pins,PIf (eY X scope cl x0 Nc C s3 H3 fp pins) ifs tt)(he:∀C s3 H3 fp pins,PE (eY X scope cl x0 Nc C s3 H3 fp pins) elt te)(hs:∀x,foldedSetIterable iter X.env x=pure x:=by intro _;rfl):PE X (.ListComp elt [⟨tg,iter,ifs,0⟩] scope pos) (Df wi nl fr g tt te):=by
 intro pins s σ H Q I h;rw[eval_ListComp];refine wpAny_comprehension_free (use:=none) rfl hs ck.clos ck.kind ck.names (Na (RR:=λacc C=>compPost (model X.prog X.w) X.A X.xe none (EP X pins σ Q) acc C) hc ck hi hg ht he I h λD C s' hh=>?_);obtain⟨H',⟨m,hm⟩,hI,hF,q⟩:=hh;exists m,hm,λh' hs'=>⟨.ref D,H',hI.off hF hs',rfl,q⟩
end
def Ite (K : Frag)(a : Addr) : It :=
  ⟨λi H => ∃ xs x, SqL K H a xs /\ xs[i]? = some x,
   λi H v H' => ∃ T x, v = .ref T /\ H T = none /\ H' = upd H T (.tup [.int (i : Int), x]) /\ ∀ xs, SqL K H a xs -> xs[i]? = some x,
   λi H => ∃ xs, SqL K H a xs /\ xs.length <= i⟩
def qc1 (e it l:Addr)(i:Nat)(h:Heap):Prop:=e≠it/\(∃old,IsEnum h e it (i:Int) old)/\h.IsListIter it l i
theorem Mh {K:Frag}(e it l:Addr):
  Ms P w K (.Tuple elts kk tpos) (Ite K l) [e,it] e (qc1 e it l) where
 mem:=by simp
 obj:=λi h st b hb=>by
  obtain⟨ne,⟨old,he⟩,⟨o1,e1,c1,d1⟩⟩:=st;simp only[mem_cons,not_mem_nil,or_false] at hb;rcases hb with rfl | rfl
  .exists _,he,λv q=>by cases q
  .exists o1,e1,λv q=>by rw[d1] at q;cases q
 keep:=λi h h' st k=>by
  obtain⟨ne,⟨old,he⟩,⟨o1,e1,c1,d1⟩⟩:=st;exists ne,⟨old,k _ ⋯ _ he⟩,⟨o1,k _ ⋯ _ e1,c1,d1⟩
 item:=by
  intro X hP hw hK hc i pins s σ H E I hf st hg;subst hP hw hK;obtain⟨ne,⟨old,he⟩,t1⟩:=st;obtain⟨xs,x,hx,ex⟩:=hg;obtain⟨its1,rv1,p1,z1⟩:=I.list hx;obtain⟨u1,hu1,ru1⟩:=rv1.get ex;refine wpAny_pyNext_enum_item he t1 p1.isList (x:=u1) (by simpa using hu1) ne λh' g1 g2 g3 g4 kk'=>?_;have hn:H s.heap.objs.size=none:=I.hok.fresh (Nat.le_refl _);have lt:∀b∈[e,it],b < s.heap.objs.size:=λb hb=>by
   simp only[mem_cons,not_mem_nil,or_false] at hb;obtain⟨o1,e1,_⟩:=t1;rcases hb with rfl | rfl
   .exact Heap.lt_size he
   .exact Heap.lt_size e1
  have I1:Inv X pins σ (upd H s.heap.objs.size (.tup [.int (i:Int),x])) { s with heap:=s.heap.push { cls:=.type "tuple",data:=.seq #[.int i s.toks,u1] },toks:=s.toks+1 }:=
   I.laid (t':=s.toks+1) (λb o e=>Heap.get?_push_of_some _ e) (Nat.le_refl _) (show cY X.prog X.w _ _ _ (.tup [.int (i:Int),x]) from ⟨zl9 2,[.int i s.toks,u1],.cons ⟨_,rfl⟩ (.cons ru1 .nil),IsTup.new _ _⟩)
  have hf1:∀b∈[e,it],jM X pins (upd H s.heap.objs.size (.tup [.int (i:Int),x])) b:=λb hb=>⟨by rw[aU (Nat.ne_of_lt (lt b hb))];exact(hf b hb).1,(hf b hb).2⟩
  have k1:∀b o,b∉[e,it]->(s.heap.push { cls:=.type "tuple",data:=.seq #[.int i s.toks,u1] }).get? b=some o->h'.get? b=some o:=λb o nb e=>by
   simp only[mem_cons,not_mem_nil,or_false,not_or] at nb
   by_cases hb:b=s.heap.objs.size
   .subst hb;rw[Heap.get?_push_size _ rfl] at e
    cases e
    exact g3
   .have e0:s.heap.get? b=some o:=by rw[Heap.get?_push_ne _ _ _ hb] at e;exact e
    exact kk' b o nb.1 nb.2 e0
  have I2:Inv X pins σ (upd H s.heap.objs.size (.tup [.int (i:Int),x])) { s with heap:=h',toks:=s.toks+1 }:=Inv.turnedL (s:={ s with heap:=s.heap.push { cls:=.type "tuple",data:=.seq #[.int i s.toks,u1] },toks:=s.toks+1 }) (t':=s.toks+1) I1 k1 hf1;exists _,rfl,wpAny_letOwnedTupleGo_enum (s:={ s with heap:=h',toks:=s.toks+1 }) g1 λh2 q1 q2=>?_;have kz:∀b o,b≠e->h'.get? b=some o->h2.get? b=some o:=λb o nb e=>(q2.2 b nb).trans e;have I3:Inv X pins σ (upd H s.heap.objs.size (.tup [.int (i:Int),x])) { s with heap:=h2,toks:=s.toks+1 }:=Inv.turnedL (s:={ s with heap:=h',toks:=s.toks+1 }) (t':=s.toks+1) (fp:=[e]) I2 (λb o nb e=>kz b o (by simpa using nb) e) λb hb=>hf1 b (by simp at hb;simp[hb]);obtain⟨o3,e3,c3,d3⟩:=g2;exists .ref s.heap.objs.size,_,I3,rfl,⟨_,x,rfl,hn,rfl,λxs' h1=>?_⟩,⟨ne,⟨_,q1⟩,⟨o3,kz _ _ ne.symm e3,c3,d3⟩⟩,λb hb=>(hf1 b hb).1;rw[I.list_inj h1 hx];exact ex
 done:=by
  intro X hP hw hK hc i pins s σ H E I hf st hg;subst hP hw hK;obtain⟨ne,⟨old,he⟩,t1⟩:=st;obtain⟨xs,hx,hor⟩:=hg;obtain⟨its1,rv1,p1,z1⟩:=I.list hx;have l1':=rv1.length;refine wpAny_pyNext_enum_end (I.ok.hd hc) he t1 p1.isList (by simp;lia) λh' kk'=>⟨rfl,?_⟩
  refine I.turnedL (t':=s.toks) (λb o nb e=>?_) hf;simp only[mem_cons,not_mem_nil,or_false,not_or] at nb;exact kk' b o nb.2 e
 self:=λA i s Q E st h=>by
  obtain⟨ne,⟨old,he⟩,t1⟩:=st;exact wpAny_pyIter_enum he h
section
variable {X:Cx}
def qn7 (K:Frag)(ta:TA):TI:=λσ H R=>ta σ H λvs H1=>∃a,vs=[.ref a]/\(∃xs,SqL K H1 a xs)/\R (Ite K a) H1
theorem zQ (hg:Gl X "enumerate")(hm:X.mg "enumerate"=none)(hv:bootBuiltins "enumerate"=some (.type "enumerate"))(ha:PA X [e1] ta)(hs:starEach [e1] X.env=(false,eval e1 X.env) :: starEach [] X.env:=by rfl)(hpl:(backTo pos (starEach [] X.env)).any (·.1)=false:=by rfl):PI X (.Tuple elts kk tpos) (.Call (.Name "enumerate" p) [e1] [] pos) (qn7 X.K ta):=by
 intro pins s σ H R I h;refine Call_ (iG I hg hm hv (PyProof.Rows.callWith_type1 (thn (ha pos pins s σ H _ I h) λus s1 ⟨vs,H1,I1,r1,q1⟩=>?_) hs hpl));obtain⟨a,rfl,⟨xs,hx⟩,q⟩:=q1;obtain⟨u,rfl,ra⟩:=lS r1
 cases (show u=Value.ref a from ra)
 obtain⟨its1,rv1,p1,z1⟩:=I1.list hx;have la:a < s1.heap.objs.size:=by obtain⟨o,e,_⟩:=p1.isList;exact Heap.lt_size e
 refine call_enumerate_list p1.isList λh' g1 g2 g3 kk'=>?_;refine wpAny_pyIter_enum g1 ?_;exists s1.heap.objs.size+1,[s1.heap.objs.size+1,s1.heap.objs.size],_,Ite X.K a,H1,rfl,I1.kept (t':=s1.toks) kk',Mh _ _ a,⟨?_,⟨_,g1⟩,g2⟩,λc hc=>?_,q
 .exact Nat.succ_ne_self _
 .have hle:s1.heap.objs.size<=c:=by
   simp only[mem_cons,not_mem_nil,or_false] at hc;rcases hc with rfl | rfl<;>first | exact Nat.le_add_right _ _ | exact Nat.le_refl _
  exact I1.fpOk hle (I1.hok.fresh hle)
theorem Eu {K:Frag}{g:TG}{tb:TS}{D:jN}(Pv:Nat->St->Hp->Prop)(h0:Pv 0 σ H)(hl:∀i σ H,i<=xs.length->Pv i σ H->SqL K H a xs)(hs:∀i x σ H T,xs[i]?=some x->Pv i σ H->H T=none->g (.ref T) σ (upd H T (.tup [.int (i:Int),x])) λσ2 H2=>tb { D with nx:=Pv (i+1),ct:=Pv (i+1),bk:=D.nx } σ2 H2)(hd:∀σ H,Pv xs.length σ H->D.nx σ H):
  ∃W:Nat->Nat->St->Hp->Prop,(∃m,W 0 m σ H)/\∀i m σ H,W i m σ H->
   ((Ite K a).stop i H/\D.nx σ H)\/((Ite K a).go i H/\∃N:St->Hp->Prop,(∀σ' H',N σ' H'->∃m',m' < m/\W (i+1) m' σ' H')/\∀x H',(Ite K a).yld i H x H'->g x σ H' λσ2 H2=>tb { D with nx:=N,ct:=N,bk:=D.nx } σ2 H2):=by
 exists λi m σ H=>m=xs.length - i/\i<=xs.length/\Pv i σ H,⟨_,rfl,Nat.zero_le _,h0⟩,?_;rintro i m σ H ⟨rfl,hi,p⟩;have qx:=hl i σ H hi p
 by_cases hlt:i < xs.length
 .refine .inr ⟨⟨xs,xs[i],qx,by simp[hlt]⟩,Pv (i+1),λσ' H' p'=>⟨xs.length - (i+1),(),rfl,hlt,p'⟩,λv H' z=>?_⟩;obtain⟨T,x,rfl,hT,rfl,hh⟩:=z;exact hs i x σ H T (hh xs qx) p hT
 .have e:i=xs.length:=by lia
  subst e;exact .inl ⟨⟨xs,qx,Nat.le_refl _⟩,hd σ H p⟩
theorem Lx {K:Frag}(Pv:Nat->List V->Hp->Prop)(h0:Pv 0 [] (upd H1 D (.lst [])))(hl:∀i zs H,Pv i zs H->H D=some (.lst zs))(hx:∀i zs H,i<=xs.length->Pv i zs H->SqL K H a xs)(hs:∀i zs x H T,xs[i]?=some x->Pv i zs H->H T=none->∀(C:Nat->List V->Hp->Prop),(∀zs H,Pv (i+1) zs H->C (i+1) zs H)->Js nl fr g tt te σ D C i zs (.ref T) (upd H T (.tup [.int (i:Int),x])))(hd:∀zs H,Pv xs.length zs H->Q (.ref D) H):
  Fe (Ite K a) nl fr g tt te σ D H1 Q:=by
 exists λi m zs H=>m=xs.length - i/\i<=xs.length/\Pv i zs H,⟨_,rfl,Nat.zero_le _,h0⟩,?_;rintro i m zs H ⟨rfl,hi,p⟩;exists hl i zs H p,?_;have qx:=hx i zs H hi p
 by_cases hlt:i < xs.length
 .refine .inr ⟨⟨xs,xs[i],qx,by simp[hlt]⟩,λv H' z=>?_⟩;obtain⟨T,x,rfl,hT,rfl,hh⟩:=z;exact hs i zs x H T (hh xs qx) p hT (λj zs Hz=>∃m',m' < xs.length - i/\m'=xs.length - j/\j<=xs.length/\Pv j zs Hz) λzs Hz z=>⟨xs.length - (i+1),(),rfl,hlt,z⟩
 .have e:i=xs.length:=by lia
  subst e;exact .inl ⟨⟨xs,qx,Nat.le_refl _⟩,hd zs H p⟩
end
end L2
namespace Shp
open PySem L2
theorem gF (h:X.K=K):IxR X (Zr K):=by subst h;exact bS
theorem oF (h:X.K=K):IxR X (Qs K):=by subst h;exact aZ
theorem dM {ec:List (Str × Addr)}:∀(x:Str) (c:Addr),([]:List (Str × Addr)).lookup x=some c->ec.lookup x=some c:=λ_ _ h=>by cases h
theorem bQ {ec cl:List (Str × Addr)}{a:Str}{d:Addr}(h:ec.lookup a=some d)(r:∀x c,cl.lookup x=some c->ec.lookup x=some c):∀x c,((a,d) :: cl).lookup x=some c->ec.lookup x=some c:=λx c e=>by
 rw[lookup_cons] at e
 cases q:x == a with
 |true=>rw[q] at e;rw[eq_of_beq q,h];exact e
 |false=>rw[q] at e;exact r x c e
theorem Ab {t b:Int}(h:0 < b):dvr t b=gc t b:=by unfold dvr;rw[if_neg ()]
def wh (row:List Mq.Q2):List Int × Int:=(iw row,cQ row)
end Shp
namespace Mq
def skip (j k:Nat):Nat:=if k < j then k else k+1
def sgn (n:Nat):Rat:=if n % 2=0 then 1 else -1
theorem vD (n:Nat):sgn (n+1)=- sgn n:=by
 unfold sgn;rcases Nat.mod_two_eq_zero_or_one n with h | h
 .rw[if_neg (),if_pos h]
 .rw[if_pos (),if_neg ()];grind
abbrev Mat:=Nat->Nat->Rat
def det:Nat->Mat->Rat
 |0,_=>1
 |n+1,M=>rs (n+1) λj=>sgn (n+j)*M n j*det n λi k=>M i (skip j k)
theorem fY (n:Nat)(M:Mat):det (n+1) M=rs (n+1) λj=>sgn (n+j)*M n j*det n λi k=>M i (skip j k):=rfl
theorem Yf (hk:k < n):skip j k < n+1:=by unfold skip;split<;>lia
theorem cP:∀{n:Nat} {M N:Mat},(∀i j,i < n->j < n->M i j=N i j)->det n M=det n N
 |0,_,_,_=>rfl
 |n+1,M,N,h=>by
  rw[fY,fY];exact aK λj hj=>by rw[h n j () hj,cP (N:=λi k=>N i (skip j k)) λi k hi hk=>h i _ () (Yf hk)]
theorem yZ (h:j<=k):skip (k+1) (skip j l)=skip j (skip k l):=by
 unfold skip
 by_cases h1:l < j
 .rw[if_pos h1,if_pos (show l < k by lia),if_pos (show l < k+1 by lia),if_pos h1]
 .rw[if_neg h1]
  by_cases h2:l < k
  .rw[if_pos h2,if_pos (show l+1 < k+1 by lia),if_neg h1]
  .rw[if_neg h2,if_neg (show ¬l+1 < k+1 by lia),if_neg (show ¬l+1 < j by lia)]
theorem Vb (n m:Nat)(F:Nat->Nat->Rat):(rs n λi=>rs m λj=>F i j)=rs m λj=>rs n λi=>F i j:=by
 induction n with
 |zero=>simp only[rs];rw[dQ]
 |succ n ih=>simp only[rs];rw[ih,<- eH]
theorem wK (n:Nat)(F:Nat->Rat):rs (n+1) F=F 0+rs n λi=>F (i+1):=by
 induction n with
 |zero=>simp only[rs];grind
 |succ n ih=>rw[show rs (n+1+1) F=rs (n+1) F+F (n+1) from rfl,ih];simp only[rs];grind
theorem yC (N:Nat)(X:Nat->Nat->Rat):(rs (N+1) λj=>rs N λk=>X j k)=(rs N λk=>rs N λj=>if k<=j then X (j+1) k else 0)+rs N λj=>rs N λk=>if j<=k then X j k else 0:=by
 have h1:(rs (N+1) λj=>rs N λk=>X j k)=(rs (N+1) λj=>rs N λk=>if k < j then X j k else 0)+rs (N+1) λj=>rs N λk=>if k < j then 0 else X j k:=by
  rw[<- eH];refine aK λj _=>?_;rw[<- eH];exact aK λk _=>by split<;>grind
 have h2:(rs (N+1) λj=>rs N λk=>if k < j then X j k else 0)=rs N λk=>rs N λj=>if k<=j then X (j+1) k else 0:=by
  rw[Vb];refine aK λk _=>?_;rw[wK,if_neg ()];have:(rs N λi=>if k < i+1 then X (i+1) k else 0)=rs N λj=>if k<=j then X (j+1) k else 0:=aK λi _=>by
   by_cases c:k<=i
   .rw[if_pos (),if_pos c]
   .rw[if_neg (),if_neg c]
  rw[this];grind
 have h3:(rs (N+1) λj=>rs N λk=>if k < j then 0 else X j k)=rs N λj=>rs N λk=>if j<=k then X j k else 0:=by
  show (rs N λj=>rs N λk=>if k < j then 0 else X j k)+(rs N λk=>if k < N then 0 else X N k)=_;have:(rs N λk=>if k < N then 0 else X N k)=rs N λ_=>0:=aK λk hk=>by rw[if_pos hk]
  rw[this,dQ];have e2:(rs N λj=>rs N λk=>if k < j then 0 else X j k)=rs N λj=>rs N λk=>if j<=k then X j k else 0:=aK λj _=>aK λk _=>by
   by_cases c:j<=k
   .rw[if_neg (),if_pos c]
   .rw[if_pos (),if_neg c]
  rw[e2];grind
 rw[h1,h2,h3]
theorem Gr (N:Nat)(X Y:Nat->Nat->Rat)(h:∀j k,j<=k->Y (k+1) j=- X j k)(h':∀j k,j<=k->X (k+1) j=- Y j k):(rs (N+1) λj=>rs N λk=>Y j k)=- rs (N+1) λj=>rs N λk=>X j k:=by
 rw[yC,yC];have e1:(rs N λk=>rs N λj=>if k<=j then Y (j+1) k else 0)=- rs N λj=>rs N λk=>if j<=k then X j k else 0:=by
  rw[<- rP];refine aK λk _=>?_;rw[<- rP];exact aK λj _=>by
   by_cases c:k<=j
   .rw[if_pos c,if_pos c,h k j c]
   .rw[if_neg c,if_neg c];grind
 have e2:(rs N λk=>rs N λj=>if k<=j then X (j+1) k else 0)=- rs N λj=>rs N λk=>if j<=k then Y j k else 0:=by
  rw[<- rP];refine aK λk _=>?_;rw[<- rP];exact aK λj _=>by
   by_cases c:k<=j
   .rw[if_pos c,if_pos c,h' k j c]
   .rw[if_neg c,if_neg c];grind
 rw[e1,e2];grind
def cJ (a:Nat)(M:Mat):Mat:=λi=>if i=a then M (a+1) else if i=a+1 then M a else M i
theorem Jz (n:Nat)(M:Mat):det (n+2) M=rs (n+2) λj=>rs (n+1) λk=>(sgn (n+1+j)*M (n+1) j)*(sgn (n+k)*M n (skip j k)*det n λi l=>M i (skip j (skip k l))):=by
 rw[fY];exact aK λj _=>by rw[fY,<- eQ]
theorem qO (a b:Nat):sgn (a+1+b)=- sgn (a+b):=by rw[show a+1+b=a+b+1 by lia,vD]
theorem yY (n:Nat)(M:Mat):det (n+2) (cJ n M)=- det (n+2) M:=by
 rw[Jz,Jz];refine Gr (n+1) _ _ (λj k hjk=>?_) (λj k hjk=>?_)
 .show (sgn (n+1+(k+1))*cJ n M (n+1) (k+1))*(sgn (n+j)*cJ n M n (skip (k+1) j)*det n λi l=>cJ n M i (skip (k+1) (skip j l)))=- ((sgn (n+1+j)*M (n+1) j)*(sgn (n+k)*M n (skip j k)*det n λi l=>M i (skip j (skip k l))));have a1:cJ n M (n+1)=M n:=by unfold cJ;rw[if_neg (),if_pos rfl]
  have a2:cJ n M n=M (n+1):=by unfold cJ;rw[if_pos rfl]
  have a3:(det n λi l=>cJ n M i (skip (k+1) (skip j l)))=det n λi l=>M i (skip j (skip k l)):=cP λi l hi _=>by
   show cJ n M i (skip (k+1) (skip j l))=M i (skip j (skip k l));rw[yZ hjk];unfold cJ;rw[if_neg (),if_neg ()]
  have a4:skip (k+1) j=j:=by unfold skip;rw[if_pos ()]
  have a5:skip j k=k+1:=by unfold skip;rw[if_neg ()]
  rw[a1,a2,a3,a4,a5,qO,qO,show n+(k+1)=n+k+1 by lia,vD];generalize (det n λi l=>M i (skip j (skip k l)))=dd;generalize sgn (n+k)=s1;generalize sgn (n+j)=s2;grind
 .show (sgn (n+1+(k+1))*M (n+1) (k+1))*(sgn (n+j)*M n (skip (k+1) j)*det n λi l=>M i (skip (k+1) (skip j l)))=- ((sgn (n+1+j)*cJ n M (n+1) j)*(sgn (n+k)*cJ n M n (skip j k)*det n λi l=>cJ n M i (skip j (skip k l))));have a1:cJ n M (n+1)=M n:=by unfold cJ;rw[if_neg (),if_pos rfl]
  have a2:cJ n M n=M (n+1):=by unfold cJ;rw[if_pos rfl]
  have a3:(det n λi l=>M i (skip (k+1) (skip j l)))=det n λi l=>cJ n M i (skip j (skip k l)):=cP λi l hi _=>by
   show M i (skip (k+1) (skip j l))=cJ n M i (skip j (skip k l));rw[yZ hjk];unfold cJ;rw[if_neg (),if_neg ()]
  have a4:skip (k+1) j=j:=by unfold skip;rw[if_pos ()]
  have a5:skip j k=k+1:=by unfold skip;rw[if_neg ()]
  rw[a1,a2,a3,a4,a5,qO,qO,show n+(k+1)=n+k+1 by lia,vD];generalize (det n λi l=>cJ n M i (skip j (skip k l)))=dd;generalize sgn (n+k)=s1;generalize sgn (n+j)=s2;grind
theorem mS:∀(n a:Nat) (M:Mat),a+1 < n->det n (cJ a M)=- det n M
 |0,_,_,h=>absurd h ()
 |n+1,a,M,h=>by
  by_cases e:a+1=n
  .subst e;exact yY a M
  .rw[fY,fY,<- rP];refine aK λj hj=>?_;have e1:cJ a M n j=M n j:=by unfold cJ;rw[if_neg (),if_neg ()]
   have e2:(det n λi k=>cJ a M i (skip j k))=- det n λi k=>M i (skip j k):=by
    rw[<- mS n a (λi k=>M i (skip j k)) ()];exact cP λi k _ _=>by
     show cJ a M i (skip j k)=cJ a (λi k=>M i (skip j k)) i k;unfold cJ;split
     .rfl
     .split<;>rfl
   rw[e1,e2];grind
theorem xZ:∀(t n:Nat) (M:Mat) (i:Nat),i+t+1=n->(∀j,M i j=M n j)->det (n+1) M=0
 |0,n,M,i,h,e=>by
  have hn:n=i+1:=by lia
  subst hn;have s:=yY i M;have c:det (i+2) (cJ i M)=det (i+2) M:=cP λk j _ _=>by
   unfold cJ
   by_cases k1:k=i
   .rw[if_pos k1,k1];exact(e j).symm
   .rw[if_neg k1]
    by_cases k2:k=i+1
    .rw[if_pos k2,k2];exact e j
    .rw[if_neg k2]
  rw[c] at s;grind
 |t+1,n,M,i,h,e=>by
  have s:=mS (n+1) i M ();have z:=xZ t n (cJ i M) (i+1) () λj=>by
   have a1:cJ i M (i+1)=M i:=by unfold cJ;rw[if_neg (),if_pos rfl]
   have a2:cJ i M n=M n:=by unfold cJ;rw[if_neg (),if_neg ()]
   rw[a1,a2];exact e j
  rw[z] at s;grind
def Ae (n:Nat)(S:Mat)(x:Nat->Rat):Mat:=λi=>if i=n then x else S i
def F (n:Nat)(S:Mat)(c:Nat->Nat)(x:Nat->Rat):Rat:=det (n+1) (Ae n (λi j=>S i (c j)) λj=>x (c j))
theorem Nf (n:Nat)(S:Mat)(c:Nat->Nat)(x:Nat->Rat):F n S c x=rs (n+1) λj=>sgn (n+j)*x (c j)*det n λi k=>S i (c (skip j k)):=by
 unfold F;rw[fY];refine aK λj _=>?_;have e1:Ae n (λi j=>S i (c j)) (λj=>x (c j)) n j=x (c j):=by unfold Ae;rw[if_pos rfl]
 rw[e1,cP λi k hi _=>show Ae n (λi j=>S i (c j)) (λj=>x (c j)) i (skip j k)=S i (c (skip j k)) by unfold Ae;rw[if_neg ()]]
theorem qp2 (n:Nat)(S:Mat)(c:Nat->Nat)(x y:Nat->Rat)(l:Rat):F n S c (λj=>x j+l*y j)=F n S c x+l*F n S c y:=by
 rw[Nf,Nf,Nf,<- eQ,<- eH];exact aK λj _=>by grind
theorem La (n:Nat)(S:Mat)(c:Nat->Nat)(h:i < n):F n S c (S i)=0:=by
 unfold F;refine xZ (n - i - 1) n _ i () λj=>?_;unfold Ae;rw[if_neg (),if_pos rfl]
theorem Aj (n:Nat)(S:Mat)(c:Nat->Nat)(x:Nat->Rat)(h:∀j,j < n->x (c j)=0):F n S c x=x (c n)*det n λi j=>S i (c j):=by
 rw[Nf];show (rs n λj=>sgn (n+j)*x (c j)*det n λi k=>S i (c (skip j k)))+sgn (n+n)*x (c n)*(det n λi k=>S i (c (skip n k)))=_;have z:(rs n λj=>sgn (n+j)*x (c j)*det n λi k=>S i (c (skip j k)))=rs n λ_=>0:=aK λj hj=>by rw[h j hj];grind
 have s:sgn (n+n)=1:=by unfold sgn;rw[if_pos ()]
 have d:(det n λi k=>S i (c (skip n k)))=det n λi j=>S i (c j):=cP λi k _ hk=>by show S i (c (skip n k))=_;unfold skip;rw[if_pos hk]
 rw[z,dQ,s,d];grind
theorem Fj {F:Nat->Rat}(h:∀i,i < n->∃z:Int,F i=(z:Rat)):∃z:Int,rs n F=(z:Rat):=by
 induction n with
 |zero=>exact⟨0,by simp[rs]⟩
 |succ n ih=>
  obtain⟨a,ha⟩:=ih λi hi=>h i ();obtain⟨b,hb⟩:=h n ();exists a+b,by simp only[rs];rw[ha,hb,Rat.intCast_add]
theorem Ob (n:Nat):∃z:Int,sgn n=(z:Rat):=by
 unfold sgn;split
 .exists 1,⋯
 .exists -1,by rw[Rat.intCast_neg];simp
theorem sS (h:∃z:Int,a=(z:Rat))(k:∃z:Int,b=(z:Rat)):∃z:Int,a*b=(z:Rat):=by
 obtain⟨x,rfl⟩:=h;obtain⟨y,rfl⟩:=k;exists x*y,by rw[Rat.intCast_mul]
theorem xX:∀{n:Nat} {M:Mat},(∀i j,∃z:Int,M i j=(z:Rat))->∃z:Int,det n M=(z:Rat)
 |0,_,_=>⟨1,by simp[det]⟩
 |n+1,M,h=>by
  rw[fY];exact Fj λj _=>sS (sS (Ob _) (h n j)) (xX λi k=>h i _)
theorem Xi (h:∀i j,∃z:Int,S i j=(z:Rat))(hx:∀j,∃z:Int,x j=(z:Rat)):∃z:Int,F n S c x=(z:Rat):=by
 unfold F;refine xX λi j=>?_;unfold Ae;split
 .exact hx _
 .exact h i _
def Lin (Φ:(Nat->Rat)->Rat):Prop:=∀x y l,Φ (λj=>x j+l*y j)=Φ x+l*Φ y
theorem Lin.zero (h:Lin Φ):Φ (λ_=>0)=0:=by
 have:=h (λ_=>0) (λ_=>0) 1;have e:(λj:Nat=>(λ_=>(0:Rat)) j+1*(λ_=>(0:Rat)) j)=λ_=>0:=by funext j;show (0:Rat)+1*0=0;grind
 rw[e] at this;grind
theorem Lin.mul (h:Lin Φ)(l:Rat)(y:Nat->Rat):Φ (λj=>l*y j)=l*Φ y:=by
 have:=h (λ_=>0) y l;have e:(λj:Nat=>(λ_=>(0:Rat)) j+l*y j)=λj=>l*y j:=by funext j;show (0:Rat)+l*y j=_;grind
 rw[e,h.zero] at this;grind
theorem Lin.sum (h:Lin Φ)(a:Nat->Rat)(Y:Nat->Nat->Rat):∀n,Φ (λj=>rs n λk=>a k*Y k j)=rs n λk=>a k*Φ (Y k)
 |0=>h.zero
 |n+1=>by
  have:=h (λj=>rs n λk=>a k*Y k j) (Y n) (a n);simp only[rs];rw[this,Lin.sum h a Y n]
theorem Lu (n:Nat)(S:Mat)(c:Nat->Nat):Lin (F n S c):=λx y l=>qp2 n S c x y l
def Wh (x:Rat):Prop:=∃z:Int,x=(z:Rat)
theorem Wh.mul (h:Wh a)(k:Wh b):Wh (a*b):=sS h k
theorem Wh.neg (h:Wh a):Wh (-a):=by obtain⟨z,rfl⟩:=h;exists -z,by rw[Rat.intCast_neg]
theorem Wh.sub (h:Wh a)(k:Wh b):Wh (a - b):=by obtain⟨x,rfl⟩:=h;obtain⟨y,rfl⟩:=k;exists x - y,by rw[Rat.intCast_sub]
theorem Wh.one:Wh 1:=⟨1,⋯⟩
theorem Wh.nil:Wh 0:=⟨0,⋯⟩
structure Bar (m:Nat) (A E:Mat) (r col:Nat) (d:Rat) (c:Nat->Nat):Prop where
 dne:d≠0
 rm:r<=m
 rc:r<=col
 clt:∀j,j < r->c j < col
 cinj:∀i j,i < r->j < r->c i=c j->i=j
 wA:∀i j,Wh (A i j)
 wE:∀i j,i < m->Wh (E i j)
 i2:∀k j,k < r->j < r->E k (c j)=if j=k then d else 0
 i3:∀i x,r<=i->i < m->x < col->E i x=0
 i4:∀i x,i < m->d*A i x=(rs r λk=>A i (c k)*E k x)+if i < r then 0 else E i x
 i5:det r (λi j=>A i (c j))=d
 i6:∀Φ,Lin Φ->(∀s,s < r->Φ (A s)=0)->∀k,k < r->Φ (E k)=0
 full:r=col->∀j,j < r->c j=j
theorem Bar.start (wA:∀i j,Wh (A i j)):Bar m A A 0 0 1 id where
 dne:=by grind
 rm:=by lia
 rc:=by lia
 clt:=λj h=>absurd h ()
 cinj:=λi j h=>absurd h ()
 wA:=wA
 wE:=λi j _=>wA i j
 i2:=λk j h=>absurd h ()
 i3:=λi x _ _ h=>absurd h ()
 i4:=λi x _=>by simp only[rs];rw[if_neg ()];grind
 i5:=rfl
 i6:=λΦ _ _ k h=>absurd h ()
 full:=λ_ j h=>absurd h ()
section
variable {m:Nat} {A E:Mat} {r col:Nat} {d:Rat} {c:Nat->Nat}
theorem Bar.skip (h:Bar m A E r col d c)(hz:∀i,r<=i->i < m->E i col=0):Bar m A E r (col+1) d c:=
 { h with
  rc:=by have:=h.rc;lia
  clt:=λj hj=>by have:=h.clt j hj;lia
  i3:=λi x hi hm hx=>by
   by_cases e:x=col
   .rw[e];exact hz i hi hm
   .exact h.i3 i x hi hm ()
  full:=λe=>by have:=h.rc;lia }
def sw (p r i:Nat):Nat:=if i=r then p else if i=p then r else i
theorem zA (hp:r<=p)(hi:i < r):sw p r i=i:=by unfold sw;rw[if_neg (),if_neg ()]
theorem Zc (hp:r<=p)(hi:r<=i):r<=sw p r i:=by unfold sw;split;exact hp;split<;>lia
theorem Nd (hp:p < m)(hr:r < m)(hi:i < m):sw p r i < m:=by unfold sw;split;exact hp;split<;>lia
theorem Zh (p r i:Nat):sw p r (sw p r i)=i:=by
 unfold sw
 by_cases h1:i=r
 .rw[if_pos h1]
  by_cases h2:p=r
  .rw[if_pos h2];lia
  .rw[if_neg h2,if_pos rfl];exact h1.symm
 .rw[if_neg h1]
  by_cases h2:i=p
  .rw[if_pos h2,if_pos rfl];exact h2.symm
  .rw[if_neg h2,if_neg h1,if_neg h2]
theorem Bar.swap (h:Bar m A E r col d c)(hp:r<=p)(hpm:p < m):Bar m (λi=>A (sw p r i)) (λi=>E (sw p r i)) r col d c:=
 { h with
  wA:=λi j=>h.wA _ j
  wE:=λi j hi=>h.wE _ j (Nd hpm () hi)
  i2:=λk j hk hj=>by
   show E (sw p r k) (c j)=_;rw[zA hp hk];exact h.i2 k j hk hj
  i3:=λi x hi hm hx=>h.i3 _ x (Zc hp hi) (Nd hpm () hm) hx
  i4:=λi x hm=>by
   have e:(rs r λk=>A (sw p r i) (c k)*E (sw p r k) x)=rs r λk=>A (sw p r i) (c k)*E k x:=aK λk hk=>by rw[zA hp hk]
   show d*A (sw p r i) x=(rs r λk=>A (sw p r i) (c k)*E (sw p r k) x)+_;rw[e,h.i4 _ x (Nd hpm () hm)];congr 1
   by_cases hi:i < r
   .rw[zA hp hi,if_pos hi]
   .have:=Zc hp (show r<=i by lia);rw[if_neg (),if_neg hi]
  i5:=by
   rw[<- h.i5];exact cP λi j hi _=>by show A (sw p r i) (c j)=_;rw[zA hp hi]
  i6:=λΦ hΦ hs k hk=>by
   show Φ (E (sw p r k))=0;rw[zA hp hk];exact h.i6 Φ hΦ (λs hs'=>by have:=hs s hs';rwa [zA hp hs'] at this) k hk }
def clr (E:Mat)(r col:Nat)(d:Rat):Mat:=λk x=>if k=r then E r x else (E r col*E k x - E k col*E r x) / d
def c1 (c:Nat->Nat)(r col:Nat):Nat->Nat:=λj=>if j=r then col else c j
theorem iU (c:Nat->Nat)(h:j < r):c1 c r col j=c j:=by unfold c1;rw[if_neg ()]
theorem mD (c:Nat->Nat)(r col:Nat):c1 c r col r=col:=by unfold c1;rw[if_pos rfl]
theorem vL (E:Mat)(r col:Nat)(d:Rat):clr E r col d r=E r:=by funext x;unfold clr;rw[if_pos rfl]
theorem mI (E:Mat)(h:k≠r)(x:Nat):clr E r col d k x=(E r col*E k x - E k col*E r x) / d:=by unfold clr;rw[if_neg h]
theorem Bar.j2 (h:Bar m A E r col d c)(hr:r < m):∀k j,k < r+1->j < r+1->clr E r col d k (c1 c r col j)=if j=k then E r col else 0:=λk j hk hj=>by
 have hd:=h.dne
 by_cases kr:k=r
 .subst kr;rw[vL]
  by_cases jr:j=k
  .rw[if_pos jr,jr,mD]
  .rw[if_neg jr,iU c ()];exact h.i3 k _ (Nat.le_refl _) hr (h.clt j ())
 .rw[mI E kr]
  by_cases jr:j=r
  .subst jr;rw[mD,if_neg ()];grind
  .rw[iU c (),h.i2 k j () (),h.i3 r (c j) (Nat.le_refl _) hr (h.clt j ())]
   by_cases e:j=k
   .rw[if_pos e,if_pos e];grind
   .rw[if_neg e,if_neg e];grind
theorem Bar.j4 (h:Bar m A E r col d c)(hr:r < m):∀i x,i < m->E r col*A i x=(rs (r+1) λk=>A i (c1 c r col k)*clr E r col d k x)+if i < r+1 then 0 else clr E r col d i x:=λi x hi=>by
 have hd:=h.dne;have q:=h.i4 i x hi;have q2:=h.i4 i col hi;show _=(rs r λk=>A i (c1 c r col k)*clr E r col d k x)+A i (c1 c r col r)*clr E r col d r x+_;rw[mD,vL];have e:(rs r λk=>A i (c1 c r col k)*clr E r col d k x)=(E r col / d)*(rs r λk=>A i (c k)*E k x)+(-(E r x / d))*rs r λk=>A i (c k)*E k col:=by
  rw[<- eQ,<- eQ,<- eH];exact aK λk hk=>by rw[iU c hk,mI E ()];grind
 rw[e];generalize (rs r λk=>A i (c k)*E k x)=s1 at q ⊢;generalize (rs r λk=>A i (c k)*E k col)=s2 at q2 ⊢
 by_cases h1:i < r
 .rw[if_pos h1] at q q2;rw[if_pos ()];have:s1=d*A i x:=by grind
  have:s2=d*A i col:=by grind
  subst s1 s2;grind
 .rw[if_neg h1] at q q2;have a1:s1=d*A i x - E i x:=by grind
  have a2:s2=d*A i col - E i col:=by grind
  subst a1 a2
  by_cases h2:i=r
  .subst h2;rw[if_pos ()];grind
  .rw[if_neg (),mI E h2];grind
theorem Bar.j6 (h:Bar m A E r col d c)(hr:r < m):∀Φ,Lin Φ->(∀s,s < r+1->Φ (A s)=0)->∀k,k < r+1->Φ (clr E r col d k)=0:=λΦ hΦ hs k hk=>by
 have hd:=h.dne;have z:=h.i6 Φ hΦ λs hs'=>hs s ();have zr:Φ (E r)=0:=by
  have e:E r=λx=>(λx=>d*A r x) x+(-1)*(λx=>rs r λk=>A r (c k)*E k x) x:=by
   funext x
   have:=h.i4 r x hr;rw[if_neg ()] at this;show E r x=d*A r x+(-1)*(rs r λk=>A r (c k)*E k x)
   grind
  rw[e,hΦ,hΦ.mul,hΦ.sum,hs r ()];have:(rs r λk=>A r (c k)*Φ (E k))=rs r λ_=>0:=aK λk hk=>by rw[z k hk];grind
  rw[this,dQ];grind
 by_cases kr:k=r
 .rw[kr,vL];exact zr
 .have e:clr E r col d k=λx=>(λx=>(E r col / d)*E k x) x+(-(E k col / d))*E r x:=by
   funext x
   rw[mI E kr];show _=(E r col / d)*E k x+(-(E k col / d))*E r x;grind
  rw[e,hΦ,hΦ.mul,z k (),zr];grind
theorem Bar.j5 (h:Bar m A E r col d c)(hr:r < m):det (r+1) (λi j=>A i (c1 c r col j))=E r col:=by
 have hd:=h.dne;have e1:det (r+1) (λi j=>A i (c1 c r col j))=F r A (c1 c r col) (A r):=by
  unfold F;exact cP λi j hi _=>by
   unfold Ae
   by_cases e:i=r
   .rw[if_pos e,e]
   .rw[if_neg e]
 have hΦ:=Lu r A (c1 c r col);have z:=h.i6 _ hΦ λs hs=>La r A (c1 c r col) hs;have eA:A r=λx=>(λx=>(1 / d)*E r x) x+(1 / d)*(λx=>rs r λk=>A r (c k)*E k x) x:=by
  funext x
  have:=h.i4 r x hr;rw[if_neg ()] at this;show A r x=(1 / d)*E r x+(1 / d)*(rs r λk=>A r (c k)*E k x)
  grind
 have zs:(rs r λk=>A r (c k)*F r A (c1 c r col) (E k))=0:=by
  have:(rs r λk=>A r (c k)*F r A (c1 c r col) (E k))=rs r λ_=>0:=aK λk hk=>by rw[z k hk];grind
  rw[this,dQ]
 have fb:=Aj r A (c1 c r col) (E r) λj hj=>by rw[iU c hj];exact h.i3 r _ (Nat.le_refl _) hr (h.clt j hj)
 have dd:(det r λi j=>A i (c1 c r col j))=d:=by rw[<- h.i5];exact cP λi j _ hj=>by show A i (c1 c r col j)=_;rw[iU c hj]
 rw[mD,dd] at fb;rw[e1,eA,hΦ,hΦ.mul,hΦ.sum,zs,fb];grind
theorem Bar.wV (h:Bar m A E r col d c)(hr:r < m)(he:E r col≠0):∀i x,i < m->Wh (clr E r col d i x):=by
 have j2:=h.j2 hr;have j4:=h.j4 hr;have j5:=h.j5 hr;have j6:=h.j6 hr;have cin:∀i j,i < r+1->j < r+1->c1 c r col i=c1 c r col j->i=j:=λi j hi hj e=>by
  by_cases a:i=r
  .by_cases b:j=r
   .lia
   .rw[a,mD,iU c ()] at e;have:=h.clt j ();lia
  .by_cases b:j=r
   .rw[b,mD,iU c ()] at e;have:=h.clt i ();lia
   .rw[iU c (),iU c ()] at e;exact h.cinj i j () () e
 have top:∀k x,k < r+1->Wh (clr E r col d k x):=λk x hk=>by
  by_cases hx:∃j,j < r+1/\x=c1 c r col j
  .obtain⟨j,hj,rfl⟩:=hx;rw[j2 k j hk hj];split
   .exact h.wE r col hr
   .exact Wh.nil
  .let c2:Nat->Nat:=λj=>if j=r+1 then x else c1 c r col j
   let u:Nat->Rat:=λj=>if j=c1 c r col k then 1 else 0
   have hΦ:=Lu (r+1) A c2;have z:=j6 _ hΦ (λs hs=>La (r+1) A c2 hs) k hk;have eu:u=λy=>(λy=>u y+(-(1 / E r col))*clr E r col d k y) y+(1 / E r col)*clr E r col d k y:=by
    funext y
    show u y=u y+(-(1 / E r col))*clr E r col d k y+(1 / E r col)*clr E r col d k y;grind
   have fb:=Aj (r+1) A c2 (λy=>u y+(-(1 / E r col))*clr E r col d k y) λj hj=>by
    have ec:c2 j=c1 c r col j:=by show (if j=r+1 then x else c1 c r col j)=_;rw[if_neg ()]
    rw[ec];show u (c1 c r col j)+(-(1 / E r col))*clr E r col d k (c1 c r col j)=0;rw[j2 k j hk hj];show (if c1 c r col j=c1 c r col k then (1:Rat) else 0)+_=0
    by_cases e:j=k
    .rw[if_pos e,if_pos (by rw[e])];grind
    .rw[if_neg e,if_neg (λq=>e (cin j k hj hk q))];grind
   have dd:(det (r+1) λi j=>A i (c2 j))=E r col:=by
    rw[<- j5];exact cP λi j _ hj=>by show A i (if j=r+1 then x else c1 c r col j)=_;rw[if_neg ()]
   have ux:u x=0:=by show (if x=c1 c r col k then (1:Rat) else 0)=0;rw[if_neg (λq=>hx ⟨k,hk,q⟩)]
   have cx:c2 (r+1)=x:=by show (if r+1=r+1 then x else _)=x;rw[if_pos rfl]
   rw[dd,cx] at fb;have val:F (r+1) A c2 u=- clr E r col d k x:=by
    rw[eu,hΦ,z,fb];show (u x+(-(1 / E r col))*clr E r col d k x)*E r col+_=_;rw[ux];grind
   have wh:Wh (F (r+1) A c2 u):=Xi h.wA λj=>by
    show Wh (if j=c1 c r col k then (1:Rat) else 0);split
    .exact Wh.one
    .exact Wh.nil
   rw[val] at wh;have:=wh.neg
   rwa [show - - clr E r col d k x=clr E r col d k x by grind] at this
 intro i x hi
 by_cases h1:i < r+1
 .exact top i x h1
 .have q:=j4 i x hi;rw[if_neg h1] at q;have e:clr E r col d i x=E r col*A i x - rs (r+1) λk=>A i (c1 c r col k)*clr E r col d k x:=by grind
  rw[e];exact Wh.sub (Wh.mul (h.wE r col hr) (h.wA i x)) (Fj λk hk=>Wh.mul (h.wA _ _) (top k x hk))
theorem Bar.clear (h:Bar m A E r col d c)(hr:r < m)(he:E r col≠0):Bar m A (clr E r col d) (r+1) (col+1) (E r col) (c1 c r col) where
 dne:=he
 rm:=hr
 rc:=by have:=h.rc;lia
 clt:=λj hj=>by
  by_cases e:j=r
  .rw[e,mD];lia
  .rw[iU c ()];have:=h.clt j ();lia
 cinj:=λi j hi hj e=>by
  by_cases a:i=r
  .by_cases b:j=r
   .lia
   .rw[a,mD,iU c ()] at e;have:=h.clt j ();lia
  .by_cases b:j=r
   .rw[b,mD,iU c ()] at e;have:=h.clt i ();lia
   .rw[iU c (),iU c ()] at e;exact h.cinj i j () () e
 wA:=h.wA
 wE:=λi j hi=>h.wV hr he i j hi
 i2:=h.j2 hr
 i3:=λi x hi hm hx=>by
  rw[mI E ()]
  by_cases e:x=col
  .rw[e];grind
  .rw[h.i3 i x () hm (),h.i3 r x (Nat.le_refl _) hr ()];grind
 i4:=h.j4 hr
 i5:=h.j5 hr
 i6:=h.j6 hr
 full:=λe j hj=>by
  by_cases a:j=r
  .rw[a,mD];lia
  .rw[iU c ()];exact h.full () j ()
end
def ent (R:List (List Int))(i x:Nat):Int:=(R.getD i []).getD x 0
def at2 (R:List (List Int)):Mat:=λi x=>((ent R i x:Int):Rat)
theorem Bar.congr (h:Bar m A E r col d c)(e:∀i,i < m->E i=E' i):Bar m A E' r col d c:=
 { h with
  wE:=λi j hi=>by rw[<- e i hi];exact h.wE i j hi
  i2:=λk j hk hj=>by rw[<- e k (by have:=h.rm;lia)];exact h.i2 k j hk hj
  i3:=λi x hi hm hx=>by rw[<- e i hm];exact h.i3 i x hi hm hx
  i4:=λi x hm=>by
   rw[h.i4 i x hm];congr 1
   .exact aK λk hk=>by rw[e k (by have:=h.rm;lia)]
   .rw[e i hm]
  i6:=λΦ hΦ hs k hk=>by rw[<- e k (by have:=h.rm;lia)];exact h.i6 Φ hΦ hs k hk }
theorem Ql (n:Nat):∀(t p r:Nat) (A:Mat),p=r+t+1->p < n->det n (λi=>A (sw p r i))=- det n A
 |0,p,r,A,h,hp=>by
  subst h;rw[<- mS n r A ()];exact cP λi j _ _=>by
   show A (sw (r+0+1) r i) j=cJ r A i j;unfold sw cJ
   by_cases h1:i=r
   .rw[if_pos h1,if_pos h1]
   .rw[if_neg h1,if_neg h1]
    by_cases h2:i=r+1
    .rw[if_pos (),if_pos h2]
    .rw[if_neg (),if_neg h2]
 |t+1,p,r,A,h,hp=>by
  have ih:=Ql n t (r+t+1) r (cJ (r+t+1) A) rfl ();have s1:=mS n (r+t+1) A ();have s2:=mS n (r+t+1) (λi=>cJ (r+t+1) A (sw (r+t+1) r i)) ();have e:det n (λi=>A (sw p r i))=det n (cJ (r+t+1) (λi=>cJ (r+t+1) A (sw (r+t+1) r i))):=cP λi j _ _=>by
   subst h;show A (sw (r+(t+1)+1) r i) j=cJ (r+t+1) (λi=>cJ (r+t+1) A (sw (r+t+1) r i)) i j
   by_cases h1:i=r
   .have a1:sw (r+(t+1)+1) r i=r+t+1+1:=by unfold sw;rw[if_pos h1];lia
    have a2:sw (r+t+1) r i=r+t+1:=by unfold sw;rw[if_pos h1]
    rw[a1];unfold cJ;rw[if_neg (),if_neg ()];dsimp only;rw[a2,if_pos rfl]
   .by_cases h2:i=r+t+1+1
    .have a1:sw (r+(t+1)+1) r i=r:=by unfold sw;rw[if_neg h1,if_pos ()]
     have a2:sw (r+t+1) r (r+t+1)=r:=by unfold sw;rw[if_neg (),if_pos rfl]
     rw[a1];unfold cJ;rw[if_neg (),if_pos h2];dsimp only;rw[a2,if_neg (),if_neg ()]
    .have a1:sw (r+(t+1)+1) r i=i:=by unfold sw;rw[if_neg h1,if_neg ()]
     rw[a1]
     by_cases h3:i=r+t+1
     .have a2:sw (r+t+1) r (r+t+1+1)=r+t+1+1:=by unfold sw;rw[if_neg (),if_neg ()]
      unfold cJ;rw[if_pos h3];dsimp only;rw[a2,if_neg (),if_pos rfl,h3]
     .have a2:sw (r+t+1) r i=i:=by unfold sw;rw[if_neg h1,if_neg h3]
      unfold cJ;rw[if_neg h3,if_neg h2];dsimp only;rw[a2,if_neg h3,if_neg h2]
  rw[e,s2,ih,s1];grind
def jB (R:List (List Int))(p r:Nat):List (List Int):=(R.set p (R.getD r [])).set r (R.getD p [])
theorem qd1 (R:List (List Int))(p r:Nat):(jB R p r).length=R.length:=by unfold jB;simp
theorem Jd (hp:p < R.length)(hr:r < R.length)(i:Nat):(jB R p r).getD i []=R.getD (sw p r i) []:=by
 unfold jB sw;rw[getD_eq_getElem?_getD]
 by_cases h1:i=r
 .rw[if_pos h1,h1,getElem?_set_self (by simpa using hr)];rfl
 .rw[if_neg h1,getElem?_set_ne (Ne.symm h1)]
  by_cases h2:i=p
  .rw[if_pos h2,h2,getElem?_set_self hp];rfl
  .rw[if_neg h2,getElem?_set_ne (Ne.symm h2),getD_eq_getElem?_getD]
def hG (upper row:List Int)(col:Nat)(dv:Int):List Int:=zipWith (λhere above=>Int.fdiv (upper.getD col 0*here - row.getD col 0*above) dv) row upper
def cE (R:List (List Int))(r col:Nat)(dv:Int):List (List Int):=R.mapIdx λi row=>if i=r then row else hG (R.getD r []) row col dv
theorem Kg (R:List (List Int))(r col:Nat)(dv:Int):(cE R r col dv).length=R.length:=by unfold cE;simp
theorem nQ (hi:i < R.length)(r col:Nat)(dv:Int):(cE R r col dv).getD i []=if i=r then R.getD i [] else hG (R.getD r []) (R.getD i []) col dv:=by
 unfold cE;rw[getD_eq_getElem?_getD,getElem?_mapIdx,getElem?_eq_getElem hi];have:R.getD i []=R[i]:=by rw[getD_eq_getElem?_getD,getElem?_eq_getElem hi];rfl
 rw[this];rfl
structure SI (m w:Nat) (A0:Mat) (R:List (List Int)) (r col:Nat) (d sg:Int):Prop where
 len:R.length=m
 wid:∀i,i < m->(R.getD i []).length=w
 bar:∃A c,Bar m A (at2 R) r col (d:Rat) c/\det m A=(sg:Rat)*det m A0
 one:sg=1\/sg=-1
theorem SI.start (h:R.length=m)(hw:∀i,i < m->(R.getD i []).length=w):SI m w (at2 R) R 0 0 1 1:=
 ⟨h,hw,⟨at2 R,id,by
  have:=Bar.start (m:=m) (A:=at2 R) λi j=>⟨_,rfl⟩
  simpa using this,⋯⟩,.inl rfl⟩
theorem SI.skip (h:SI m w A0 R r col d sg)(hz:∀i,r<=i->i < m->ent R i col=0):SI m w A0 R r (col+1) d sg:=by
 obtain⟨A,c,B,e⟩:=h.bar;exists h.len,h.wid,⟨A,c,B.skip λi h1 h2=>by unfold at2;rw[hz i h1 h2];simp,e⟩,h.one
theorem SI.swap (h:SI m w A0 R r col d sg)(hp:r < p)(hm:p < m):SI m w A0 (jB R p r) r col d (-sg):=by
 obtain⟨A,c,B,e⟩:=h.bar;have hl:=h.len;have gd:=λi=>Jd (R:=R) (p:=p) (r:=r) () () i;exists (qd1 R p r).trans hl,λi hi=>?_,⟨_,c,(B.swap () hm).congr λi hi=>?_,?_⟩,?_
 .rw[gd i];exact h.wid _ (Nd hm () hi)
 .funext x
  show (((R.getD (sw p r i) []).getD x 0:Int):Rat)=((((jB R p r).getD i []).getD x 0:Int):Rat)
  rw[gd i]
 .rw[Ql m (p - r - 1) p r A () hm,e,Rat.intCast_neg];grind
 .rcases h.one with z | z
  .right;lia
  .left;lia
theorem kC {l:List Int}(h:x < l.length):l[x]?=some (l.getD x 0):=by rw[getD_eq_getElem?_getD,getElem?_eq_getElem h];rfl
theorem qU {l:List Int}(h:l.length<=x):l.getD x 0=0:=by rw[getD_eq_getElem?_getD,getElem?_eq_none h];rfl
theorem Ag (h:SI m w A0 R r col d sg)(B:Bar m A (at2 R) r col (d:Rat) c)(hr:r < m)(hc:col < w)(he:ent R r col≠0)(hi:i < m)(hir:i≠r)(x:Nat):
  ∃z:Int,(hG (R.getD r []) (R.getD i []) col d).getD x 0=z/\(z:Rat)=clr (at2 R) r col (d:Rat) i x/\(x < w->ent R r col*ent R i x - ent R i col*ent R r x=d*z):=by
 have dn:d≠0:=λz=>B.dne (by rw[z];simp);have dq:=B.dne;have heq:at2 R r col≠0:=λz=>he (Rat.intCast_inj.mp (by unfold at2 at z;simpa using z));have wi:=h.wid i hi;have wr:=h.wid r hr
 by_cases hx:x < w
 .obtain⟨z,hz⟩:=B.wV hr heq i x hi;have e1:ent R r col*ent R i x - ent R i col*ent R r x=d*z:=by
   rw[mI _ hir] at hz;have:((ent R r col*ent R i x - ent R i col*ent R r x:Int):Rat)=((d*z:Int):Rat):=by
    rw[Rat.intCast_sub,Rat.intCast_mul,Rat.intCast_mul,Rat.intCast_mul,<- hz];show at2 R r col*at2 R i x - at2 R i col*at2 R r x=_;grind
   exact Rat.intCast_inj.mp this
  exists z,?_,hz.symm,λ_=>e1;unfold hG;have g1:(R.getD i [])[x]?=some ((R.getD i []).getD x 0):=kC ();have g2:(R.getD r [])[x]?=some ((R.getD r []).getD x 0):=kC ();rw[getD_eq_getElem?_getD (l:=zipWith _ _ _),getElem?_zipWith,g1,g2];exact fA dn e1
 .exists 0,?_,?_,λh=>absurd h hx
  .unfold hG;exact qU (by rw[length_zipWith,wi,wr];lia)
  .rw[mI _ hir];have a1:at2 R i x=0:=by unfold at2 ent;rw[qU ()];simp
   have a2:at2 R r x=0:=by unfold at2 ent;rw[qU ()];simp
   rw[a1,a2];simp;grind
theorem SI.clear (h:SI m w A0 R r col d sg)(hr:r < m)(hc:col < w)(he:ent R r col≠0):SI m w A0 (cE R r col d) (r+1) (col+1) (ent R r col) sg:=by
 obtain⟨A,c,B,e⟩:=h.bar;have hl:=h.len;have heq:at2 R r col≠0:=λz=>he (Rat.intCast_inj.mp (by unfold at2 at z;simpa using z));exists (Kg R r col d).trans hl,λi hi=>?_,⟨A,_,(B.clear hr heq).congr λi hi=>?_,e⟩,h.one
 .rw[nQ ()];split
  .exact h.wid i hi
  .unfold hG;rw[length_zipWith,h.wid i hi,h.wid r hr,Nat.min_self]
 .funext x
  show clr (at2 R) r col (d:Rat) i x=((((cE R r col d).getD i []).getD x 0:Int):Rat)
  rw[nQ ()]
  by_cases hir:i=r
  .rw[if_pos hir,hir,vL];rfl
  .rw[if_neg hir];obtain⟨z,h1,h2,_⟩:=Ag h B hr hc he hi hir x;rw[h1,h2]
def BdR (n:Nat)(R:List (List Int)):Prop:=∀i x,B n (ent R i x)
theorem SI.whole (h:SI m w A0 R m m d sg):det m A0=(sg:Rat)*(d:Rat):=by
 obtain⟨A,c,B,e⟩:=h.bar;have f:=B.full rfl;have i5:=B.i5;have:det m (λi j=>A i (c j))=det m A:=cP λi j _ hj=>by show A i (c j)=A i j;rw[f j hj]
 rw[this,e] at i5;rcases h.one with z | z
 .rw[z] at i5 ⊢;simp at i5 ⊢;exact i5
 .rw[z,Rat.intCast_neg] at i5 ⊢;simp at i5 ⊢;grind
theorem SI.lame (h:SI m w A0 R r m d sg)(hr:r < m):det m A0=0:=by
 obtain⟨A,c,B,e⟩:=h.bar;obtain⟨n,rfl⟩:∃n,m=n+1:=⟨m - 1,()⟩
 have dq:=B.dne;have e1:det (n+1) A=F n A id (A n):=by
  unfold F;exact cP λi j hi _=>by
   unfold Ae
   by_cases z:i=n
   .rw[if_pos z,z];rfl
   .rw[if_neg z];rfl
 have hΦ:=Lu n A id;have z:=B.i6 _ hΦ λs hs=>La n A id ();have eA:A n=λx=>(λx=>(1 / (d:Rat))*at2 R n x) x+(1 / (d:Rat))*(λx=>rs r λk=>A n (c k)*at2 R k x) x:=by
  funext x
  have:=B.i4 n x ();rw[if_neg ()] at this;show A n x=(1 / (d:Rat))*at2 R n x+(1 / (d:Rat))*(rs r λk=>A n (c k)*at2 R k x)
  grind
 have zs:(rs r λk=>A n (c k)*F n A id (at2 R k))=0:=by
  have:(rs r λk=>A n (c k)*F n A id (at2 R k))=rs r λ_=>0:=aK λk hk=>by rw[z k hk];grind
  rw[this,dQ]
 have zn:F n A id (at2 R n)=0:=by
  rw[Nf];have:(rs (n+1) λj=>sgn (n+j)*at2 R n (id j)*det n λi k=>A i (id (Mq.skip j k)))=rs (n+1) λ_=>0:=aK λj hj=>by
   rw[show at2 R n (id j)=0 from B.i3 n j () () hj];grind
  rw[this,dQ]
 have:det (n+1) A=0:=by
  rw[e1,eA,hΦ,hΦ.mul,hΦ.sum,zs,zn];grind
 rw[this] at e;rcases h.one with q | q
 .rw[q] at e;simp at e;exact e.symm
 .rw[q,Rat.intCast_neg] at e;simp at e;grind
def Em:Nat->(Nat->Rat)->Rat
 |0,_=>1
 |n+1,b=>Em n b*b n
theorem rZ:∀(n:Nat) (b:Nat->Rat) (Q:Mat),det n (λi j=>b i*Q i j)=Em n b*det n Q
 |0,_,_=>by simp[det,Em]
 |n+1,b,Q=>by
  rw[fY,fY,<- eQ];refine aK λj _=>?_;have:=rZ n b (λi k=>Q i (Mq.skip j k));show sgn (n+j)*(b n*Q n j)*det n (λi k=>b i*Q i (Mq.skip j k))=Em n b*b n*_;rw[this];grind
end Mq
open Mq (Bar BdR Em Mat SI cE cP ent hG jB kC nQ rZ)
namespace Shp
open PySem L2
inductive Imx (D:Addr) (H:Hp):List V->List (List Int)->Prop where
 |nil:Imx D H [] []
 |cons {u:Addr} {r:List Int} {us:List V} {R:List (List Int)} (ne:u≠D) (h:H u=some (.lst (r.map V.int))) (q:Imx D H us R):Imx D H (.ref u :: us) (r :: R)
theorem Imx.same (e:aP H H'):∀{xs:List V} {R:List (List Int)},Imx D H xs R->Imx D H' xs R
 |_,_,.nil=>.nil
 |_,_,.cons n h q=>.cons n (e _ _ h) (q.same e)
theorem Imx.upd:∀{xs:List V} {R:List (List Int)},Imx D H xs R->Imx D (L2.upd H D o) xs R
 |_,_,.nil=>.nil
 |_,_,.cons n h q=>.cons n (by rw[aU n];exact h) q.upd
theorem Imx.length:∀{xs:List V} {R:List (List Int)},Imx D H xs R->xs.length=R.length
 |_,_,.nil=>rfl
 |_,_,.cons _ _ q=>by rw[length_cons,length_cons,q.length]
theorem Imx.get:∀{xs:List V} {R:List (List Int)} {i:Nat} {x:V},Imx D H xs R->xs[i]?=some x->∃u r,x=.ref u/\R[i]?=some r/\u≠D/\H u=some (.lst (r.map V.int))
 |_,_,0,_,.cons n h q,e=>by simp at e;exists _,_,e.symm,rfl,n,h
 |_,_,i+1,_,.cons n h q,e=>by simp at e;exact q.get e
theorem Imx.at (h:Imx D H xs R)(hi:i < R.length):∃u,xs[i]?=some (.ref u)/\u≠D/\H u=some (.lst ((R.getD i []).map V.int)):=by
 have hx:i < xs.length:=by rw[h.length];exact hi
 obtain⟨u,r,e1,e2,e3,e4⟩:=h.get (getElem?_eq_getElem hx);exists u,by rw[getElem?_eq_getElem hx,e1],e3,?_;rw[getD_eq_getElem?_getD,e2];exact e4
theorem Imx.app:∀{xs ys:List V} {R S:List (List Int)},Imx D H xs R->Imx D H ys S->Imx D H (xs++ys) (R++S)
 |_,_,_,_,.nil,k=>k
 |_,_,_,_,.cons n h q,k=>.cons n h (q.app k)
theorem Imx.other (hD:H D'=none):∀{xs:List V} {R:List (List Int)},Imx D H xs R->Imx D' H xs R
 |_,_,.nil=>.nil
 |_,_,.cons n h q=>.cons (λz=>by rw[z,hD] at h;cases h) h (q.other hD)
inductive Wmx (K:Frag) (D:Addr) (H:Hp):List V->List (List Int × Int)->Prop where
 |nil:Wmx K D H [] []
 |cons {t l:Addr} {r:List Int × Int} {us:List V} {rs:List (List Int × Int)} (ne:l≠D) (h:SqT K H t [.ref l,.int r.2]) (f:H l=some (.lst (r.1.map V.int))) (q:Wmx K D H us rs):Wmx K D H (.ref t :: us) (r :: rs)
theorem Wmx.same (e:aP H H'):∀{xs:List V} {rs:List (List Int × Int)},Wmx K D H xs rs->Wmx K D H' xs rs
 |_,_,.nil=>.nil
 |_,_,.cons n h f q=>.cons n (e.seqT h) (e _ _ f) (q.same e)
theorem Wmx.upd (hl:H D=some (.lst ys)):∀{xs:List V} {rs:List (List Int × Int)},Wmx K D H xs rs->Wmx K D (L2.upd H D o) xs rs
 |_,_,.nil=>.nil
 |_,_,.cons n h f q=>.cons n (h.upd hl) (by rw[aU n];exact f) (q.upd hl)
theorem Wmx.length:∀{xs:List V} {rs:List (List Int × Int)},Wmx K D H xs rs->xs.length=rs.length
 |_,_,.nil=>rfl
 |_,_,.cons _ _ _ q=>by rw[length_cons,length_cons,q.length]
theorem Wmx.get:∀{xs:List V} {rs:List (List Int × Int)} {i:Nat} {x:V},Wmx K D H xs rs->xs[i]?=some x->∃t l r,x=.ref t/\rs[i]?=some r/\SqT K H t [.ref l,.int r.2]/\H l=some (.lst (r.1.map V.int))
 |_,_,0,_,.cons n h f q,e=>by simp at e;exists _,_,_,e.symm,rfl,h,f
 |_,_,i+1,_,.cons n h f q,e=>by simp at e;exact q.get e
theorem Wmx.app:∀{xs ys:List V} {rs ss:List (List Int × Int)},Wmx K D H xs rs->Wmx K D H ys ss->Wmx K D H (xs++ys) (rs++ss)
 |_,_,_,_,.nil,k=>k
 |_,_,_,_,.cons n h f q,k=>.cons n h f (q.app k)
theorem jT {l:List Int}(h:i < l.length):(l.map V.int)[i]?=some (.int (l.getD i 0)):=by
 rw[getElem?_map,kC h];rfl
inductive Kw (K:Frag) (vs:List V) (H:Hp) (Q:VK) (E:XK):Prop where
 |mk (a:Addr) (xs:List V) (ps:List Mq.Q2) (n:Nat):vs=[.ref a]->SqL K H a xs->Fqs K H xs ps->Mq.Pos ps->(∀p∈ps,Mq.Bd n p)->ps.length<=100->10+n+n*ps.length<=8000->(∀t l H',aP H H'->H l=none->SqT K H' t [.ref l,.int (cQ ps)]->H' l=some (.lst ((iw ps).map V.int))->Q (.ref t) H')->Kw K vs H Q E
inductive rQ (K:Frag) (vs:List V) (H:Hp) (Q:VK) (E:XK):Prop where
 |mk (u v:Addr) (row upper:List Int) (c n:Nat) (dv:Int):vs=[.ref u,.ref v,.int (c:Int),.int dv]->SqL K H u (row.map V.int)->SqL K H v (upper.map V.int)->row.length=upper.length->row.length<=100->c < row.length->dv≠0->(∀i,Mq.B n (row.getD i 0))->(∀i,Mq.B n (upper.getD i 0))->Mq.B n dv->n<=9000->(∀l H',aP H H'->H l=none->H' l=some (.lst ((hG upper row c dv).map V.int))->Q (.ref l) H')->rQ K vs H Q E
inductive sU (K:Frag) (vs:List V) (H:Hp) (Q:VK) (E:XK):Prop where
 |mk (l D:Addr) (zs:List V) (R:List (List Int)) (r c m w n:Nat) (dv:Int):vs=[.ref l,.int (r:Int),.int (c:Int),.int dv]->SqL K H l zs->Imx D H zs R->R.length=m->(∀i,i < m->(R.getD i []).length=w)->c < w->w<=100->r < m->m<=100->dv≠0->BdR n R->Mq.B n dv->n<=9000->(∀l' zs' H',aP H H'->H l'=none->H' l'=some (.lst zs')->Imx l' H' zs' (cE R r c dv)->Q (.ref l') H')->sU K vs H Q E
def Ot (l:Addr)(rank:Nat)(pivot sign:Int):HO:=.dK (rF [] [(.inr "rows",.ref l),(.inr "rank",.int (rank:Int)),(.inr "pivot",.int pivot),(.inr "sign",.int sign)])
def wgt (X:List (List Mq.Q2)):Rat:=Mq.det X.length λi j=>Mq.val ((X.getD i []).getD j Mq.z0)
theorem qN (h:H d=some (Ot l rank pivot sign)):rT H d (.str "rows") (some (.ref l))/\rT H d (.str "rank") (some (.int (rank:Int)))/\rT H d (.str "pivot") (some (.int pivot))/\rT H d (.str "sign") (some (.int sign)):=by
 exists ?_,?_,?_,?_
 .exact rT.k (k:=(Sum.inr "rows":Key)) h
 .exact rT.k (k:=(Sum.inr "rank":Key)) h
 .exact rT.k (k:=(Sum.inr "pivot":Key)) h
 .exact rT.k (k:=(Sum.inr "sign":Key)) h
def xS (X:List (List Mq.Q2)):Int:=X.foldl (λb row=>b*cQ row) 1
theorem zB {X:List (List Mq.Q2)}(h:X[i]?=some row):xS (X.take (i+1))=xS (X.take i)*cQ row:=by
 unfold xS;rw[take_add_one,h,foldl_append];rfl
theorem yH (X:List (List Mq.Q2)):∀i,i<=X.length->((xS (X.take i):Int):Rat)=Em i λk=>((cQ (X.getD k []):Int):Rat)
 |0,_=>by simp[xS,Em]
 |i+1,h=>by
  have e:X[i]?=some (X.getD i []):=by rw[getD_eq_getElem?_getD,getElem?_eq_getElem ()];rfl
  rw[zB e,Rat.intCast_mul,yH X i ()];rfl
theorem Kp (hX:hV X):∀i,i<=X.length->1<=xS (X.take i)
 |0,_=>by show (1:Int)<=1;lia
 |i+1,h=>by
  have e:X[i]?=some (X.getD i []):=by rw[getD_eq_getElem?_getD,getElem?_eq_getElem ()];rfl
  rw[zB e];have h1:=Kp hX i ();have h2:=jU (hX _ (mem_of_getElem? e));have:=Int.mul_pos (show 0 < xS (X.take i) by lia) (show 0 < cQ (X.getD i []) by lia);lia
theorem zD (hp:Mq.Pos row)(hj:j < row.length):(((iw row).getD j 0:Int):Rat)=((cQ row:Int):Rat)*Mq.val (row.getD j Mq.z0):=by
 have ej:row[j]?=some (row.getD j Mq.z0):=by rw[getD_eq_getElem?_getD,getElem?_eq_getElem hj];rfl
 have mem:row.getD j Mq.z0∈row:=mem_of_getElem? ej;obtain⟨k,hk⟩:=Ey hp _ mem;have e2:(iw row).getD j 0=Gb (cQ row) (row.getD j Mq.z0):=by
  unfold iw;rw[getD_eq_getElem?_getD,getElem?_map,ej];rfl
 rw[e2,Mq.qi2 (hp _ mem) hk];grind
theorem rB (row:List Mq.Q2):(iw row).length=row.length:=by unfold iw;simp
end Shp
namespace L2
open PySem
theorem Sb (h:X.K=K)(hl:PE X l tl):PI X tg l (Yp K tl):=by subst h;exact bZ hl
end L2
namespace Mq
theorem mU (m a:Nat)(v:Rat)(h:a < m):(rs m λi=>if i=a then v else 0)=v:=by
 induction m with
 |zero=>lia
 |succ m ih=>
  simp only[rs]
  by_cases e:m=a
  .subst e;rw[if_pos rfl];have:(rs m λi=>if i=m then v else 0)=rs m λ_=>0:=aK λi hi=>by rw[if_neg ()]
   rw[this,dQ];grind
  .rw[if_neg e,ih ()];grind
theorem qn9 (m p r:Nat)(hp:p < m)(hr:r < m)(F:Nat->Rat):(rs m λi=>F (sw p r i))=rs m F:=by
 by_cases e:p=r
 .subst e;exact aK λi _=>by
   congr 1;unfold sw
   by_cases h:i=p
   .rw[if_pos h,h]
   .rw[if_neg h,if_neg h]
 have:(rs m λi=>F (sw p r i))=rs m λi=>F i+((if i=r then F p - F r else 0)+(if i=p then F r - F p else 0)):=aK λi _=>by
  unfold sw
  by_cases h1:i=r
  .rw[if_pos h1,if_pos h1,if_neg (),h1];grind
  .rw[if_neg h1,if_neg h1]
   by_cases h2:i=p
   .rw[if_pos h2,if_pos h2,h2];grind
   .rw[if_neg h2,if_neg h2];grind
 rw[this,eH,eH,mU m r _ hr,mU m p _ hp];grind
structure LI (m:Nat) (Aq:Mat) (R:List (List Int)):Prop where
 lin:∀i x,i < m->x < m->at2 R i x=rs m λk=>at2 R i (m+k)*Aq k x
 ind:∀lam:Nat->Rat,(∀j,j < m->(rs m λi=>lam i*at2 R i (m+j))=0)->∀i,i < m->lam i=0
theorem Jf (hp:p < R.length)(hr:r < R.length)(i x:Nat):at2 (jB R p r) i x=at2 R (sw p r i) x:=by
 show ((((jB R p r).getD i []).getD x 0:Int):Rat)=_;rw[Jd hp hr];rfl
theorem LI.swap (h:LI m Aq R)(hl:R.length=m)(hp:p < m)(hr:r < m):LI m Aq (jB R p r) where
 lin:=λi x hi hx=>by
  rw[Jf () (),h.lin _ x (Nd hp hr hi) hx];exact aK λk _=>by rw[Jf () ()]
 ind:=λlam hz i hi=>by
  have:=h.ind (λi=>lam (sw p r i)) (λj hj=>by
   rw[<- hz j hj,<- qn9 m p r hp hr];exact aK λi _=>by
    show lam (sw p r (sw p r i))*_=_;rw[Zh,Jf () ()]) (sw p r i) (Nd hp hr hi)
  have e:lam (sw p r (sw p r i))=0:=this
  rwa [Zh] at e
theorem tZ (h:SI m w A0 R r col d sg)(hr:r < m)(hc:col < w)(he:ent R r col≠0)(hi:i < m)(x:Nat):
  at2 (cE R r col d) i x=if i=r then at2 R i x else (at2 R r col*at2 R i x - at2 R i col*at2 R r x) / (d:Rat):=by
 obtain⟨A,c,B,e⟩:=h.bar;have hl:=h.len;show ((((cE R r col d).getD i []).getD x 0:Int):Rat)=_;rw[nQ ()]
 by_cases hir:i=r
 .rw[if_pos hir,if_pos hir];rfl
 .rw[if_neg hir,if_neg hir];obtain⟨z,h1,h2,_⟩:=Ag h B hr hc he hi hir x;rw[h1,h2,mI _ hir]
theorem SI.dne (h:SI m w A0 R r col d sg):(d:Rat)≠0:=by
 obtain⟨A,c,B,e⟩:=h.bar;exact B.dne
theorem LI.clear (h:LI m Aq R)(s:SI m w A0 R r col d sg)(hr:r < m)(hc:col < w)(he:ent R r col≠0):LI m Aq (cE R r col d):=by
 have dn:=s.dne;have hn:at2 R r col≠0:=λz=>he (Rat.intCast_inj.mp (by unfold at2 at z;simpa using z));have cl:=λ(i:Nat) (hi:i < m) (x:Nat)=>tZ s hr hc he hi x;exists λi x hi hx=>?_,λlam hz i hi=>?_
 .rw[cl i hi x]
  by_cases e:i=r
  .rw[if_pos e,h.lin i x hi hx];exact aK λk _=>by rw[cl i hi,if_pos e]
  .rw[if_neg e,h.lin i x hi hx,h.lin r x hr hx];have:(rs m λk=>at2 (cE R r col d) i (m+k)*Aq k x)=rs m λk=>(at2 R r col / (d:Rat))*(at2 R i (m+k)*Aq k x)+(-(at2 R i col / (d:Rat)))*(at2 R r (m+k)*Aq k x):=aK λk _=>by rw[cl i hi,if_neg e];grind
   rw[this,eH,eQ,eQ];grind
 .-- the factors of the rows as they were
  have key:=h.ind (λi=>if i=r then lam r - (rs m λk=>if k=r then 0 else lam k*(at2 R k col / (d:Rat))) else lam i*(at2 R r col / (d:Rat))) (λj hj=>by
   have e0:=hz j hj;have e1:(rs m λi=>lam i*at2 (cE R r col d) i (m+j))=rs m λi=>(if i=r then lam r*at2 R r (m+j) else 0)+((if i=r then 0 else lam i*(at2 R r col / (d:Rat))*at2 R i (m+j))+(-(at2 R r (m+j)))*(if i=r then 0 else lam i*(at2 R i col / (d:Rat)))):=aK λi hi=>by
    rw[cl i hi]
    by_cases e:i=r
    .rw[if_pos e,if_pos e,if_pos e,if_pos e,e];grind
    .rw[if_neg e,if_neg e,if_neg e,if_neg e];grind
   rw[e1,eH,eH,eQ,mU m r _ hr] at e0;have e2:(rs m λi=>(if i=r then lam r - (rs m λk=>if k=r then 0 else lam k*(at2 R k col / (d:Rat))) else lam i*(at2 R r col / (d:Rat)))*at2 R i (m+j))=rs m λi=>(if i=r then (lam r - (rs m λk=>if k=r then 0 else lam k*(at2 R k col / (d:Rat))))*at2 R r (m+j) else 0)+(if i=r then 0 else lam i*(at2 R r col / (d:Rat))*at2 R i (m+j)):=aK λi _=>by
    by_cases e:i=r
    .rw[if_pos e,if_pos e,if_pos e,e];grind
    .rw[if_neg e,if_neg e,if_neg e];grind
   rw[e2,eH,mU m r _ hr];grind)
  have other:∀k,k < m->k≠r->lam k=0:=λk hk e=>by
   have:=key k hk;rw[if_neg e] at this;have n2:at2 R r col / (d:Rat)≠0:=λz=>hn (by grind);grind
  by_cases e:i=r
  .have:=key r hr;rw[if_pos rfl] at this;have z:(rs m λk=>if k=r then 0 else lam k*(at2 R k col / (d:Rat)))=rs m λ_=>0:=aK λk hk=>by
    by_cases e:k=r
    .rw[if_pos e]
    .rw[if_neg e,other k hk e];grind
   rw[z,dQ] at this;rw[e];grind
  .exact other i hi e
theorem LI.lame (h:LI m Aq R)(s:SI m w A0 R r m d sg)(hr:r < m):(∃k,k < m/\ent R (m - 1) (m+k)≠0)/\∀x,x < m->(rs m λk=>at2 R (m - 1) (m+k)*Aq k x)=0:=by
 obtain⟨A,c,B,e⟩:=s.bar;exists Classical.byContradiction λn=>?_,λx hx=>?_
 .have all:∀k,k < m->ent R (m - 1) (m+k)=0:=λk hk=>Classical.byContradiction λz=>n ⟨k,hk,z⟩;have:=h.ind (λi=>if i=m - 1 then 1 else 0) (λj hj=>by
   have:(rs m λi=>(if i=m - 1 then (1:Rat) else 0)*at2 R i (m+j))=rs m λ_=>0:=aK λi _=>by
    by_cases e:i=m - 1
    .rw[if_pos e,e];have:at2 R (m - 1) (m+j)=0:=by unfold at2;rw[all j hj];simp
     rw[this];grind
    .rw[if_neg e];grind
   rw[this,dQ]) (m - 1) ()
  rw[if_pos rfl] at this;grind
 .rw[<- h.lin (m - 1) x () hx];exact B.i3 (m - 1) x () () hx
end Mq
namespace PySem
open Sem (wp)
section
variable {prog:Program} {w:World} {A:Around} {E:Value->Shared->Prop} {h:Heap} {g:Array GenState} {d:Drawn} {t:Nat} {os:OsState}
variable {nm q:Str} {C N f:Addr} {bs bm bmB:List Value} {hdct:Bool} {sn:List Str} {sub:List Value} {ab:Bool} {col:Option Bool} {dd:Option Addr} {k0 k1 k2 k3 k5:Option Value} {B Bn newId nid initId inN:String} {bmN:List Value}
abbrev fP (h:Heap)(C:Addr)(rest:List Value):Heap:=(h.push { cls:=.type "tuple",data:=.seq rest.toArray }).push { cls:=.ref C,data:=.fields #[.ref h.objs.size,.none,.none,.none,.bool false,.none] }
theorem wM (Fn:ExcBaseFacts Bn newId inN bmN)(hBn:bmB.contains (.type Bn)=true)(F:ExcBaseFacts B nid initId bmB)(T:OwnTail h bmB bm)(hC:h.get? C=some (excClassObj nm q C N bs bm hdct sn sub ab col dd k0 k1 k2 k3 k5 newId))(hl:W.Looks (model prog w) h (typeLookup (.ref C) "__init__") (some (.ref f)))(hb:∀self,W.Looks (model prog w) h (bindSpecial (.ref f) self) (.ref f,[self]))(hq:wpAny (model prog w) A (call (.ref f) (.ref (h.objs.size+1) :: rest)) (λr s'=>r=.none/\Q (.done (.ret (.ref (h.objs.size+1)))) s') E ⟨fP h C rest,g,d,t,os⟩)(hrest:rest.length<=sizeLine):
  wpAny (model prog w) A (Builtin.«type.__call__» ⟨.ref C :: rest,[]⟩) Q E ⟨h,g,d,t,os⟩:=by
 repeat (first | with_reducible refine wpAny_loadPart_at hC ?_ | with_reducible refine wpAny_madeBy_exc hC ?_ | wp_step)
 refine codeAny_call_builtin_code (Code.quiet_builtin _ Fn.quiet) (wpAny_check_new_subU Fn hBn T hC ?_);refine codeAny_exc_new_subU Fn hBn F T hC ?_ hrest;show wpAny _ _ _ _ _ _;have k:∀b o,h.get? b=some o->(fP h C rest).get? b=some o:=λb o e=>Heap.get?_push_of_some _ (Heap.get?_push_of_some _ e);have hC₁:=k _ _ hC;have hget:(fP h C rest).get? (h.objs.size+1)=some { cls:=.ref C,data:=.fields #[.ref h.objs.size,.none,.none,.none,.bool false,.none] }:=by
  have:=Heap.get?_push_size (h.push { cls:=.type "tuple",data:=.seq rest.toArray }) (o:={ cls:=.ref C,data:=.fields #[.ref h.objs.size,.none,.none,.none,.bool false,.none] }) rfl
  rwa [Heap.size_push] at this
 have hcC:(Value.ref C :: bm).contains (.ref C)=true:=by simp
 unfold isInstance
 repeat (first | with_reducible refine wpAny_loadPart_at hget ?_ | (with_reducible refine wpAny_isSubtype_exc hC₁ ?_;rw[hcC]) | wp_step)
 show wpAny _ _ (typeLookup (.ref C) _) _ _ _;refine(hl.keeps k).here ?_;refine wpAny_holding (wpAny_bind (((hb _).keeps k).here ?_));refine wpAny_bind (wpAny_mono hq (λr s' z=>?_) λ_ _ z=>z);obtain⟨rfl,z⟩:=z;refine wpAny_pure ?_;exact wpAny_pure z
theorem Nv (Fn:ExcBaseFacts Bn newId inN bmN)(hBn:bmB.contains (.type Bn)=true)(F:ExcBaseFacts B nid initId bmB)(T:OwnTail h bmB bm)(hC:h.get? C=some (excClassObj nm q C N bs bm hdct sn sub ab col dd k0 k1 k2 k3 k5 newId))(hl:W.Looks (model prog w) h (typeLookup (.ref C) "__init__") (some (.ref f)))(hb:∀self,W.Looks (model prog w) h (bindSpecial (.ref f) self) (.ref f,[self]))(hq:wpAny (model prog w) (A.under (.builtin "type.__call__" ⟨.ref C :: rest,[]⟩)) (call (.ref f) (.ref (h.objs.size+1) :: rest)) (λr s'=>r=.none/\Q (.ref (h.objs.size+1)) s') E ⟨fP h C rest,g,d,t,os⟩)(hrest:rest.length<=sizeLine):
  wpAny (model prog w) A (call (.ref C) rest) Q E ⟨h,g,d,t,os⟩:=by
 have f1:=tc_lookup;have f2:=tc_bind (.ref C);have hT:(⟨h,g,d,t,os⟩:Shared).TypeIs (.ref C) "type":=⟨_,hC,rfl⟩
 refine wpAny_call (codeAny_of_tree ?_);show wpAny _ _ (callAny (.ref C) _) _ _ _
 repeat (any_goals (first | assumption | with_reducible refine wpAny_loadPart_at hC ?_ | wp_step))
 exists rfl,?_;refine codeAny_call_builtin_at (Code.quiet_builtin _ ∅) entry_typeCall (wpAny_check_type_call_sub hC (wM Fn hBn F T hC hl hb ?_ hrest));exact hq
end
section
variable {M:Model} {A:Around} {E:Value->Shared->Prop} {env:Env}
variable {nm q:Str} {C N:Addr} {bs bm:List Value} {hdct:Bool} {sn:List Str} {sub:List Value} {ab:Bool} {col:Option Bool} {dd:Option Addr} {k0 k1 k2 k3 k5:Option Value} {newId:String}
theorem iH (hbase:bm.contains (.type "BaseException")=true)(hh:A.handled=none)(h:wpAny M A x (λv s₁=>∃e t dx,v=.ref e/\s₁.heap.get? C=some (excClassObj nm q C N bs bm hdct sn sub ab col dd k0 k1 k2 k3 k5 newId)/\
   s₁.heap.get? e=some { cls:=.ref C,dict:=dx,data:=.fields #[.ref t,.none,.none,.none,.bool false,.none] }/\E (.ref e) s₁) E s):
  wpAny M A (raiseStmt env (some x) none) Q E s:=by
 have hcB:(Value.ref C :: bm).contains (.type "BaseException")=true:=by rw[contains_cons,hbase,Bool.or_true]
 unfold raiseStmt;refine wpAny_bind (wpAny_mono h (λv s₁ h₁=>?_) λ_ _ x=>x);obtain⟨e,t,dx,rfl,hC,he,hE⟩:=h₁;obtain⟨hp,g,d,tk,os⟩:=s₁
 repeat (first | with_reducible refine wpAny_loadPart_at he ?_ | with_reducible refine wpAny_loadPart_at hC ?_ | (with_reducible refine wpAny_isSubtype_exc hC ?_;rw[hcB]) | wp_step)
 exact wpAny_raiseNew_none hh hE
end
section
variable {prog:Program} {w:World} {A:Around} {E:Value->Shared->Prop} {s:Shared} {env:Env}
variable {nm q:Str} {C N f:Addr} {bs bm bmB:List Value} {hdct:Bool} {sn:List Str} {sub:List Value} {ab:Bool} {col:Option Bool} {dd:Option Addr} {k0 k1 k2 k3 k5:Option Value} {B Bn newId nid initId inN:String} {bmN:List Value}
theorem Jb (Fn:ExcBaseFacts Bn newId inN bmN)(hBn:bmB.contains (.type Bn)=true)(F:ExcBaseFacts B nid initId bmB)(hbase:bm.contains (.type "BaseException")=true)(hh:A.handled=none)(hplain:(backTo cpos (starEach args env)).any (·.1)=false)(h:wpAny (model prog w) A (eval (.Name x np) env) (λf' s₁=>f'=.ref C/\wpAny (model prog w) A (evalArgs (.ref C) true (backTo cpos (starEach args env)) [])
   (λa s₂=>a.kw=[]/\a.pos.length<=sizeLine/\s₂.heap.get? C=some (excClassObj nm q C N bs bm hdct sn sub ab col dd k0 k1 k2 k3 k5 newId)/\OwnTail s₂.heap bmB bm/\
    W.Looks (model prog w) s₂.heap (typeLookup (.ref C) "__init__") (some (.ref f))/\(∀self,W.Looks (model prog w) s₂.heap (bindSpecial (.ref f) self) (.ref f,[self]))/\
    wpAny (model prog w) (A.under (.builtin "type.__call__" ⟨.ref C :: a.pos,[]⟩)) (call (.ref f) (.ref (s₂.heap.objs.size+1) :: a.pos)) (λr s'=>r=.none/\∃t dx,s'.heap.get? C=some (excClassObj nm q C N bs bm hdct sn sub ab col dd k0 k1 k2 k3 k5 newId)/\
     s'.heap.get? (s₂.heap.objs.size+1)=some { cls:=.ref C,dict:=dx,data:=.fields #[.ref t,.none,.none,.none,.bool false,.none] }/\E (.ref (s₂.heap.objs.size+1)) s') E { s₂ with heap:=fP s₂.heap C a.pos }) E s₁) E s):
  wpAny (model prog w) A (exec (.Raise (some (.Call (.Name x np) args [] cpos)) none pos) env) Q E s:=by
 rw[arm_exec_Raise]
 first
  |refine wpAny_bind (wpAny_standAt (iH (C:=C) (nm:=nm) (q:=q) (N:=N) (bs:=bs) (bm:=bm) (hdct:=hdct) (sn:=sn) (sub:=sub) (ab:=ab) (col:=col) (dd:=dd) (k0:=k0) (k1:=k1) (k2:=k2) (k3:=k3) (k5:=k5) (newId:=newId) hbase hh (wpAny_bind (wpAny_mono (wpAny_Call_ofName (wpAny_mono h (λf s₁ h₁=>?_) λ_ _ x=>x)) (λv s₃ h₃=>wpAny_bind (wpAny_standAt (wpAny_pure h₃))) λ_ _ x=>x))))
  | (simp only[evalOpt,Option.map];refine wpAny_bind (wpAny_standAt (iH (C:=C) (nm:=nm) (q:=q) (N:=N) (bs:=bs) (bm:=bm) (hdct:=hdct) (sn:=sn) (sub:=sub) (ab:=ab) (col:=col) (dd:=dd) (k0:=k0) (k1:=k1) (k2:=k2) (k3:=k3) (k5:=k5) (newId:=newId) hbase hh (wpAny_bind (wpAny_mono (wpAny_Call_ofName (wpAny_mono h (λf s₁ h₁=>?_) λ_ _ x=>x)) (λv s₃ h₃=>wpAny_bind (wpAny_standAt (wpAny_pure h₃))) λ_ _ x=>x)))))
  | (refine wpAny_bind (wpAny_standAt (iH (C:=C) (nm:=nm) (q:=q) (N:=N) (bs:=bs) (bm:=bm) (hdct:=hdct) (sn:=sn) (sub:=sub) (ab:=ab) (col:=col) (dd:=dd) (k0:=k0) (k1:=k1) (k2:=k2) (k3:=k3) (k5:=k5) (newId:=newId) hbase hh ?_));refine wpAny_bind (wpAny_mono (wpAny_Call_ofName (wpAny_mono h (λf s₁ h₁=>?_) λ_ _ x=>x)) (λv s₃ h₃=>wpAny_bind (wpAny_standAt (wpAny_pure h₃))) λ_ _ x=>x))
 obtain⟨rfl,h₁⟩:=h₁;unfold callWith;refine wpAny_bind (wpAny_holding (wpAny_mono h₁ (λa s₂ h₂=>wpAny_bind (wpAny_standAt ?_)) λ_ _ x=>x));obtain⟨apos,akw⟩:=a;obtain⟨hkw,hlen,hC,T,hl,hb,h₂⟩:=h₂;obtain rfl:akw=[]:=hkw;obtain⟨hp,g,d,tk,os⟩:=s₂;simp only[hplain];refine wpAny_bind (wpAny_keeperOf_exc hC ?_);refine wpAny_bind (Nv Fn hBn F T hC hl hb (wpAny_mono h₂ (λr s' z=>?_) λ_ _ z=>z) hlen);obtain⟨rfl,t,dx,z1,z2,z3⟩:=z;exists rfl,wpAny_bind (wpAny_holding (wpAny_point (wpAny_pure ⟨_,t,dx,rfl,z1,z2,z3⟩)))
end
end PySem
namespace L2
open PySem PySem.Spec PyProof.Rows
def lU (a:Addr)(C:Value)(d:Option Addr):HO:=.ext λh=>∃t,h.get? a=some { cls:=C,dict:=d,data:=.fields #[.ref t,.none,.none,.none,.bool false,.none] }
theorem Cg (e:h.get? a=some { cls:=C,dict:=d,data:=.fields #[.ref t,.none,.none,.none,.bool false,.none] }):cY P w H h a (lU a C d):=
 ⟨⟨t,e⟩,⟨_,e⟩,λh1 h2 ⟨t',e'⟩ k=>⟨t',k _ e'⟩⟩
def oU (H:Hp)(x:Addr):Hp:=λb=>if b=x then none else H b
theorem kE (h:b≠x):oU H x b=H b:=by unfold oU;rw[if_neg h]
theorem Fd (H:Hp)(x:Addr):oU H x x=none:=by unfold oU;rw[if_pos rfl]
section
variable {X:Cx} {pins:List (Addr × Obj)} {σ:List (Option V)} {H:Hp} {s:Shared}
theorem Inv.forget (I:Inv X pins σ H s)(hx:H x=some (.ext φ)):Inv X pins σ (oU H x) s:=by
 have non:∀b,H b=none->oU H x b=none:=λb e=>by unfold oU;split;rfl;exact e
 have keep:∀b u,H b=some u->u≠.ext φ->oU H x b=some u:=λb u e n=>by
  have:b≠x:=λz=>by rw[z,hx] at e;cases e;exact n rfl
  rw[kE this];exact e
 exists I.ok,I.os,I.bare,⟨I.base.keep,I.base.slot,λb o e1 e2 e3=>non b (I.base.free b o e1 e2 e3),I.base.there,λb xs e=>keep b _ (I.base.tups b xs e) (λz=>by cases z),λb o u e=>keep b _ (I.base.frzs b o u e) (λz=>by cases z),λb ps e=>?_⟩,I.loc,I.cell,non _ I.free,λy c e=>non _ (I.freeC y c e),λp hp=>?_,λb u e=>?_,I.len
 .obtain⟨more,q⟩:=I.base.tbls b ps e;exists more,keep b _ q (λz=>by cases z)
 .obtain⟨a1,a2,a3⟩:=I.pin p hp;exists a1,non _ a2,a3
 .have ne:b≠x:=λz=>by rw[z,Fd] at e;cases e
  rw[kE ne] at e;exact(I.hok b u e).stay (λc v _ q=>q) (λc q=>keep c _ q (λz=>by cases z)) λc xs q=>keep c _ q (λz=>by cases z)
end
structure oX (K:Frag) (C C0 f:Addr):Prop where
 cls:∃(nm q:Str) (N:Addr) (bs:List Value) (sn:List Str) (sub:List Value) (ab:Bool) (col:Option Bool) (dd:Option Addr) (k0 k1 k2 k3 k5:Option Value),K.lookup C=some (excClassObj nm q C N bs (.ref C0 :: tQ) true sn sub ab col dd k0 k1 k2 k3 k5 "ValueError.__new__")
 base:∃(nm q:Str) (N:Addr) (bs:List Value) (hdct:Bool) (sn:List Str) (sub:List Value) (ab:Bool) (col:Option Bool) (dd:Option Addr) (k0 k1 k2 k3 k5:Option Value),K.lookup C0=some (excClassObj nm q C0 N bs tQ hdct sn sub ab col dd k0 k1 k2 k3 k5 "ValueError.__new__")
 exc:Ta K C0
 ini:W.findIn K (.ref C) "__init__"=some (some (.ref f))
 fn:W.typeIn K (.ref f)=some (.type "function")
theorem oX.tail {K:Frag}(e:oX K C C0 f)(X:K.In h):OwnTail h tQ (.ref C0 :: tQ):=by
 obtain⟨nm,q,N,bs,hdct,sn,sub,ab,col,dd,k0,k1,k2,k3,k5,l⟩:=e.base;have z:=e.exc;unfold Ta W.excIn at z;rw[l] at z;simp only[Bool.and_eq_true,beq_iff_eq,Bool.not_eq_true'] at z;obtain⟨⟨⟨⟨_,_⟩,ht⟩,hok⟩,hni⟩:=z;exact .own (X _ _ l) (.of_isNs (W.isNs_of_in X hok)) (W.nsMap_none_of_in X hok hni) .base
section
variable {X:Cx} {pins:List (Addr × Obj)} {σ:List (Option V)} {H:Hp} {s:Shared} {k:Nat} {f C C0:Addr} {fd:FuncData} {ps:List Str} {sp:Sp}
def Wl (C:Addr)(sp:Sp)(E:XK)(ta:TA):TS:=λ_ σ H=>ta σ H λvs H1=>vs.length<=sizeLine/\∀x,H1 x=none->sp (.ref x :: vs) (upd H1 x (lU x (.ref C) none)) (λv H2=>v=.non/\∃dx,H2 x=some (lU x (.ref C) dx)/\E (.ref C) dx (oU H2 x)) E0
theorem yB (fm:Frm X)(xo:Vv X E)(hc:X.calm=true)(hg:Gl X x)(hm:X.mg x=some (.ref C))(q:oX X.K C C0 f)(F:aJ X.prog X.w X.K X.mg X.base CX0 k f fd ps sp)(hr:gR (k+1) X.A)(hb:aL X.K fd ps [])(ha:PA X (e₀ :: es) ta)(hdb:(x == ("__debug__":Str))=false:=by decide)(he:starEach (e₀ :: es) X.env=(false,eval e₀ X.env) :: starEach es X.env:=by rfl)(hpl:(backTo cpos (starEach es X.env)).any (·.1)=false:=by rfl):
  PS X (.Raise (some (.Call (.Name x np) (e₀ :: es) [] cpos)) none pos) (Wl C sp E ta):=by
 intro pins s σ H D I h;obtain⟨nm,qn,N,bs,sn,sub,ab,col,dd,k0,k1,k2,k3,k5,lC⟩:=q.cls;have FB:=PySem.F.excBase_ValueError;have T:=q.tail I.mod.kin;refine Jb (C:=C) (f:=f) (nm:=nm) (q:=qn) (N:=N) (bs:=bs) (bm:=.ref C0 :: tQ) (hdct:=true) (sn:=sn) (sub:=sub) (ab:=ab) (col:=col) (dd:=dd) (k0:=k0) (k1:=k1) (k2:=k2) (k3:=k3) (k5:=k5)
  FB ∅ FB (T.hasType FB.hasBase) (I.ok.hd hc) (by rw[he];show (false || (backTo cpos (starEach es X.env)).any (·.1))=false;rw[hpl];rfl) (jS I hg hm ⟨rfl,?_⟩ hdb)
 have ha':=ha cpos pins s σ H _ I h;rw[he] at ha' ⊢;refine Calls.evalArgs_plain (wpAny_mono ha' (λus s2 h2=>?_) λ_ _ y=>y);obtain⟨vs,H1,I1,r,hz,q1⟩:=h2;have kIn:=I1.kIn;exists rfl,by rw[<- r.length];exact hz,kIn _ _ lC,q.tail kIn,W.looks_findIn kIn q.ini,λself=>W.bind_fn kIn self q.fn,?_;dsimp only;have kh:∀b o,s2.heap.get? b=some o->(fP s2.heap C us).get? b=some o:=λb o e=>Heap.get?_push_of_some _ (Heap.get?_push_of_some _ e);have hget:(fP s2.heap C us).get? (s2.heap.objs.size+1)=some { cls:=.ref C,data:=.fields #[.ref s2.heap.objs.size,.none,.none,.none,.bool false,.none] }:=by
  have:=Heap.get?_push_size (s2.heap.push { cls:=.type "tuple",data:=.seq us.toArray }) (o:={ cls:=.ref C,data:=.fields #[.ref s2.heap.objs.size,.none,.none,.none,.bool false,.none] }) rfl
  rwa [Heap.size_push] at this
 have fr:H1 (s2.heap.objs.size+1)=none:=I1.hok.fresh (Nat.le_succ _);have I2:Inv X pins σ (upd H1 (s2.heap.objs.size+1) (lU (s2.heap.objs.size+1) (.ref C) none)) { s2 with heap:=fP s2.heap C us }:=
  I1.laid (t':=s2.toks) kh (Nat.le_succ _) (Cg hget)
 have hq:=q1 _ fr;have rv:cA (V.ref (s2.heap.objs.size+1) :: vs) (Value.ref (s2.heap.objs.size+1) :: us):=.cons rfl r;have hl:(Value.ref (s2.heap.objs.size+1) :: us++[]).length=ps.length:=by
  have e:=rv.length;rw[F.len _ _ _ _ hq] at e;rw[append_nil];exact e.symm
 refine wpAny_call (codeAny_mono (F.run _ X.stack _ _ ⟨Value.ref (s2.heap.objs.size+1) :: us,[]⟩ (Value.ref (s2.heap.objs.size+1) :: us) _ _ E0 (hr.make C us []) (I2.env0.make C us []) (by have:=hb _ (Value.ref (s2.heap.objs.size+1) :: us) I2.kIn hl;rwa [append_nil] at this) rv hq) λres s' hq'=>?_)
 cases res with
 |error e=>exact(show False from hq').elim
 |ok fl=>
  cases fl with
  |ret u=>
   obtain⟨v,H',os,bare,un,hok,rvu,ev,dx,ex,q3⟩:=hq';subst ev;have J:Inv X pins σ H' s':=I2.call' (ch:=[]) os un hok bare λb z=>absurd z ⋯;obtain⟨⟨t,ht⟩,_⟩:=(show cY X.prog X.w H' s'.heap _ (lU _ (.ref C) dx) from J.hok _ _ ex)
   exists rvu,t,dx,J.kIn _ _ lC,ht,?_;refine xo pins σ _ s' _ (.ref C) dx ⟨J.forget ex,s2.heap,λp hp z=>?_,λb o e=>I1.base.there b o e (by rw[fm.ex];simp),λb o e=>un.there b o (kh b o e) ⋯,⟨Jw (Nat.le_succ _),Fd _ _,_,_,.none,ht,rfl,rfl,rfl,rfl,.inl rfl⟩⟩ q3;rw[(I1.pin p hp).1] at z;cases z
  |next=>exact False.elim hq'
  |brk=>exact False.elim hq'
  |cont=>exact False.elim hq'
end
theorem qe2 (h:H a=some o):upd H a o=H:=by
 funext b
 by_cases e:b=a
 .rw[e,aB,h]
 .rw[aU e]
section
variable {X:Cx} {C C0 f:Addr}
theorem Al:kI X (.builtin "ValueError.__init__") (λxs H Q=>∃a C C0 f d v,xs=[.ref a,v]/\H a=some (lU a (.ref C) d)/\oX X.K C C0 f/\Q .non H):=by
 intro pins s σ H xs us Q I r h;obtain⟨a,C,C0,f,d,v,rfl,ea,q,hq⟩:=h;obtain⟨u1,us',rfl,r1,r2⟩:∃u1 us',us=u1 :: us'/\cL (.ref a) u1/\cA [v] us':=by cases r with | cons p q=>exact⟨_,_,rfl,p,q⟩
 obtain rfl:u1=Value.ref a:=r1;obtain⟨⟨t,he⟩,_⟩:=(show cY X.prog X.w H s.heap a (lU a (.ref C) d) from I.hok a _ ea)
 obtain⟨nm,qn,N,bs,sn,sub,ab,col,dd,k0,k1,k2,k3,k5,lC⟩:=q.cls;have FB:=PySem.F.excBase_ValueError;have T:=q.tail I.kIn;have hl:us'.length=1:=r2.length.symm;have hC:=I.kIn _ _ lC;have fin:∀s',s'={ s with heap:=(s.heap.push { cls:=.type "tuple",data:=.seq us'.toArray }).update a (Obj.mapFields (·.setIfInBounds 0 (.ref s.heap.objs.size))) }->EP X pins σ Q .none s':=by
  rintro s' rfl;have I1:Inv X pins σ H { s with heap:=s.heap.push { cls:=.type "tuple",data:=.seq us'.toArray } }:=I.kept (t':=s.toks) λb o e=>Heap.get?_push_of_some _ e;have he1:=Heap.get?_push_of_some (h:=s.heap) { cls:=.type "tuple",data:=.seq us'.toArray } he;have e2:=Heap.get?_update_self (Obj.mapFields (·.setIfInBounds 0 (.ref s.heap.objs.size))) he1 rfl;have I2:=I1.write (x:=a) (e:=a) (t':=s.toks) (o:=lU a (.ref C) d) (by rw[ea];exact True.intro) (.inl rfl) (λb u nb e=>(Heap.get?_update_other _ _ (Ne.symm nb)).trans e) ⟨_,e2⟩ (Cg (t:=s.heap.objs.size) e2);rw[qe2 ea] at I2;exists .non,H,I2,rfl,hq
 obtain⟨hp,g,dr,tk,os⟩:=s;refine wpAny_call (codeAny_call_builtin FB.init.plain FB.initEntry (wpAny_check_init_subU FB T hC he rfl ?_));unfold Builtin.«BaseException.__init__»;dsimp only;rw[if_neg ⋯];unfold newTuple Builtin.BaseException.bexcPut;have he₁:=Heap.get?_push_of_some (h:=hp) { cls:=.type "tuple",data:=.seq us'.toArray } he;refine wpAny_bind (wpAny_newObj_type (wpAny_bind (wpAny_bind (wpAny_field he₁ rfl rfl (wpAny_bind (wpAny_setField he₁ rfl (show 0 < 6 by decide) ?_))))) (by show us'.toArray.size<=sizeLine;rw[size_toArray,hl];decide));exact wpAny_letGo (wpAny_pure (fin _ rfl))
structure Xt (K:Frag) (C0:Addr):Prop where
 sp:W.specialIn K (.ref C0) "__getattribute__"=some (some (.builtin "type.__getattribute__"))
 rd:W.readsIn K C0 (.type "type")=true
 fi:W.findCls K (.ref C0) (.type "type") "__init__"=some (.val (.builtin "ValueError.__init__"))
def Ug (K:Frag)(ta:TA):TE:=λσ H Q=>ta σ H λvs H1=>∃a C C0 f d v,vs=[.ref a,v]/\H1 a=some (lU a (.ref C) d)/\oX K C C0 f/\Q .non H1
theorem vE (hg:Gl X x)(hm:X.mg x=some (.ref C0))(c:Xt X.K C0)(ha:PA X (e :: es) t)(hdb:(x == ("__debug__":Str))=false:=by decide)(hst:starEach (e :: es) X.env=(false,eval e X.env) :: starEach es X.env:=by rfl)(hpl:(backTo pos (starEach es X.env)).any (·.1)=false:=by rfl)(ht:eval (.Call (.Attribute (.Name x np) "__init__" apos) (e :: es) [] pos) X.env=(do
   let ov <- eval (.Name x np) X.env
   standAt apos.atName
   let (f,first) <- holding [ov] (getMethod ov "__init__" pl)
   callWith pos f first (backTo pos (starEach (e :: es) X.env)) (backToKw pos (keywordEach [] X.env))):=by rfl):
  PE X (.Call (.Attribute (.Name x np) "__init__" apos) (e :: es) [] pos) (Ug X.K t):=by
 intro pins s σ H Q I h;refine W.methodCall_KW (pl:=pl) (jS I hg hm ?_ hdb) ht;refine W.method_cls I.kIn c.sp (W.cls_value I.kIn c.rd c.fi rfl ?_);have I':Inv X pins σ H { s with toks:=s.toks+1 }:=I.tok _;exact PyProof.Rows.callWith_builtin1 (thn (ha pos pins _ σ H _ I' h) λus s1 ⟨vs,H1,I1,r1,q1⟩=>Al pins s1 σ H1 vs us Q I1 r1 q1) hst hpl
end
section
variable {prog:Program} {w:World} {A:Around} {E:Value->Shared->Prop} {s:Shared} {K:Frag} {x C C0 f:Addr} {name:Str} {v:Value} {vs:Array Value}
theorem oX.cin (q:oX K C C0 f):∃cd,W.clsIn K C=some cd/\cd.mro=.ref C :: .ref C0 :: tQ/\cd.hasDict=true:=by
 obtain⟨nm,qn,N,bs,sn,sub,ab,col,dd,k0,k1,k2,k3,k5,lC⟩:=q.cls;unfold W.clsIn;rw[lC];exists _,rfl,rfl,rfl
theorem Vt (X:K.In s.heap)(q:oX K C C0 f)(hx:s.heap.get? x=some { cls:=.ref C,data:=.fields vs })(hs:W.findIn K (.ref C) "__setattr__"=some (some (.builtin "object.__setattr__")))(hn:W.findIn K (.ref C) name=some none)(h:∀h',h'.get? x=some { cls:=.ref C,dict:=some s.heap.objs.size,data:=.fields vs }->h'.Ns1 s.heap.objs.size (λy=>if y=name then some v else none)->(∀b o,b≠x->s.heap.get? b=some o->h'.get? b=some o)->∀tk,Q .unit { s with heap:=h',toks:=tk }):
  wpAny (model prog w) A (setAttr (.ref x) name v) Q E s:=by
 have J:W.InstAt s.heap x { cls:=.ref C,data:=.fields vs } C none:=⟨hx,rfl,rfl,trivial⟩
 have SF:=PySem.F.store_object;have SV:=PySem.F.store_ValueError;obtain⟨cd,hc,hm,hd⟩:=q.cin;refine W.set_plain X J hs ?_;have sub:W.Looks (model prog w) s.heap (isInstance (.ref x) (.type "object")) true:=J.type.andThen (W.looks_mroIn X (by unfold W.mroIn;rw[hc,Option.bind_some,hm];rfl));refine codeAny_call_builtin SF.slot.plain SF.entry (@W.check_slot (model prog w) _ _ { s with toks:=s.toks+1 } "object.__setattr__" "object" "__setattr__" (.ref x) [.str name s.toks,v] [] _ SF.kind SF.split sub (SF.args (.ref x) (.str name s.toks) v) ?_);have hmro:W.Looks (model prog w) s.heap (mroOf (.ref C)) cd.mro:=(W.looks_clsIn X hc).andThen .now;rw[W.osa_eq,refuse_eq];refine wpAny_bind (wpAny_bind (W.Looks.here (s:={ s with toks:=s.toks+1 }) J.type (wpAny_bind (W.Looks.here (s:={ s with toks:=s.toks+1 }) hmro ?_))));rw[hm,refuseLoop_ref,refuseLoop_ref,SV.passes];refine wpAny_pure (wpAny_bind (W.Looks.here (s:={ s with toks:=s.toks+1 }) J.type (wpAny_bind (W.Looks.here (s:={ s with toks:=s.toks+1 }) (W.looks_findIn X hn) (wpAny_bind (wpAny_pure ?_))))));dsimp only;refine wpAny_bind (wpAny_pure (wpAny_bind (wpAny_bind (wpAny_loadPart hx (wpAny_bind (W.Looks.here (s:={ s with toks:=s.toks+1 }) (W.looks_clsIn X hc) ?_))))));rw[hd,if_neg ∅];dsimp only;rw[if_neg (by simp[typeHasDict])];have hx₁:(s.heap.push { cls:=.type "dict",data:=.dict #[] }).get? x=some { cls:=.ref C,data:=.fields vs }:=Heap.get?_push_of_some _ hx;have hxs:x≠s.heap.objs.size:=Nat.ne_of_lt (Heap.lt_size hx);refine wpAny_bind (wpAny_alloc' ?_);refine wpAny_bind (wpAny_update' hx₁ ?_);refine wpAny_pure ?_;have hgd:((s.heap.push { cls:=.type "dict",data:=.dict #[] }).update x λo=>{ cls:=o.cls,dict:=some s.heap.objs.size,data:=o.data,slots:=o.slots }).get? s.heap.objs.size
   = some { cls:=.type "dict",data:=.dict #[] }:=
  (Heap.get?_update_ne _ _ _ _ hxs.symm).trans (Heap.get?_push_at rfl rfl)
 have hnd:((s.heap.push { cls:=.type "dict",data:=.dict #[] }).update x λo=>{ cls:=o.cls,dict:=some s.heap.objs.size,data:=o.data,slots:=o.slots }).Ns s.heap.objs.size (λ_=>none):=
  ⟨_,#[],_,hgd,rfl,λe he=>absurd he ⋯,λ_=>rfl⟩
 show wpAny _ _ (Builtin.ObjectAttr.storeInDict s.heap.objs.size (.str name s.toks) name v) _ _ _;unfold Builtin.ObjectAttr.storeInDict Builtin.ObjectAttr.newKeyGuard;refine wpAny_bind (wpAny_pure (wpAny_bind (wpAny_nsSet1 (Heap.Ns1.of_empty hnd) λh' hn' hs'=>?_)));obtain⟨oD,esD,epD,hoD,hdD,hcD⟩:=hn'.count (Within.cons name v Within.nil);refine wpAny_bind (wpAny_lookBehind hoD (by rw[hdD];exact pastItsLine_dict (Nat.le_trans hcD (by rw[length_cons,length_nil,sizeLine_eq];lia))) ?_);refine wpAny_pure ?_;refine h h' ?_ ?_ (λb o nb e=>(hs'.2 b (Nat.ne_of_lt (Heap.lt_size e))).trans ((Heap.get?_update_ne _ _ _ _ nb).trans (Heap.get?_push_of_some _ e))) _
 .exact(hs'.2 x hxs).trans (Heap.get?_update_self _ hx₁ rfl)
 .exact hn'
end
section
variable {X:Cx} {o value:Expr} {nm:Str} {pos pos':Pos} {ta tv:TE}
structure Ui (K:Frag) (C:Addr) (nm:Str):Prop where
 sa:W.findIn K (.ref C) "__setattr__"=some (some (.builtin "object.__setattr__"))
 no:W.findIn K (.ref C) nm=some none
def qk2 (K:Frag)(ta tv:TE)(nm:Str):TS:=λD σ H=>tv σ H λy H1=>ta σ H1 λx H2=>∃a C C0 f,x=.ref a/\H2 a=some (lU a (.ref C) none)/\oX K C C0 f/\Ui K C nm/\
 ∀dx,H2 dx=none->D.nx σ (upd (upd H2 dx (.xd [(nm,y)])) a (lU a (.ref C) (some dx)))
theorem Kt (ha:PE X o ta)(hv:PE X value tv)(hs:swapsWith value (some (.Attribute o nm pos')) pos.line X.env=pure false):PS X (.Assign [.Attribute o nm pos'] value pos) (qk2 X.K ta tv nm):=by
 intro pins s σ H D I h;refine plainObj_wpAny_Assign_Attribute (thn (hv pins s σ H _ I h) λu s1 ⟨y,H1,I1,ry,q⟩=>thn (ha pins s1 σ H1 _ I1 q) λov s2 ⟨x,H2,I2,rx,a,C,C0,f,ex,ea,qi,qf,q2⟩=>?_) hs;subst ex;obtain rfl:ov=Value.ref a:=rx;obtain⟨⟨t,he⟩,_⟩:=(show cY X.prog X.w H2 s2.heap a (lU a (.ref C) none) from I2.hok a _ ea)
 refine Vt I2.kIn qi he qf.sa qf.no λh' e1 e2 e3 tk=>?_;have fr:H2 s2.heap.objs.size=none:=I2.hok.fresh (Nat.le_refl _);exists σ,_,?_,q2 _ fr;have na:a≠s2.heap.objs.size:=Nat.ne_of_lt (Heap.lt_size he);have u1:=Heap.get?_update_self (λ_:Obj=>({ cls:=.ref C,data:=.fields #[.ref t,.none,.none,.none,.bool false,.none] }:Obj)) e1 rfl;have u2:∀b,b≠a->(h'.update a λ_:Obj=>({ cls:=.ref C,data:=.fields #[.ref t,.none,.none,.none,.bool false,.none] }:Obj)).get? b=h'.get? b:=λb nb=>Heap.get?_update_other _ _ (Ne.symm nb);generalize h'.update a (λ_:Obj=>({ cls:=.ref C,data:=.fields #[.ref t,.none,.none,.none,.bool false,.none] }:Obj))=h1 at u1 u2;have I3:Inv X pins σ (upd H2 s2.heap.objs.size (.xd [(nm,y)])) { s2 with heap:=h1,toks:=s2.toks }:=by
  refine I2.laid (a:=s2.heap.objs.size) (o:=.xd [(nm,y)]) (h':=h1) (t':=s2.toks) (λb u e=>?_) (Nat.le_refl _) ?_
  .by_cases nb:b=a
   .subst nb;rw[he] at e;cases e;exact u1
   .rw[u2 b nb];exact e3 b u nb e
  .obtain⟨od,es,ep,z1,z2⟩:=e2;exists _,⟨od,es,ep,(u2 _ (Ne.symm na)).trans z1,z2⟩,λg=>?_
   by_cases gg:g=nm
   .subst gg;rw[if_pos rfl,lookup_cons,beq_self_eq_true];exact ry
   .have:(g == nm)=false:=beq_eq_false_iff_ne.mpr gg;rw[if_neg gg,lookup_cons,this];exact True.intro
 have ea3:upd H2 s2.heap.objs.size (.xd [(nm,y)]) a=some (lU a (.ref C) none):=by rw[aU na];exact ea
 exact I3.write (x:=a) (e:=a) (h':=h') (t':=tk) (by rw[ea3];exact True.intro) (.inl rfl) (λb u nb z=>by rw[<- u2 b nb];exact z) ⟨_,e1⟩ (Cg e1)
end
section
variable {X:Cx} {o:Expr} {nm:Str} {pos:Pos} {ta:TE}
inductive Tu (K:Frag) (nm:Str) (Q:VK) (x:V) (H1:Hp):Prop where
 |mk (a C dx fs v):x=.ref a->H1 a=some (Ay a (.ref C) (some dx))->H1 dx=some (.xd fs)->Wg K C->W.hasDictIn K C=true->W.findIn K (.ref C) nm=some none->fs.lookup nm=some v->Q v H1->Tu K nm Q x H1
def Ym (K:Frag)(ta:TE)(nm:Str):TE:=λσ H Q=>ta σ H λx H1=>Tu K nm Q x H1
theorem Yg (he:PE X o ta)(hb:attributeBase o nm X.env (eval o X.env)=eval o X.env):PE X (.Attribute o nm pos) (Ym X.K ta nm):=by
 intro pins s σ H Q I h;refine Lb hb (thn (he pins s σ H _ I h) λu s1 ⟨x,H1,I1,rx,a,C,dx,fs,v,ex,ea,ed,k,hh,hn,l,q⟩=>?_);subst ex;obtain rfl:u=Value.ref a:=rx;obtain⟨⟨ob,vs,h1,h2,h3,h4⟩,_⟩:=(show cY X.prog X.w H1 s1.heap a (Ay a (.ref C) (some dx)) from I1.hok a _ ea)
 obtain⟨mA,N1,r⟩:=(show cY X.prog X.w H1 s1.heap dx (.xd fs) from I1.hok dx _ ed)
 obtain⟨w',hw,rw'⟩:=jZ.some_of (v:=v) (o:=mA nm) (by rw[<- l];exact r nm);obtain⟨od,ho,hl⟩:=yA N1;have J:W.InstAt s1.heap a ob C (some od):=⟨h1,h2,by unfold W.notCls;rw[h4],by rw[h3];exact ho⟩
 unfold getAttr;refine wpAny_bind (wpAny_mkText (qe7 (s:={ s1 with toks:=s1.toks+1 }) k I1.kIn J (yN rw') (.inl (W.findObj_own hh hn rfl (by rw[hl,hw]))) ?_));exists v,H1,I1.tok _,rw',q
end
end L2
namespace Shp
open PySem L2
inductive Fmd (K:Frag) (H0:Hp) (D:Addr) (H:Hp):List V->List (List Mq.Q2)->Prop where
 |nil:Fmd K H0 D H [] []
 |cons {u:Addr} {xs:List V} {ps:List Mq.Q2} {us:List V} {X:List (List Mq.Q2)} (n0:H0 u=none) (ne:u≠D) (h:H u=some (.lst xs)) (f:Fqs K H xs ps) (q:Fmd K H0 D H us X):Fmd K H0 D H (.ref u :: us) (ps :: X)
theorem Fmd.length:∀{xs:List V} {X:List (List Mq.Q2)},Fmd K H0 D H xs X->xs.length=X.length
 |_,_,.nil=>rfl
 |_,_,.cons _ _ _ _ q=>by rw[length_cons,length_cons,q.length]
def dU (X:List (List Mq.Q2)):Mat:=λi j=>Mq.val ((X.getD i []).getD j Mq.z0)
def nW (m i:Nat)(row:List Mq.Q2):List Int:=iw row++(List.range m).map λc=>if c=i then cQ row else 0
def kJ (X:List (List Mq.Q2)):List (List Int):=X.mapIdx λi row=>nW X.length i row
theorem Ss (X:List (List Mq.Q2)):(kJ X).length=X.length:=by unfold kJ;simp
theorem wR (h:i < X.length):(kJ X).getD i []=nW X.length i (X.getD i []):=by
 unfold kJ;rw[getD_eq_getElem?_getD,getElem?_mapIdx,getD_eq_getElem?_getD,getElem?_eq_getElem h];rfl
theorem xQ {X:List (List Mq.Q2)}(h:i < X.length):X[i]?=some (X.getD i []):=by rw[getD_eq_getElem?_getD,getElem?_eq_getElem h];rfl
theorem Ed (m i:Nat)(row:List Mq.Q2):(nW m i row).length=row.length+m:=by unfold nW;simp[rB]
theorem xW (hX:hV X)(hw:∀row∈X,row.length=X.length)(hi:i < X.length)(hx:x < X.length):Mq.at2 (kJ X) i x=((cQ (X.getD i []):Int):Rat)*dU X i x:=by
 have mem:=mem_of_getElem? (xQ hi);show ((((kJ X).getD i []).getD x 0:Int):Rat)=_;rw[wR hi];unfold nW;have l:=hw _ mem;rw[getD_eq_getElem?_getD,getElem?_append_left (by rw[rB];lia),<- getD_eq_getElem?_getD];exact zD (hX _ mem) ()
theorem wN (hw:∀row∈X,row.length=X.length)(hi:i < X.length)(hk:k < X.length):ent (kJ X) i (X.length+k)=if k=i then cQ (X.getD i []) else 0:=by
 have mem:=mem_of_getElem? (xQ hi);unfold ent;rw[wR hi];unfold nW;have l:=hw _ mem;rw[getD_eq_getElem?_getD,getElem?_append_right (by rw[rB];lia),rB,l,Nat.add_sub_cancel_left,getElem?_map,getElem?_range hk];rfl
theorem Xl (hX:hV X)(hw:∀row∈X,row.length=X.length):Mq.LI X.length (dU X) (kJ X) where
 lin:=λi x hi hx=>by
  rw[xW hX hw hi hx];have:(Mq.rs X.length λk=>Mq.at2 (kJ X) i (X.length+k)*dU X k x)=Mq.rs X.length λk=>if k=i then ((cQ (X.getD i []):Int):Rat)*dU X i x else 0:=aK λk hk=>by
   show ((ent (kJ X) i (X.length+k):Int):Rat)*_=_;rw[wN hw hi hk]
   by_cases e:k=i
   .rw[if_pos e,if_pos e,e]
   .rw[if_neg e,if_neg e];simp
  rw[this,Mq.mU _ _ _ hi]
 ind:=λlam hz i hi=>by
  have e:=hz i hi;have:(Mq.rs X.length λj=>lam j*Mq.at2 (kJ X) j (X.length+i))=Mq.rs X.length λj=>if j=i then lam i*((cQ (X.getD i []):Int):Rat) else 0:=aK λk hk=>by
   show _*((ent (kJ X) k (X.length+i):Int):Rat)=_;rw[wN hw hk hi]
   by_cases e:k=i
   .rw[if_pos e,if_pos e.symm,e]
   .rw[if_neg e,if_neg (Ne.symm e)];simp
  rw[this,Mq.mU _ _ _ hi] at e;have g:=jU (hX _ (mem_of_getElem? (xQ hi)));have n:=cH (show cQ (X.getD i [])≠0 by lia);grind
theorem Xc (h:∀i j,i < X.length->j < X.length->Mq.at2 R i j=((cQ (X.getD i []):Int):Rat)*dU X i j):Mq.det X.length (Mq.at2 R)=((xS X:Int):Rat)*wgt X:=by
 unfold wgt;have hb:=yH X X.length (Nat.le_refl _);rw[take_length] at hb;rw[hb,<- rZ];exact cP λi j hi hj=>h i j hi hj
theorem Sc (hX:hV X)(hR:Mq.det X.length (Mq.at2 R)=((xS X:Int):Rat)*wgt X)(h:SI X.length w (Mq.at2 R) R' r X.length d sg):(r < X.length/\wgt X=0)\/(r=X.length/\wgt X≠0):=by
 have b1:=Kp hX X.length (Nat.le_refl _);rw[take_length] at b1;have bn:=cH (show xS X≠0 by lia);obtain⟨A,c,B,e⟩:=h.bar;have rm:=B.rm;have dn:=B.dne;clear B
 by_cases hr:r < X.length
 .left
  have e:=h.lame hr;rw[hR] at e;exists hr,by grind
 .right
  have er:r=X.length:=by lia
  subst er;exists rfl,λz=>?_;have e:=h.whole;rw[hR,z] at e;rcases h.one with q | q
  .rw[q] at e;simp at e;grind
  .rw[q,Rat.intCast_neg] at e;simp at e;grind
structure Stp (m w:Nat) (A0:Mat) (Pr:List (List Int)->Prop):Prop where
 sw:∀R r col d sg p,SI m w A0 R r col d sg->r < p->p < m->Pr R->Pr (jB R p r)
 cl:∀R r col d sg,SI m w A0 R r col d sg->r < m->col < w->ent R r col≠0->Pr R->Pr (cE R r col d)
theorem qd4:Stp m w A0 (Mq.LI m Aq):=
 ⟨λR r col d sg p s h1 h2 h=>h.swap s.len h2 (),λR r col d sg s h1 h2 h3 h=>h.clear s h1 h2 h3⟩
inductive Ht (K:Frag) (vs:List V) (H:Hp) (Q:VK) (E:XK):Prop where
 |mk (l:Addr) (ts:List Int) (pv:Int) (n:Nat):vs=[.ref l,.int pv]->SqL K H l (ts.map V.int)->ts.length<=100->pv≠0->Mq.B n pv->n<=9000->(∀l' zs H',aP H H'->H l'=none->H' l'=some (.lst zs)->Fqs K H' zs (ts.map λt=>red t pv)->Q (.ref l') H')->Ht K vs H Q E
end Shp
namespace L2
open PySem
theorem Dj (h:X.K=K):SlR X (qc9 K):=by subst h;exact kP
theorem El (h:X.K=K)(he:PE X o ta)(hb:attributeBase o nm X.env (eval o X.env)=eval o X.env):PE X (.Attribute o nm pos) (Ym K ta nm):=by subst h;exact Yg he hb
end L2
namespace Mq
theorem vV:∀l:List Rat,jF l=rs l.length λj=>l.getD j 0
 | []=>rfl
 |x :: l=>by
  rw[length_cons,wK];show x+jF l=_;rw[vV l];rfl
def pp (m x:Q2):Q2:=(m.1*x.1,m.2*x.2)
theorem qb9 (h1:1<=m.2)(h2:1<=x.2):val (pp m x)=val m*val x:=by
 have a1:=cH (show m.2≠0 by lia);have a2:=cH (show x.2≠0 by lia);unfold pp val;show ((m.1*x.1:Int):Rat) / ((m.2*x.2:Int):Rat)=_;rw[Rat.intCast_mul,Rat.intCast_mul];grind
theorem Gp (hm:Pos ms)(hx:Pos xs):Pos (zipWith pp ms xs):=λp hp=>by
 obtain⟨i,hi,rfl⟩:=getElem_of_mem hp;rw[getElem_zipWith];have h1:i < ms.length:=by simp at hi;lia
 have h2:i < xs.length:=by simp at hi;lia
 have:0 < ms[i].2*xs[i].2:=Int.mul_pos (by have:=hm _ (getElem_mem h1);lia) (by have:=hx _ (getElem_mem h2);lia);show 1<=ms[i].2*xs[i].2;lia
theorem Qj {row:List Q2}(h:j < row.length):row[j]?=some (row.getD j z0):=by rw[getD_eq_getElem?_getD,getElem?_eq_getElem h];rfl
theorem Tt (hm:Pos ms)(hx:Pos xs)(hl:xs.length=ms.length)(hq:Low q)(h:(rs ms.length λj=>val (ms.getD j z0)*val (xs.getD j z0))=val q):N (zipWith pp ms xs)*q.2=q.1*D (zipWith pp ms xs):=by
 have e:tot (zipWith pp ms xs)=q:=by
  refine qS (zU (Gp hm hx)) hq ?_;rw[Kn (Gp hm hx),vV,<- h];have ll:((zipWith pp ms xs).map val).length=ms.length:=by simp[hl]
  rw[ll];refine aK λj hj=>?_;rw[getD_eq_getElem?_getD,getElem?_map,getElem?_zipWith,Qj hj,Qj (show j < xs.length by lia)];exact qb9 (vO hm j) (vO hx j)
 have c:=(Nb (Gp hm hx)).symm;rw[e] at c;exact c
theorem Wa {ps:List Q2}(h:ps[i]?=some p):N (ps.take (i+1))=N (ps.take i)*p.2+p.1*D (ps.take i)/\D (ps.take (i+1))=D (ps.take i)*p.2:=by
 have ee:ps.take (i+1)=ps.take i++[p]:=by rw[take_add_one,h];rfl
 rw[ee,qo7,Yl];simp only[N,D];exists ?_,?_
 .grind
 .grind
end Mq
namespace Shp
open PySem L2
theorem Fmd.get:∀{xs:List V} {X:List (List Mq.Q2)} {i:Nat} {x:V},Fmd K H0 D H xs X->xs[i]?=some x->∃u ys ps,x=.ref u/\X[i]?=some ps/\H0 u=none/\u≠D/\H u=some (.lst ys)/\Fqs K H ys ps
 |_,_,0,_,.cons n0 n h f q,e=>by simp at e;exists _,_,_,e.symm,rfl,n0,n,h,f
 |_,_,i+1,_,.cons n0 n h f q,e=>by simp at e;exact q.get e
inductive wD (K:Frag) (vs:List V) (H:Hp) (Q:VK) (E:XK):Prop where
 |mk (a o d:Addr) (xs ys:List V) (ms ps:List Mq.Q2) (q:Mq.Q2) (n n':Nat):vs=[.ref a,.ref o,.ref d]->SqL K H a xs->Fqs K H xs ms->SqL K H o ys->Fqs K H ys ps->Fq K H d q->(∀p∈ms,Mq.Bd n p)->(∀p∈ps,Mq.Bd n' p)->Mq.Bd 9000 q->ms.length<=10->n<=10000->n'<=10000->ps.length=ms.length->Mq.N (zipWith Mq.pp ms ps)*q.2=q.1*Mq.D (zipWith Mq.pp ms ps)->(∀H',aP H H'->Q (.bl true) H')->wD K vs H Q E
end Shp
namespace Mq
def KI (m:Nat)(A0:Mat)(R:List (List Int)):Prop:=∀Φ,Lin Φ->(∀k,k < m->Φ (at2 R k)=0)->∀i,i < m->Φ (A0 i)=0
theorem KI.clear (h:KI m A1 R)(s:SI m w A0 R r col d sg)(hr:r < m)(hc:col < w)(he:ent R r col≠0):KI m A1 (cE R r col d):=λΦ lin hz=>by
 have dn:=s.dne;have hn:at2 R r col≠0:=λz=>he (Rat.intCast_inj.mp (by unfold at2 at z;simpa using z));have cl:=λ(i:Nat) (hi:i < m) (x:Nat)=>tZ s hr hc he hi x;have zr:Φ (at2 R r)=0:=by
  have e:at2 R r=at2 (cE R r col d) r:=by funext x;rw[cl r hr x,if_pos rfl]
  rw[e];exact hz r hr
 refine h Φ lin λk hk=>?_
 by_cases e:k=r
 .rw[e];exact zr
 .have e2:at2 R k=λx=>(λx=>((d:Rat) / at2 R r col)*at2 (cE R r col d) k x) x+(at2 R k col / at2 R r col)*at2 R r x:=by
   funext x
   show _=((d:Rat) / at2 R r col)*at2 (cE R r col d) k x+_;rw[cl k hk x,if_neg e];grind
  rw[e2,lin,lin.mul,hz k hk,zr];grind
theorem KI.whole (h:KI m A1 R)(s:SI m w A0 R m m d sg)(hi:i < m):(rs m λk=>A1 i k*(at2 R k m / (d:Rat)))=A1 i m:=by
 obtain⟨A,c,B,e⟩:=s.bar;have dn:=B.dne;have:=h (λf=>(rs m λk=>f k*(at2 R k m / (d:Rat))) - f m) (λx y l=>by
  have:(rs m λk=>(x k+l*y k)*(at2 R k m / (d:Rat)))=(rs m λk=>x k*(at2 R k m / (d:Rat))+l*(y k*(at2 R k m / (d:Rat)))):=aK λk _=>by grind
  show (rs m λk=>(x k+l*y k)*(at2 R k m / (d:Rat))) - (x m+l*y m)=((rs m λk=>x k*(at2 R k m / (d:Rat))) - x m)+l*((rs m λk=>y k*(at2 R k m / (d:Rat))) - y m)
  rw[this,eH,eQ];grind) (λk hk=>by
  have:(rs m λj=>at2 R k j*(at2 R j m / (d:Rat)))=rs m λj=>if j=k then (d:Rat)*(at2 R k m / (d:Rat)) else 0:=aK λj hj=>by
   have i2:=B.i2 k j hk hj;rw[B.full rfl j hj] at i2;rw[i2]
   by_cases z:j=k
   .rw[if_pos z,if_pos z,z]
   .rw[if_neg z,if_neg z];grind
  show (rs m λj=>at2 R k j*(at2 R j m / (d:Rat))) - at2 R k m=0;rw[this,mU m k _ hk];grind) i hi
 have e2:(rs m λk=>A1 i k*(at2 R k m / (d:Rat))) - A1 i m=0:=this;grind
end Mq
namespace Shp
open PySem L2
def sP (X:List (List Mq.Q2))(qs:List Mq.Q2):List (List Mq.Q2):=zipWith (λrow q=>row++[q]) X qs
def iD (X:List (List Mq.Q2))(qs:List Mq.Q2):List (List Int):=(sP X qs).map iw
section
variable {X:List (List Mq.Q2)} {qs:List Mq.Q2}
theorem pV (hl:qs.length=X.length):(sP X qs).length=X.length:=by unfold sP;simp[hl]
theorem Dv (hl:qs.length=X.length):(iD X qs).length=X.length:=by unfold iD;rw[length_map,pV hl]
theorem lZ (hl:qs.length=X.length)(hi:i < X.length):(sP X qs).getD i []=X.getD i []++[qs.getD i Mq.z0]:=by
 unfold sP;rw[getD_eq_getElem?_getD,getElem?_zipWith,xQ hi,Mq.Qj (show i < qs.length by lia)];rfl
theorem wP (hl:qs.length=X.length)(hi:i < X.length):(iD X qs).getD i []=iw (X.getD i []++[qs.getD i Mq.z0]):=by
 unfold iD;rw[getD_eq_getElem?_getD,getElem?_map,xQ (X:=sP X qs) (by rw[pV hl];exact hi),lZ hl hi];rfl
theorem Ak (hX:hV X)(hq:Mq.Pos qs)(hl:qs.length=X.length)(hi:i < X.length):Mq.Pos (X.getD i []++[qs.getD i Mq.z0]):=λp hp=>by
 rcases mem_append.mp hp with z | z
 .exact hX _ (mem_of_getElem? (xQ hi)) p z
 .have e:p=qs.getD i Mq.z0:=by simpa using z
  rw[e];exact Mq.vO hq i
theorem Ao (hX:hV X)(hq:Mq.Pos qs)(hl:qs.length=X.length)(hw:∀row∈X,row.length=X.length)(hi:i < X.length)(hx:x < X.length+1):
  Mq.at2 (iD X qs) i x=((cQ ((sP X qs).getD i []):Int):Rat)*if x < X.length then dU X i x else Mq.val (qs.getD i Mq.z0):=by
 have l:=hw _ (mem_of_getElem? (xQ hi));show ((((iD X qs).getD i []).getD x 0:Int):Rat)=_;rw[wP hl hi,lZ hl hi,zD (Ak hX hq hl hi) (by rw[List.length_append,l];simpa using hx)];congr 1
 by_cases h:x < X.length
 .rw[if_pos h,getD_eq_getElem?_getD,getElem?_append_left (by rw[l];exact h),<- getD_eq_getElem?_getD];rfl
 .have ex:x=X.length:=by lia
  rw[if_neg h,getD_eq_getElem?_getD,getElem?_append_right (by rw[l];lia),l,ex,Nat.sub_self];rfl
end
structure Slv (X:List (List Mq.Q2)) (qs ps:List Mq.Q2):Prop where
 len:ps.length=X.length
 low:nB ps
 bd:∀p∈ps,Mq.Bd 9000 p
 sum:∀i,i < X.length->(Mq.rs X.length λj=>dU X i j*Mq.val (ps.getD j Mq.z0))=Mq.val (qs.getD i Mq.z0)
theorem qf3 (hX:hV X)(hq:Mq.Pos qs)(hl:qs.length=X.length)(hw:∀row∈X,row.length=X.length)(h:Mq.KI X.length (Mq.at2 (iD X qs)) R)(s:SI X.length w (Mq.at2 (iD X qs)) R X.length X.length d sg)(hi:i < X.length):(Mq.rs X.length λj=>dU X i j*(Mq.at2 R j X.length / (d:Rat)))=Mq.val (qs.getD i Mq.z0):=by
 have e:=h.whole s hi;rw[Ao hX hq hl hw hi (),if_neg ()] at e;have e2:(Mq.rs X.length λk=>Mq.at2 (iD X qs) i k*(Mq.at2 R k X.length / (d:Rat)))=((cQ ((sP X qs).getD i []):Int):Rat)*Mq.rs X.length λk=>dU X i k*(Mq.at2 R k X.length / (d:Rat)):=by
  rw[<- eQ];refine aK λk hk=>?_;rw[Ao hX hq hl hw hi (),if_pos hk];grind
 rw[e2] at e;have g:=jU (Ak hX hq hl hi);have n:=cH (show cQ ((sP X qs).getD i [])≠0 by rw[lZ hl hi];lia);grind
end Shp
namespace Mq
def Wb (n:Nat)(x:Rat):Prop:=∃z:Int,x=(z:Rat)/\B n z
theorem Wb.mono (h:Wb n x)(l:n<=m):Wb m x:=by obtain⟨z,e,b⟩:=h;exists z,e,b.mono l
theorem Wb.mul (h:Wb n x)(k:Wb m y):Wb (n+m) (x*y):=by
 obtain⟨a,rfl,b⟩:=h;obtain⟨c,rfl,d⟩:=k;exists a*c,by rw[Rat.intCast_mul],b.mul d
theorem Wb.sub (h:Wb n x)(k:Wb n y):Wb (n+1) (x - y):=by
 obtain⟨a,rfl,b⟩:=h;obtain⟨c,rfl,d⟩:=k;exists a - c,by rw[Rat.intCast_sub],b.sub d
theorem Wb.neg (h:Wb n x):Wb n (-x):=by
 obtain⟨a,rfl,b⟩:=h;exists -a,by rw[Rat.intCast_neg],b.neg
theorem Wb.zero (n:Nat):Wb n 0:=⟨0,⋯,Nat.two_pow_pos _⟩
theorem Wb.one:Wb 1 1:=⟨1,⋯,show (1:Nat) < 2 ^ 1 by decide⟩
theorem Wb.sgn (h:Wb n x)(k:Nat):Wb n (Mq.sgn k*x):=by
 unfold Mq.sgn;split
 .rw[show (1:Rat)*x=x by grind];exact h
 .rw[show (-1:Rat)*x=-x by grind];exact h.neg
theorem Zf:∀K,(∀k,k < K->Wb n (f k))->∃z:Int,rs K f=(z:Rat)/\z.natAbs+K<=K*2 ^ n
 |0,_=>⟨0,by simp only[rs];simp,⋯⟩
 |K+1,h=>by
  obtain⟨z,e,b⟩:=Zf K λk hk=>h k ();obtain⟨y,e2,b2⟩:=h K ();exists z+y,by simp only[rs];rw[e,e2,Rat.intCast_add],?_;have:y.natAbs < 2 ^ n:=b2;rw[Nat.succ_mul];lia
def SB (n m:Nat)(R:List (List Int))(r col:Nat)(d:Int):Prop:=∃A c,Bar m A (at2 R) r col (d:Rat) c/\∀i x,i < m->Wb n (A i x)
theorem SB.start (hb:BdR n R):SB n m R 0 0 1:=
 ⟨at2 R,id,by
  have:=Bar.start (m:=m) (A:=at2 R) λi j=>⟨_,rfl⟩
  simpa using this,λi x _=>⟨ent R i x,rfl,hb i x⟩⟩
theorem SB.clear (h:SB n m R r col d)(s:SI m w A0 R r col d sg)(hr:r < m)(hc:col < w)(he:ent R r col≠0):SB n m (cE R r col d) (r+1) (col+1) (ent R r col):=by
 obtain⟨A,c,B,q⟩:=h;have heq:at2 R r col≠0:=λz=>he (Rat.intCast_inj.mp (by unfold at2 at z;simpa using z));exists A,_,(B.clear hr heq).congr λi hi=>?_,q
 funext x
 rw[tZ s hr hc he hi x];unfold clr
 by_cases e:i=r
 .rw[if_pos e,if_pos e,e]
 .rw[if_neg e,if_neg e]
end Mq
namespace Shp
open PySem L2
abbrev bq (n m:Nat):Nat:=(n+4)*(m+1)+7
end Shp
namespace L2
open PySem PyProof.Rows
theorem aJ.calm {K:Frag}(F:aJ P w K mg base (CX1 P w) k f fd ps sp):
  aJ P w K mg base CX0 k f fd ps (λvs H Q _=>sp vs H Q (λ_ _ _=>False)):=
 ⟨λvs H Q E q=>F.len vs H Q _ q,λA outer s H args us vs Q E hr he hb hv hs=>codeAny_mono (F.run A outer s H args us vs Q _ hr he hb hv hs) λr s' h=>by
  cases r with
  |ok fl=>cases fl<;>exact h
  |error e=>
   obtain⟨a,C,d,H',_,_,_,_,_,_,z⟩:=h;exact z.elim⟩
open PySem.Spec
theorem aJ.weak {K:Frag}(F:aJ P w K mg base CX k f fd ps sp)(h:∀vs H Q E,sp' vs H Q E->sp vs H Q E):aJ P w K mg base CX k f fd ps sp':=
 ⟨λvs H Q E q=>F.len vs H Q E (h _ _ _ _ q),λA outer s H args us vs Q E hr he hb hv hs=>F.run A outer s H args us vs Q E hr he hb hv (h _ _ _ _ hs)⟩
abbrev gQ (m i j:Int):Prop:=0<=i/\i < m/\0<=j/\j < m
inductive Zv (K:Frag) (H:Hp):V->Option Mq.Q2->Prop where
 |fr {u:Addr} {p:Mq.Q2} (h:Fq K H u p) (l:Low p):Zv K H (.ref u) (some p)
 |ty {v:V} {t:Value} (h:TyQ K H v t) (n:W.kitOne K t (.type "tuple")=some false):Zv K H v none
 |len {u:Addr} {x y z:V} (h:SqT K H u [x,y,z]):Zv K H (.ref u) none
 |n0 {u:Addr} {x y:V} {t:Value} (h:SqT K H u [x,y]) (ty:kD K H x t) (n:qD t):Zv K H (.ref u) none
 |n1 {u:Addr} {i:Int} {y:V} {t:Value} (h:SqT K H u [.int i,y]) (ty:kD K H y t) (n:qD t):Zv K H (.ref u) none
 |fb {u:Addr} {p:Mq.Q2} (h:Fq K H u p) (c:p.2 < 1\/(1<=p.2/\gc p.1 p.2≠1)):Zv K H (.ref u) none
inductive Jl (K:Frag) (vs:List V) (H:Hp) (Q:VK) (E:XK):Prop where
 |mk (v:V) (o:Option Mq.Q2):vs=[v]->Zv K H v o->Q (.bl o.isSome) H->Jl K vs H Q E
inductive iR (CK:Kd->Addr) (K:Frag) (H:Hp):List V->List RD->Prop where
 |nil:iR CK K H [] []
 |cons {x z:Addr} {k:Kd} {i j:Int} {p:Mq.Q2} {xs:List V} {ds:List RD} (h:Rw CK H x k (.int i) (.int j) (.ref z)) (f:Fq K H z p) (q:iR CK K H xs ds):iR CK K H (.ref x :: xs) ((k,i,j,p) :: ds)
section
variable {CK:Kd->Addr} {K:Frag} {H H':Hp}
theorem iR.same (e:aP H H'):∀{xs:List V} {ds:List RD},iR CK K H xs ds->iR CK K H' xs ds
 |_,_,.nil=>.nil
 |_,_,.cons h f q=>.cons (h.same e) (e.fq f) (iR.same e q)
theorem iR.length:∀{xs:List V} {ds:List RD},iR CK K H xs ds->xs.length=ds.length
 |_,_,.nil=>rfl
 |_,_,.cons _ _ q=>by simp[iR.length q]
theorem iR.app:∀{xs ys:List V} {ds es:List RD},iR CK K H xs ds->iR CK K H ys es->iR CK K H (xs++ys) (ds++es)
 |_,_,_,_,.nil,r=>r
 |_,_,_,_,.cons h f q,r=>.cons h f (iR.app q r)
theorem iR.at:∀{xs:List V} {ds:List RD} {q:Nat} {d:RD},iR CK K H xs ds->ds[q]?=some d->∃x z,xs[q]?=some (.ref x)/\Rw CK H x d.1 (.int d.2.1) (.int d.2.2.1) (.ref z)/\Fq K H z d.2.2.2
 |_,_,_,_,.nil,h=>by simp at h
 |_,_,0,_,.cons h f _,e=>by simp at e;subst e;exists _,_,rfl,h,f
 |_,_,i+1,_,.cons _ _ q,e=>by simpa using iR.at q (by simpa using e)
theorem iR.upd (hl:H l=some (.lst ys)):∀{xs:List V} {ds:List RD},iR CK K H xs ds->iR CK K (L2.upd H l o) xs ds
 |_,_,.nil=>.nil
 |_,_,.cons (h:=h) f q=>by
  obtain⟨dx,e⟩:=h;exact .cons ⟨dx,by rw[aU (jG e hl (λz=>by cases z))];exact e⟩ (f.upd hl) (iR.upd hl q)
end
inductive wB (CN:Addr) (K:Frag) (CK:Kd->Addr) (vs:List V) (H:Hp) (Q:VK) (E:XK):Prop where
 |mk (n l:Addr) (m:Int) (ds:List RD):vs=[.ref n]->dR CN K H n l m ds->ds.length<=100->(∀a xs H',aP H H'->H a=none->H' a=some (.lst xs)->iR CK K H' xs ds->Q (.ref a) H')->wB CN K CK vs H Q E
end L2
namespace Mq
inductive Wt:List Q2->Nat->Prop where
 |nil:Wt [] 0
 |cons {p:Q2} {ps:List Q2} {n w:Nat} (h:Bd n p) (q:Wt ps w):Wt (p :: ps) (n+1+w)
theorem Wt.at:∀{ps:List Q2} {w i:Nat} {p:Q2},Wt ps w->ps[i]?=some p->∃w' n,Wt (ps.take i) w'/\Bd n p/\w' + n+1<=w
 |_,_,_,_,.nil,h=>by simp at h
 |_,_,0,_,.cons (n:=n) h q,e=>by
  simp at e;subst e;exists 0,n,.nil,h,()
 |_,_,i+1,_,.cons (n:=n) h q,e=>by
  obtain⟨w',n',a,b,c⟩:=Wt.at q (by simpa using e);exists n+1+w',n',.cons h a,b,()
theorem Wt.fold:∀{ps:List Q2} {w k:Nat} {p:Q2},Wt ps w->Pos ps->1<=p.2->Bd k p->Bd (k+w) (ps.foldl gS p)
 |_,_,_,_,.nil,_,_,h=>h
 |_,_,k,p,.cons (p:=q) (n:=n) (w:=w) h r,hp,p1,b=>by
  have q1:=hp q ⋯;have:=Wt.fold r (λx hx=>hp x (mem_cons_of_mem _ hx)) (jI p1 q1).pos (uH b h p1 q1);exact this.mono ()
theorem Wt.tot (h:Wt ps w)(hp:Pos ps):Bd (1+w) (tot ps):=h.fold hp ∅ ⟨show (0:Nat) < 2 ^ 1 by decide,show (1:Nat) < 2 ^ 1 by decide⟩
end Mq
namespace L2
open PySem PySem.Spec PyProof.Rows
abbrev RE:=RD × Mq.Q2
def qm7 (k:Kd)(l:List RD):List RD:=l.filter λd=>decide (d.1=k)
inductive Ie (K:Frag) (vs:List V) (H:Hp) (Q:VK) (E:XK):Prop where
 |mk (a:Addr) (xs:List V) (ps:List Mq.Q2) (w:Nat):vs=[.ref a]->SqL K H a xs->Fqs K H xs ps->Mq.Pos ps->Mq.Wt ps w->w+1<=9000->(∀r H',aP H H'->Fq K H' r (tot ps)->Q (.ref r) H')->Ie K vs H Q E
inductive Gm (K:Frag) (vs:List V) (H:Hp) (Q:VK) (E:XK):Prop where
 |mk (a b:Addr) (p q:Mq.Q2) (n m:Nat):vs=[.ref a,.ref b]->Fq K H a p->Fq K H b q->1<=p.2->1<=q.2->0 < q.1->Mq.Bd n p->Mq.Bd m q->n+m+1<=9000->xD H Q (tP p q)->Gm K vs H Q E
section
variable {m n:Nat} {hp:List Mq.Q2} {d:RD} {e:RE}
theorem Dl {ps:List Mq.Q2}(h:j < ps.length):ps[j]?=some (ps.getD j (0,1)):=by rw[getD_eq_getElem?_getD,getElem?_eq_getElem h];rfl
end
def rzl (ps:List Mq.Q2)(j:Nat)(a:Mq.Q2):List Mq.Q2:=ps.set j (gS (ps.getD j (0,1)) a)
def jX (M:List (List Mq.Q2))(i j:Nat):Mq.Q2:=(M.getD i []).getD j (0,1)
def rz (M:List (List Mq.Q2))(i j:Nat)(a:Mq.Q2):List (List Mq.Q2):=M.set i (rzl (M.getD i []) j a)
structure MxB (M:List (List Mq.Q2)) (h w n:Nat):Prop where
 h:M.length=h
 w:∀ps∈M,ps.length=w
 l:∀ps∈M,∀p∈ps,Low p/\Mq.Bd n p
theorem MxB.mono {h w n n':Nat}(b:MxB M h w n)(le:n<=n'):MxB M h w n':=⟨b.h,b.w,λps hp p hp'=>⟨(b.l ps hp p hp').1,(b.l ps hp p hp').2.mono le⟩⟩
theorem MxB.row {h w n i:Nat}(b:MxB M h w n)(hi:i < h):M[i]?=some (M.getD i [])/\M.getD i []∈M/\(M.getD i []).length=w:=by
 have hi':i < M.length:=by rw[b.h];exact hi
 have e:M.getD i []=M[i]:=by rw[getD_eq_getElem?_getD,getElem?_eq_getElem hi'];rfl
 rw[e];exists getElem?_eq_getElem hi',getElem_mem hi',b.w _ (getElem_mem hi')
theorem MxB.at {h w n i j:Nat}(b:MxB M h w n)(hi:i < h)(hj:j < w):(M.getD i [])[j]?=some (jX M i j)/\Low (jX M i j)/\Mq.Bd n (jX M i j):=by
 obtain⟨e,m,l⟩:=b.row hi;have hj':j < (M.getD i []).length:=by rw[l];exact hj
 have:=Dl hj';exists this,b.l _ m _ (mem_of_getElem? this)
theorem MxB.rz {h w n k i j:Nat}(b:MxB M h w n)(hi:i < h)(hj:j < w)(la:Low a)(ba:Mq.Bd k a):MxB (L2.rz M i j a) h w (n+k+1):=by
 obtain⟨e,m,l⟩:=b.row hi;obtain⟨e2,l2,b2⟩:=b.at hi hj;exists by unfold L2.rz;rw[length_set];exact b.h,λps hp=>?_,λps hp p hp'=>?_
 .rcases mem_or_eq_of_mem_set hp with z | z
  .exact b.w ps z
  .rw[z];unfold rzl;rw[length_set];exact l
 .rcases mem_or_eq_of_mem_set hp with z | z
  .have:=b.l ps z p hp';exists this.1,this.2.mono ()
  .rw[z] at hp';unfold rzl at hp';rcases mem_or_eq_of_mem_set hp' with y | y
   .have:=b.l _ m p y;exists this.1,this.2.mono ()
   .rw[y];exists jI l2.pos la.pos,uH b2 ba l2.pos la.pos
theorem Si (b:MxB M h w n)(hi:i < h)(hj:j < w)(la:Low a)(x y:Nat):Mq.val (jX (L2.rz M i j a) x y)=Mq.val (jX M x y)+if i=x/\j=y then Mq.val a else 0:=by
 obtain⟨e,m,l⟩:=b.row hi;obtain⟨e2,l2,b2⟩:=b.at hi hj;have hl:i < M.length:=by rw[b.h];exact hi
 unfold jX L2.rz
 by_cases c:i=x
 .subst c;have e3:(M.set i (rzl (M.getD i []) j a)).getD i []=rzl (M.getD i []) j a:=by rw[getD_eq_getElem?_getD,getElem?_set,if_pos rfl,if_pos hl];rfl
  rw[e3];unfold rzl
  by_cases d:j=y
  .subst d;have e4:((M.getD i []).set j (gS ((M.getD i []).getD j (0,1)) a)).getD j (0,1)=gS ((M.getD i []).getD j (0,1)) a:=by rw[getD_eq_getElem?_getD,getElem?_set,if_pos rfl,if_pos (by rw[l];exact hj)];rfl
   rw[e4,if_pos ⟨rfl,rfl⟩];exact vS l2.pos la.pos
  .have e4:((M.getD i []).set j (gS ((M.getD i []).getD j (0,1)) a)).getD y (0,1)=(M.getD i []).getD y (0,1):=by rw[getD_eq_getElem?_getD,getElem?_set,if_neg d,<- getD_eq_getElem?_getD]
   rw[e4,if_neg (λz=>d z.2),Rat.add_zero]
 .have e3:(M.set i (rzl (M.getD i []) j a)).getD x []=M.getD x []:=by rw[getD_eq_getElem?_getD,getElem?_set,if_neg c,<- getD_eq_getElem?_getD]
  rw[e3,if_neg (λz=>c z.1),Rat.add_zero]
structure LnB (R:List Mq.Q2) (w n:Nat):Prop where
 w:R.length=w
 l:∀p∈R,Low p/\Mq.Bd n p
theorem LnB.mono {w n n':Nat}(b:LnB R w n)(le:n<=n'):LnB R w n':=⟨b.w,λp hp=>⟨(b.l p hp).1,(b.l p hp).2.mono le⟩⟩
theorem LnB.at {w n j:Nat}(b:LnB R w n)(hj:j < w):R[j]?=some (R.getD j (0,1))/\Low (R.getD j (0,1))/\Mq.Bd n (R.getD j (0,1)):=by
 have hj':j < R.length:=by rw[b.w];exact hj
 have:=Dl hj';exists this,b.l _ (mem_of_getElem? this)
theorem LnB.set {w n j:Nat}(b:LnB R w n)(lq:Low q)(bq:Mq.Bd n q):LnB (R.set j q) w n:=⟨by rw[length_set];exact b.w,λp hp=>by
 rcases mem_or_eq_of_mem_set hp with z | z
 .exact b.l p z
 .rw[z];exact⟨lq,bq⟩⟩
theorem LnB.rz {w n k j:Nat}(b:LnB R w n)(hj:j < w)(la:Low a)(ba:Mq.Bd k a):LnB (rzl R j a) w (n+k+1):=by
 obtain⟨_,l2,b2⟩:=b.at hj;exact(b.mono ()).set (jI l2.pos la.pos) (uH b2 ba l2.pos la.pos)
theorem yD {R:List Mq.Q2}(hj:j < R.length):(R.set j q).getD y (0,1)=if j=y then q else R.getD y (0,1):=by
 rw[getD_eq_getElem?_getD,getElem?_set]
 by_cases e:j=y
 .rw[if_pos e,if_pos e,if_pos ()];rfl
 .rw[if_neg e,if_neg e,<- getD_eq_getElem?_getD]
theorem Lg (b:LnB R w n)(hj:j < w)(la:Low a)(y:Nat):Mq.val ((rzl R j a).getD y (0,1))=Mq.val (R.getD y (0,1))+if j=y then Mq.val a else 0:=by
 obtain⟨_,l2,b2⟩:=b.at hj;unfold rzl;rw[yD (by rw[b.w];exact hj)]
 by_cases d:j=y
 .subst d;rw[if_pos rfl,if_pos rfl];exact vS l2.pos la.pos
 .rw[if_neg d,if_neg d,Rat.add_zero]
def SX (as:List Addr)(H H':Hp):Prop:=∀b o,H b=some o->b∉as->H' b=some o
theorem aP.sx (s:aP H H'):SX as H H':=λb o e _=>s b o e
theorem SX.trans (a:SX as H H1)(b:SX as H1 H2):SX as H H2:=λc o h n=>b c o (a c o h n) n
theorem SX.write (a:SX as H H1)(hl:l∈as):SX as H (upd H1 l o):=λc u h n=>by rw[aU (λz=>n (by rw[z];exact hl))];exact a c u h n
theorem SX.mono (a:SX as H H')(h:∀x∈as,x∈bs):SX bs H H':=λc o e n=>a c o e λz=>n (h c z)
theorem SX.same (s:aP H0 H)(a:SX as H H')(h:∀x∈as,H0 x=none):aP H0 H':=λc o e=>a c o (s c o e) λz=>by rw[h c z] at e;cases e
def kQ (as:List Addr)(H:Hp):Prop:=∀a∈as,∃xs,H a=some (.lst xs)
theorem SX.seqT {K:Frag}(hl:kQ as H)(e:SX as H H')(h:SqT K H a xs):SqT K H' a xs:=by
 have nx:∀{o:HO},H a=some o->(∀ys,o≠.lst ys)->a∉as:=λho n z=>by
  obtain⟨ys,hy⟩:=hl a z;rw[hy] at ho;exact n ys (Option.some.inj ho).symm
 rcases h with (h | ⟨u,h⟩) | h
 .exact .inl (.inl (e _ _ h (nx h λys z=>by cases z)))
 .exact .inl (.inr ⟨u,e _ _ h (nx h λys z=>by cases z)⟩)
 .exact .inr h
theorem SX.rw (hl:kQ as H)(e:SX as H H')(h:Rw CK H x k s g z):Rw CK H' x k s g z:=by
 obtain⟨dx,q⟩:=h;exists dx,e _ _ q λy=>?_;obtain⟨ys,hy⟩:=hl x y;rw[hy] at q;cases q
theorem SX.fqs {K:Frag}(hl:kQ as H)(e:SX as H H'):∀{xs:List V} {ps:List Mq.Q2},Fqs K H xs ps->Fqs K H' xs ps
 |_,_,.nil=>.nil
 |_,_,.cons f q=>.cons (e.seqT hl f) (SX.fqs hl e q)
structure Mx (K:Frag) (H:Hp) (D:Addr) (as:List Addr) (M:List (List Mq.Q2)):Prop where
 d:H D=some (.lst (as.map V.ref))
 n:as.Nodup
 nd:D∉as
 la:as.length=M.length
 r:∀(i:Nat) (a:Addr) (ps:List Mq.Q2),as[i]?=some a->M[i]?=some ps->∃xs,H a=some (.lst xs)/\Fqs K H xs ps
theorem Mx.lsts {K:Frag}(m:Mx K H D as M):kQ as H:=λa ha=>by
 obtain⟨i,hi⟩:=getElem?_of_mem ha;have il:=(List.getElem?_eq_some_iff.mp hi).1;have il':i < M.length:=by rw[<- m.la];exact il
 obtain⟨xs,h,_⟩:=m.r i a M[i] hi (getElem?_eq_getElem il');exists xs,h
theorem Mx.same {K:Frag}(s:aP H H')(m:Mx K H D as M):Mx K H' D as M:=⟨s _ _ m.d,m.n,m.nd,m.la,λi a ps h1 h2=>by
 obtain⟨xs,h,f⟩:=m.r i a ps h1 h2;exact⟨xs,s _ _ h,f.same s⟩⟩
theorem Mx.set {K:Frag}(m:Mx K H D as M)(ha:as[i]?=some a)(hp:M[i]?=some ps)(hx:H a=some (.lst xs))(hF:Fqs K H xs ps)(s:aP H H1)(fv:Fq K H1 v q):Mx K (upd H1 a (.lst (xs.set j (.ref v)))) D as (M.set i (ps.set j q))/\SX as H (upd H1 a (.lst (xs.set j (.ref v)))):=by
 have ma:=mem_of_getElem? ha;have hx1:=s _ _ hx;have il:=(List.getElem?_eq_some_iff.mp ha).1;exists ⟨?_,m.n,m.nd,by rw[length_set];exact m.la,λk b qs h1 h2=>?_⟩,s.sx.write ma
 .rw[aU (λz=>m.nd (by rw[z];exact ma))];exact s _ _ m.d
 .rw[getElem?_set] at h2
  by_cases c:i=k
  .subst c;rw[ha] at h1;have h1:a=b:=Option.some.inj h1;subst h1;rw[if_pos rfl] at h2;split at h2
   .have h2:ps.set j q=qs:=Option.some.inj h2;rw[<- h2];exists _,aB,(Fqs.set fv j (hF.same s)).upd hx1
   .cases h2
  .rw[if_neg c] at h2;obtain⟨ys,hy,fy⟩:=m.r k b qs h1 h2;have nb:b≠a:=λz=>by
    subst z;have kl:=(List.getElem?_eq_some_iff.mp h1).1;have e1:as[i]'il=b:=(List.getElem?_eq_some_iff.mp ha).2;have e2:as[k]'kl=b:=(List.getElem?_eq_some_iff.mp h1).2;exact c ((getElem_inj m.n).mp (e1.trans e2.symm))
   exists ys,by rw[aU nb];exact s _ _ hy,(fy.same s).upd hx1
def jL (k:Kd):Nat:=if k=.ho then 1 else 0
def en (M:List (List Mq.Q2))(d:RD)(c:Nat)(a:Mq.Q2):List (List Mq.Q2):=rz (rz M d.2.1.toNat c a) d.2.2.1.toNat c (fZ (0,1) a)
def dl (s g x:Nat):Rat:=(if s=x then 1 else 0) - (if g=x then 1 else 0)
def cM (d:RD)(h x y:Nat):Rat:=match d.1 with
 | .pc=>dl d.2.1.toNat d.2.2.1.toNat x*dl d.2.1.toNat d.2.2.1.toNat y*(1 / Mq.val d.2.2.2)
 | .pu=>0
 | .ho=>dl d.2.1.toNat d.2.2.1.toNat x*(if h=y then 1 else 0)+(if h=x then 1 else 0)*dl d.2.1.toNat d.2.2.1.toNat y
def cR (d:RD)(h x:Nat):Rat:=match d.1 with
 | .pc=>0
 | .pu=>- dl d.2.1.toNat d.2.2.1.toNat x*Mq.val d.2.2.2
 | .ho=>if h=x then Mq.val d.2.2.2 else 0
def eqM:Nat->List RD->Nat->Nat->Rat
 |_,[],_,_=>0
 |h,d :: ds,x,y=>cM d h x y+eqM (h+jL d.1) ds x y
def eqR:Nat->List RD->Nat->Rat
 |_,[],_=>0
 |h,d :: ds,x=>cR d h x+eqR (h+jL d.1) ds x
def tK (ds:List RD):Nat:=(qm7 .ho ds).length
theorem Ex (d:RD)(ds:List RD):tK (d :: ds)=jL d.1+tK ds:=by
 unfold tK jL qm7
 by_cases h:d.1=.ho
 .rw[filter_cons_of_pos (by exact decide_eq_true h),if_pos h,length_cons];lia
 .rw[filter_cons_of_neg (by simp[h]),if_neg h];lia
theorem wS (d:RD)(x y:Nat):∀(ds:List RD) (h:Nat),eqM h (ds++[d]) x y=eqM h ds x y+cM d (h+tK ds) x y
 | [],h=>by show cM d h x y+0=0+cM d (h+0) x y;rw[Nat.add_zero];grind
 |e :: ds,h=>by
  show cM e h x y+eqM (h+jL e.1) (ds++[d]) x y=cM e h x y+eqM (h+jL e.1) ds x y+_;rw[wS d x y ds,Ex,Nat.add_assoc];grind
theorem wT (d:RD)(x:Nat):∀(ds:List RD) (h:Nat),eqR h (ds++[d]) x=eqR h ds x+cR d (h+tK ds) x
 | [],h=>by show cR d h x+0=0+cR d (h+0) x;rw[Nat.add_zero];grind
 |e :: ds,h=>by
  show cR e h x+eqR (h+jL e.1) (ds++[d]) x=cR e h x+eqR (h+jL e.1) ds x+_;rw[wT d x ds,Ex,Nat.add_assoc];grind
theorem rV (la:Low a)(ba:Mq.Bd k a):Low (fZ (0,1) a)/\Mq.Bd (k+2) (fZ (0,1) a)/\Mq.val (fZ (0,1) a)=- Mq.val a:=by
 have h01:1<=((0,1):Mq.Q2).2:=by decide
 have b01:Mq.Bd 1 (0,1):=⟨show (0:Nat) < 2 ^ 1 by decide,show (1:Nat) < 2 ^ 1 by decide⟩
 exists Mq.qW h01 la.pos,(Mq.Dg b01 ba h01 la.pos).mono (),?_;rw[oK h01 la.pos,Ku];grind
theorem Tr (b:MxB M h w n)(pt:gQ (h:Int) d.2.1 d.2.2.1)(hc:c < w)(la:Low a)(ba:Mq.Bd k a):MxB (en M d c a) h w (n+2*k+4)/\∀x y,Mq.val (jX (en M d c a) x y)=Mq.val (jX M x y)+dl d.2.1.toNat d.2.2.1.toNat x*(if c=y then 1 else 0)*Mq.val a:=by
 obtain⟨i0,i1,j0,j1⟩:=pt;obtain⟨ln,bn,vn⟩:=rV la ba;have b1:=b.rz (i:=d.2.1.toNat) () hc la ba;have b2:=b1.rz (i:=d.2.2.1.toNat) () hc ln bn;exists b2.mono (),λx y=>?_;unfold en;rw[Si b1 () hc ln,Si b () hc la,vn];unfold dl
 by_cases c1:d.2.1.toNat=x<;>by_cases c2:d.2.2.1.toNat=x<;>by_cases c3:c=y<;>simp only[c1,c2,c3,true_and,and_true,false_and,and_false,and_self,if_true,if_false]<;>grind
def pM (M:List (List Mq.Q2))(d:RD):List (List Mq.Q2):=en (en M d d.2.1.toNat (tP (1,1) d.2.2.2)) d d.2.2.1.toNat (fZ (0,1) (tP (1,1) d.2.2.2))
def pR (rs:List Mq.Q2)(d:RD):List Mq.Q2:=rzl (rzl rs d.2.1.toNat (fZ (0,1) d.2.2.2)) d.2.2.1.toNat d.2.2.2
theorem Pj:Mq.Bd 1 (1,1):=⟨show (1:Nat) < 2 ^ 1 by decide,show (1:Nat) < 2 ^ 1 by decide⟩
theorem h11:1<=((1,1):Mq.Q2).2:=by decide
theorem Et (l:Low p)(h0:0 < p.1)(b:Mq.Bd k p):Low (tP (1,1) p)/\Mq.Bd (k+1) (tP (1,1) p)/\Mq.val (tP (1,1) p)=1 / Mq.val p:=by
 exists Mq.Ty h11 (),(Mq.Vw Pj b h11 ()).mono (),?_;rw[Mq.Qi h11 l.pos (),Mq.qo9]
theorem qk4 {w n k m h:Nat}(b:MxB M w w n)(pt:gQ (m:Int) d.2.1 d.2.2.1)(hm:m<=w)(hk:d.1=.pc)(l:Low d.2.2.2)(h0:0 < d.2.2.2.1)(bk:Mq.Bd k d.2.2.2):MxB (pM M d) w w (n+4*k+20)/\∀x y,Mq.val (jX (pM M d) x y)=Mq.val (jX M x y)+cM d h x y:=by
 obtain⟨i0,i1,j0,j1⟩:=pt;obtain⟨ls,bs,vs⟩:=Et l h0 bk;obtain⟨ln,bn,vn⟩:=rV ls bs;have pt':gQ (w:Int) d.2.1 d.2.2.1:=⟨i0,(),j0,()⟩
 obtain⟨b1,v1⟩:=Tr b pt' (c:=d.2.1.toNat) () ls bs;obtain⟨b2,v2⟩:=Tr b1 pt' (c:=d.2.2.1.toNat) () ln bn;exists b2.mono (),λx y=>?_;unfold pM;rw[v2,v1,vn,vs];unfold cM;rw[hk];show _=_+dl d.2.1.toNat d.2.2.1.toNat x*dl d.2.1.toNat d.2.2.1.toNat y*(1 / Mq.val d.2.2.2)
 generalize 1 / Mq.val d.2.2.2=v;generalize dl d.2.1.toNat d.2.2.1.toNat x=u;unfold dl
 by_cases c1:d.2.1.toNat=y<;>by_cases c2:d.2.2.1.toNat=y<;>simp only[c1,c2,if_true,if_false]<;>grind
theorem ql4 {w n k m h:Nat}(b:LnB rs w n)(pt:gQ (m:Int) d.2.1 d.2.2.1)(hm:m<=w)(hk:d.1=.pu)(l:Low d.2.2.2)(bk:Mq.Bd k d.2.2.2):LnB (pR rs d) w (n+4*k+20)/\∀x,Mq.val ((pR rs d).getD x (0,1))=Mq.val (rs.getD x (0,1))+cR d h x:=by
 obtain⟨i0,i1,j0,j1⟩:=pt;obtain⟨ln,bn,vn⟩:=rV l bk;have b1:=b.rz (j:=d.2.1.toNat) () ln bn;have b2:=b1.rz (j:=d.2.2.1.toNat) () l bk;exists b2.mono (),λx=>?_;unfold pR;rw[Lg b1 () l,Lg b () ln,vn];unfold cR;rw[hk];show _=_ + - dl d.2.1.toNat d.2.2.1.toNat x*Mq.val d.2.2.2;unfold dl
 by_cases c1:d.2.1.toNat=x<;>by_cases c2:d.2.2.1.toNat=x<;>simp only[c1,c2,if_true,if_false]<;>grind
inductive uF (K:Frag) (vs:List V) (H:Hp) (Q:VK) (E:XK):Prop where
 |mk (l z:Addr) (j:Nat) (xs:List V) (ps:List Mq.Q2) (a:Mq.Q2) (n m:Nat):vs=[.ref l,.int (j:Int),.ref z]->H l=some (.lst xs)->Fqs K H xs ps->j < ps.length->1<=(ps.getD j (0,1)).2->Mq.Bd n (ps.getD j (0,1))->Fq K H z a->1<=a.2->Mq.Bd m a->n+m+1<=9000->(∀v H1,aP H H1->Fq K H1 v (gS (ps.getD j (0,1)) a)->Q .non (upd H1 l (.lst (xs.set j (.ref v)))))->uF K vs H Q E
inductive Bc (K:Frag) (CK:Kd->Addr) (vs:List V) (H:Hp) (Q:VK) (E:XK):Prop where
 |mk (D x z:Addr) (zz:V) (as:List Addr) (M:List (List Mq.Q2)) (d:RD) (w n k c:Nat) (a:Mq.Q2):vs=[.ref D,.ref x,.int (c:Int),.ref z]->Mx K H D as M->MxB M w w n->Rw CK H x d.1 (.int d.2.1) (.int d.2.2.1) zz->gQ (w:Int) d.2.1 d.2.2.1->c < w->Fq K H z a->Low a->Mq.Bd k a->n+2*k+4<=9000->(∀H',SX as H H'->Mx K H' D as (en M d c a)->Q .non H')->Bc K CK vs H Q E
inductive vT (K:Frag) (CK:Kd->Addr) (vs:List V) (H:Hp) (Q:VK) (E:XK):Prop where
 |mk (D x zz:Addr) (as:List Addr) (M:List (List Mq.Q2)) (d:RD) (w n k:Nat):vs=[.ref D,.ref x]->Mx K H D as M->MxB M w w n->Rw CK H x d.1 (.int d.2.1) (.int d.2.2.1) (.ref zz)->Fq K H zz d.2.2.2->gQ (w:Int) d.2.1 d.2.2.1->Low d.2.2.2->0 < d.2.2.2.1->Mq.Bd k d.2.2.2->n+4*k+20<=9000->(∀H',SX as H H'->Mx K H' D as (pM M d)->Q .non H')->vT K CK vs H Q E
inductive vG (K:Frag) (CK:Kd->Addr) (vs:List V) (H:Hp) (Q:VK) (E:XK):Prop where
 |mk (R x zz:Addr) (ys:List V) (rs:List Mq.Q2) (d:RD) (w n k:Nat):vs=[.ref R,.ref x]->H R=some (.lst ys)->Fqs K H ys rs->LnB rs w n->Rw CK H x d.1 (.int d.2.1) (.int d.2.2.1) (.ref zz)->Fq K H zz d.2.2.2->gQ (w:Int) d.2.1 d.2.2.1->Low d.2.2.2->Mq.Bd k d.2.2.2->n+4*k+20<=9000->(∀ys' H',SX [R] H H'->H' R=some (.lst ys')->Fqs K H' ys' (pR rs d)->Q .non H')->vG K CK vs H Q E
theorem fpl:¬(("places":Str) = "lines"):=by decide +kernel
theorem fpa:¬(("places":Str) = "arrivals"):=by decide +kernel
theorem fla:¬(("lines":Str) = "arrivals"):=by decide +kernel
def mL (p l a:Addr):List (Str × V):=dZ "arrivals" (.ref a) (dZ "lines" (.ref l) (dZ "places" (.ref p) []))
theorem zT (p l a:Addr):(mL p l a).lookup ("places":Str)=some (.ref p):=by
 unfold mL;rw[bL,if_neg fpa,bL,if_neg fpl,bL,if_pos rfl]
theorem uA (p l a:Addr):(mL p l a).lookup ("lines":Str)=some (.ref l):=by
 unfold mL;rw[bL,if_neg fla,bL,if_pos rfl]
theorem zW (p l a:Addr):(mL p l a).lookup ("arrivals":Str)=some (.ref a):=by
 unfold mL;rw[bL,if_pos rfl]
theorem fC (p l a:Addr){x:Str}(h1:¬x = "places")(h2:¬x = "lines")(h3:¬x = "arrivals"):(mL p l a).lookup x=none:=by
 unfold mL;rw[bL,if_neg h3,bL,if_neg h2,bL,if_neg h1];rfl
structure TB (K:Frag) (mg:Str->Option Value) (CT:Addr):Prop where
 cl:Cls K CT
 nP:hJ K CT "places"
 nL:hJ K CT "lines"
 nA:hJ K CT "arrivals"
 mT:mg "Table"=some (.ref CT)
structure Lns (K:Frag) (H:Hp) (us:List V) (X:List (List Mq.Q2)):Prop where
 l:us.length=X.length
 r:∀(i:Nat) (x:V) (ps:List Mq.Q2),us[i]?=some x->X[i]?=some ps->∃(a:Addr) (xs:List V),x=.ref a/\SqL K H a xs/\Fqs K H xs ps
theorem Lns.same {K:Frag}(e:aP H H')(h:Lns K H us X):Lns K H' us X:=⟨h.l,λi x ps h1 h2=>let ⟨a,xs,e1,e2,e3⟩:=h.r i x ps h1 h2;⟨a,xs,e1,e.seq e2,e3.same e⟩⟩
theorem Lns.nil {K:Frag}:Lns K H [] []:=⟨rfl,λi x ps h=>by simp at h⟩
theorem Lns.snoc {K:Frag}(f:Lns K H us X)(h:SqL K H a xs)(s:Fqs K H xs ps):Lns K H (us++[.ref a]) (X++[ps]):=by
 exists by rw[List.length_append,List.length_append,f.l];rfl,λi x qs h1 h2=>?_;have l:=f.l
 by_cases c:i < us.length
 .rw[getElem?_append_left c] at h1;rw[getElem?_append_left ()] at h2;exact f.r i x qs h1 h2
 .have hi:i=us.length:=by
   have:=(List.getElem?_eq_some_iff.mp h1).1;rw[List.length_append] at this;simp only[length_cons,length_nil] at this;lia
  subst hi;rw[getElem?_append_right (Nat.le_refl _),Nat.sub_self] at h1;rw[getElem?_append_right (),show us.length - X.length=0 by lia] at h2
  cases h1
  cases h2
  exists a,xs,rfl,h,s
theorem Lns.upd {K:Frag}{l:Addr}(f:Lns K H us X)(hl:H l=some (.lst ys))(n:∀x∈us,x≠.ref l):Lns K (upd H l o) us X:=⟨f.l,λi x st h1 h2=>by
 obtain⟨a,xs,e1,h,s⟩:=f.r i x st h1 h2;have na:a≠l:=λz=>n x (mem_of_getElem? h1) (by rw[e1,z]);exact⟨a,xs,e1,SqL.upd h na,s.upd hl⟩⟩
structure LnH (K:Frag) (H:Hp) (us:List V) (X:List (List Mq.Q2)):Prop where
 l:us.length=X.length
 r:∀(i:Nat) (x:V) (ps:List Mq.Q2),us[i]?=some x->X[i]?=some ps->∃(a:Addr) (xs:List V),x=.ref a/\H a=some (.lst xs)/\Fqs K H xs ps
theorem LnH.same {K:Frag}(e:aP H H')(h:LnH K H us X):LnH K H' us X:=⟨h.l,λi x ps h1 h2=>let ⟨a,xs,e1,e2,e3⟩:=h.r i x ps h1 h2;⟨a,xs,e1,e _ _ e2,e3.same e⟩⟩
theorem LnH.nil {K:Frag}:LnH K H [] []:=⟨rfl,λi x ps h=>by simp at h⟩
theorem LnH.snoc {K:Frag}(f:LnH K H us X)(h:H a=some (.lst xs))(s:Fqs K H xs ps):LnH K H (us++[.ref a]) (X++[ps]):=by
 exists by rw[List.length_append,List.length_append,f.l];rfl,λi x qs h1 h2=>?_;have l:=f.l
 by_cases c:i < us.length
 .rw[getElem?_append_left c] at h1;rw[getElem?_append_left ()] at h2;exact f.r i x qs h1 h2
 .have hi:i=us.length:=by
   have:=(List.getElem?_eq_some_iff.mp h1).1;rw[List.length_append] at this;simp only[length_cons,length_nil] at this;lia
  subst hi;rw[getElem?_append_right (Nat.le_refl _),Nat.sub_self] at h1;rw[getElem?_append_right (),show us.length - X.length=0 by lia] at h2
  cases h1
  cases h2
  exists a,xs,rfl,h,s
theorem LnH.upd {K:Frag}{l:Addr}(f:LnH K H us X)(hl:H l=some (.lst ys))(n:∀x∈us,x≠.ref l):LnH K (upd H l o) us X:=⟨f.l,λi x st h1 h2=>by
 obtain⟨a,xs,e1,h,s⟩:=f.r i x st h1 h2;have na:a≠l:=λz=>n x (mem_of_getElem? h1) (by rw[e1,z]);exact⟨a,xs,e1,by rw[aU na];exact h,s.upd hl⟩⟩
theorem LnH.lns {K:Frag}(h:LnH K H us X):Lns K H us X:=⟨h.l,λi x ps h1 h2=>let ⟨a,xs,e1,e2,e3⟩:=h.r i x ps h1 h2;⟨a,xs,e1,SqL.of e2,e3⟩⟩
theorem LnH.at {K:Frag}(h:LnH K H us X){i:Nat}(hi:X[i]?=some ps):∃a xs,us[i]?=some (.ref a)/\H a=some (.lst xs)/\Fqs K H xs ps:=by
 have hl:i < us.length:=by rw[h.l];exact(List.getElem?_eq_some_iff.mp hi).1
 obtain⟨a,xs,e,h1,h2⟩:=h.r i _ ps (getElem?_eq_getElem hl) hi;exists a,xs,by rw[getElem?_eq_getElem hl,e],h1,h2
theorem Lns.at {K:Frag}(h:Lns K H us X){i:Nat}(hi:X[i]?=some ps):∃a xs,us[i]?=some (.ref a)/\SqL K H a xs/\Fqs K H xs ps:=by
 have hl:i < us.length:=by rw[h.l];exact(List.getElem?_eq_some_iff.mp hi).1
 obtain⟨a,xs,e,h1,h2⟩:=h.r i _ ps (getElem?_eq_getElem hl) hi;exists a,xs,by rw[getElem?_eq_getElem hl,e],h1,h2
theorem cK.seqI {K:Frag}(ht:H t=some (.ins C dx fs))(e:cK t H H')(h:SqL K H a xs):SqL K H' a xs:=by
 rcases h with (h | ⟨u,h⟩) | h
 .exact .inl (.inl (e _ _ h (jG h ht (λz=>by cases z))))
 .exact .inl (.inr ⟨u,e _ _ h (jG h ht (λz=>by cases z))⟩)
 .exact .inr h
theorem cK.seqTI {K:Frag}(ht:H t=some (.ins C dx fs))(e:cK t H H')(h:SqT K H a xs):SqT K H' a xs:=by
 rcases h with (h | ⟨u,h⟩) | h
 .exact .inl (.inl (e _ _ h (jG h ht (λz=>by cases z))))
 .exact .inl (.inr ⟨u,e _ _ h (jG h ht (λz=>by cases z))⟩)
 .exact .inr h
theorem cK.fqsI {K:Frag}(ht:H t=some (.ins C dx fs))(e:cK t H H'):∀{xs:List V} {ps:List Mq.Q2},Fqs K H xs ps->Fqs K H' xs ps
 |_,_,.nil=>.nil
 |_,_,.cons f q=>.cons (cK.seqTI ht e f) (cK.fqsI ht e q)
theorem cK.lnsI {K:Frag}(ht:H t=some (.ins C dx fs))(e:cK t H H')(h:Lns K H us X):Lns K H' us X:=⟨h.l,λi x ps h1 h2=>let ⟨a,xs,e1,e2,e3⟩:=h.r i x ps h1 h2;⟨a,xs,e1,cK.seqI ht e e2,cK.fqsI ht e e3⟩⟩
structure iL (CT:Addr) (K:Frag) (H:Hp) (t:Addr) (es:List Int) (X:List (List Mq.Q2)) (cs:List Mq.Q2):Prop where
 e:∃(dx p l a:Addr) (us ys:List V),H t=some (.ins CT dx (mL p l a))/\SqL K H p (es.map V.int)/\SqL K H l us/\Lns K H us X/\SqL K H a ys/\Fqs K H ys cs
theorem iL.same {K:Frag}(s:aP H H')(h:iL CT K H t es X cs):iL CT K H' t es X cs:=by
 obtain⟨dx,p,l,a,us,ys,h1,h2,h3,h4,h5,h6⟩:=h.e;exists dx,p,l,a,us,ys,s _ _ h1,s.seq h2,s.seq h3,h4.same s,s.seq h5,h6.same s
inductive Af (CT:Addr) (K:Frag) (vs:List V) (H:Hp) (Q:VK) (E:XK):Prop where
 |mk (t dx e g c:Addr) (es:List Int) (us ys:List V) (X:List (List Mq.Q2)) (cs:List Mq.Q2):vs=[.ref t,.ref e,.ref g,.ref c]->H t=some (.ins CT dx [])->SqL K H e (es.map V.int)->SqL K H g us->Lns K H us X->us.length<=100->SqL K H c ys->Fqs K H ys cs->(∀H',cK t H H'->iL CT K H' t es X cs->Q .non H')->Af CT K vs H Q E
inductive Cb (CT:Addr) (K:Frag) (vs:List V) (H:Hp) (Q:VK) (E:XK):Prop where
 |mk (t:Addr) (es:List Int) (X:List (List Mq.Q2)) (cs:List Mq.Q2):vs=[.ref t]->iL CT K H t es X cs->(∀a H',aP H H'->H a=none->H' a=some (.lst (es.map V.int))->Q (.ref a) H')->Cb CT K vs H Q E
inductive Ir (CT:Addr) (K:Frag) (vs:List V) (H:Hp) (Q:VK) (E:XK):Prop where
 |mk (t:Addr) (es:List Int) (X:List (List Mq.Q2)) (cs:List Mq.Q2):vs=[.ref t]->iL CT K H t es X cs->X.length<=100->(∀a us H',aP H H'->H' a=some (.lst us)->LnH K H' us X->Q (.ref a) H')->Ir CT K vs H Q E
inductive vQ (CT:Addr) (K:Frag) (vs:List V) (H:Hp) (Q:VK) (E:XK):Prop where
 |mk (t:Addr) (es:List Int) (X:List (List Mq.Q2)) (cs:List Mq.Q2):vs=[.ref t]->iL CT K H t es X cs->(∀a ys H',aP H H'->H' a=some (.lst ys)->Fqs K H' ys cs->Q (.ref a) H')->vQ CT K vs H Q E
end L2
namespace Mq
open Shp
def ix2 (X:List (List Q2))(i j:Nat):Q2:=(X.getD i []).getD j z0
theorem iK {X:List (List Q2)}(h:i < X.length):X[i]?=some (X.getD i []):=by rw[getD_eq_getElem?_getD,getElem?_eq_getElem h];rfl
theorem dP {l:List Q2}(h:i < l.length):l[i]?=some (l.getD i z0):=by rw[getD_eq_getElem?_getD,getElem?_eq_getElem h];rfl
end Mq
open Mq (dP iK)
namespace L2
open Mq Shp
def cv (cs:List Q2)(i:Nat):Rat:=val (cs.getD i z0)
theorem Um {a b:List Q2}(la:a.length=m)(lb:b.length=m)(h:∀i,i < m->a.getD i z0=b.getD i z0):a=b:=by
 refine ext_getElem () λi h1 h2=>?_;have:=h i ()
 rwa [getD_eq_getElem?_getD,getD_eq_getElem?_getD,getElem?_eq_getElem h1,getElem?_eq_getElem h2] at this
theorem qd6 (la:a.length=m)(lb:b.length=m)(ra:∀row∈a,row.length=m)(rb:∀row∈b,row.length=m)(h:∀i j,i < m->j < m->ix2 a i j=ix2 b i j):a=b:=by
 refine ext_getElem () λi h1 h2=>?_;refine Um (ra _ (getElem_mem h1)) (rb _ (getElem_mem h2)) λj hj=>?_;have:=h i j () hj;unfold ix2 at this
 rwa [getD_eq_getElem?_getD (l:=a),getD_eq_getElem?_getD (l:=b),getElem?_eq_getElem h1,getElem?_eq_getElem h2] at this
end L2
namespace Mq
def KJ (m:Nat)(A1:Mat)(R:List (List Int)):Prop:=∀Φ,Lin Φ->(∀i,i < m->Φ (A1 i)=0)->∀k,k < m->Φ (at2 R k)=0
theorem KJ.clear (h:KJ m A1 R)(s:SI m w A0 R r col d sg)(hr:r < m)(hc:col < w)(he:ent R r col≠0):KJ m A1 (cE R r col d):=λΦ lin hz k hk=>by
 have cl:=λ(x:Nat)=>tZ s hr hc he hk x;have z:=h Φ lin hz
 by_cases e:k=r
 .have e2:at2 (cE R r col d) k=at2 R k:=by funext x;rw[cl x,if_pos e]
  rw[e2];exact z k hk
 .have e2:at2 (cE R r col d) k=λx=>(λx=>(at2 R r col / (d:Rat))*at2 R k x) x+(-(at2 R k col / (d:Rat)))*at2 R r x:=by
   funext x
   show _=(at2 R r col / (d:Rat))*at2 R k x+_;rw[cl x,if_neg e];grind
  rw[e2,lin,lin.mul,z k hk,z r hr];grind
theorem KJ.whole (h:KJ m A1 R)(s:SI m w A0 R m m d sg){v:Nat->Rat}(hv:∀i,i < m->(rs m λk=>A1 i k*v k)=A1 i m)(hk:k < m):at2 R k m / (d:Rat)=v k:=by
 obtain⟨A,c,B,e⟩:=s.bar;have dn:=B.dne;have:=h (λf=>(rs m λk=>f k*v k) - f m) (λx y l=>by
  have:(rs m λk=>(x k+l*y k)*v k)=(rs m λk=>x k*v k+l*(y k*v k)):=aK λk _=>by grind
  show (rs m λk=>(x k+l*y k)*v k) - (x m+l*y m)=((rs m λk=>x k*v k) - x m)+l*((rs m λk=>y k*v k) - y m)
  rw[this,eH,eQ];grind) (λi hi=>by
  show (rs m λk=>A1 i k*v k) - A1 i m=0;rw[hv i hi];grind) k hk
 have e1:(rs m λj=>at2 R k j*v j)=rs m λj=>if j=k then (d:Rat)*v k else 0:=aK λj hj=>by
  have i2:=B.i2 k j hk hj;rw[B.full rfl j hj] at i2;rw[i2]
  by_cases z:j=k
  .rw[if_pos z,if_pos z,z]
  .rw[if_neg z,if_neg z];grind
 have e2:(rs m λj=>at2 R k j*v j) - at2 R k m=0:=this;rw[e1,mU m k _ hk] at e2;grind
end Mq
namespace Shp
open PySem L2
theorem qd3 (hX:hV X)(hq:Mq.Pos qs)(hl:qs.length=X.length)(hw:∀row∈X,row.length=X.length)(h:Mq.KJ X.length (Mq.at2 (iD X qs)) R)(s:SI X.length w (Mq.at2 (iD X qs)) R X.length X.length d sg){v:Nat->Rat}(hv:∀i,i < X.length->(Mq.rs X.length λj=>dU X i j*v j)=Mq.val (qs.getD i Mq.z0))(hk:k < X.length):Mq.at2 R k X.length / (d:Rat)=v k:=by
 refine h.whole s (λi hi=>?_) hk;rw[Ao hX hq hl hw hi (),if_neg (),<- hv i hi,<- eQ];refine aK λk hk=>?_;rw[Ao hX hq hl hw hi (),if_pos hk];grind
structure qp3 (X:List (List Mq.Q2)) (qs ps:List Mq.Q2):Prop extends Slv X qs ps where
 uni:∀v:Nat->Rat,(∀i,i < X.length->(Mq.rs X.length λj=>dU X i j*v j)=Mq.val (qs.getD i Mq.z0))->∀j,j < X.length->Mq.val (ps.getD j Mq.z0)=v j
theorem Se (hp:Mq.Pos row)(hb:∀p∈row,Mq.Bd n p)(hl:Mq.B m (cQ row))(j:Nat):Mq.B (n+m) ((iw row).getD j 0):=by
 by_cases hj:j < row.length
 .have ej:=Mq.Qj hj;have mem:row.getD j Mq.z0∈row:=mem_of_getElem? ej;obtain⟨k,hk⟩:=Ey hp _ mem;have p1:=hp _ mem;have e2:(iw row).getD j 0=Gb (cQ row) (row.getD j Mq.z0):=by
   unfold iw;rw[getD_eq_getElem?_getD,getElem?_map,ej];rfl
  have e:=fA (show (row.getD j Mq.z0).2≠0 by lia) (show cQ row=(row.getD j Mq.z0).2*k by rw[hk,Int.mul_comm]);rw[e2];unfold Gb;rw[e];refine(hb _ mem).a.mul (hl.le (j:=k) ?_);rw[hk,Int.natAbs_mul];exact Nat.le_mul_of_pos_right _ ()
 .rw[Mq.qU (by rw[rB];lia)];exact Nat.two_pow_pos _
end Shp
namespace Mq
theorem Wb.rs5 (hK:K<=32)(h:∀k,k < K->Wb n (f k)):Wb (n+5) (Mq.rs K f):=by
 obtain⟨z,e,b⟩:=Zf K h;exists z,e,?_;have p:2 ^ (n+5)=32*2 ^ n:=by rw[Nat.pow_add];lia
 have q:K*2 ^ n<=32*2 ^ n:=Nat.mul_le_mul_right _ hK;have r:0 < 2 ^ n:=Nat.two_pow_pos n;show z.natAbs < 2 ^ (n+5)
 by_cases k0:K=0
 .subst k0;lia
 .lia
theorem Bm:∀(r:Nat) (M:Mat),r<=32->(∀i j,i < r->Wb n (M i j))->Wb ((n+5)*r+1) (det r M)
 |0,_,_,_=>Wb.one
 |r+1,M,hr,h=>by
  rw[fY];have:=Wb.rs5 (n:=n+((n+5)*r+1)) (K:=r+1) (f:=λj=>sgn (r+j)*M r j*det r λi k=>M i (skip j k)) hr λj _=>((h r j ()).sgn _).mul (Bm r _ () λi k hi=>h i _ ());exact this.mono (by rw[Nat.mul_succ];lia)
section
variable {m:Nat} {A E:Mat} {r col:Nat} {d:Rat} {c:Nat->Nat} {n:Nat}
theorem Bar.wd5 (h:Bar m A E r col d c)(hA:∀i x,i < m->Wb n (A i x))(hm:m<=31):Wb ((n+5)*r+1) d:=by
 have rm:=h.rm;rw[<- h.i5];exact Bm r _ () λi j hi=>hA i _ ()
theorem Bar.wtop5 (h:Bar m A E r col d c)(hA:∀i x,i < m->Wb n (A i x))(hm:m<=31)(hk:k < r)(x:Nat):Wb ((n+5)*r+7) (E k x):=by
 have rm:=h.rm;have hd:=h.dne
 by_cases hx:∃j,j < r/\x=c j
 .obtain⟨j,hj,rfl⟩:=hx;rw[h.i2 k j hk hj];split
  .exact(h.wd5 hA hm).mono ()
  .exact Wb.zero _
 .let c2:Nat->Nat:=λj=>if j=r then x else c j
  let u:Nat->Rat:=λj=>if j=c k then 1 else 0
  have hΦ:=Lu r A c2;have z:=h.i6 _ hΦ (λs hs=>La r A c2 hs) k hk;have eu:u=λy=>(λy=>u y+(-(1 / d))*E k y) y+(1 / d)*E k y:=by
   funext y
   show u y=u y+(-(1 / d))*E k y+(1 / d)*E k y;grind
  have fb:=Aj r A c2 (λy=>u y+(-(1 / d))*E k y) λj hj=>by
   have ec:c2 j=c j:=by show (if j=r then x else c j)=_;rw[if_neg ()]
   rw[ec];show u (c j)+(-(1 / d))*E k (c j)=0;rw[h.i2 k j hk hj];show (if c j=c k then (1:Rat) else 0)+_=0
   by_cases e:j=k
   .rw[if_pos e,if_pos (by rw[e])];grind
   .rw[if_neg e,if_neg (λq=>e (h.cinj j k hj hk q))];grind
  have dd:(det r λi j=>A i (c2 j))=d:=by
   rw[<- h.i5];exact cP λi j _ hj=>by show A i (if j=r then x else c j)=_;rw[if_neg ()]
  have ux:u x=0:=by show (if x=c k then (1:Rat) else 0)=0;rw[if_neg (λq=>hx ⟨k,hk,q⟩)]
  have cx:c2 r=x:=by show (if r=r then x else _)=x;rw[if_pos rfl]
  rw[dd,cx] at fb;have val:F r A c2 u=- E k x:=by
   rw[eu,hΦ,z,fb];show (u x+(-(1 / d))*E k x)*d+_=_;rw[ux];grind
  have wh:Wb ((n+5)*r+7) (F r A c2 u):=by
   rw[Nf];have:=Wb.rs5 (n:=1+((n+5)*r+1)) (K:=r+1) (f:=λj=>Mq.sgn (r+j)*u (c2 j)*det r λi k=>A i (c2 (Mq.skip j k))) () λj _=>by
    refine Wb.mul (Wb.sgn ?_ _) (Bm r _ () λi k hi=>hA i _ ());show Wb 1 (if c2 j=c k then (1:Rat) else 0);split
    .exact Wb.one
    .exact Wb.zero _
   exact this.mono ()
  rw[val] at wh;have:=wh.neg
  rwa [show - - E k x=E k x by grind] at this
theorem Bar.wall5 (h:Bar m A E r col d c)(hA:∀i x,i < m->Wb n (A i x))(hm:m<=31)(hi:i < m)(x:Nat):Wb ((n+5)*(m+1)+8) (E i x):=by
 have rm:=h.rm;have mono:=Nat.mul_le_mul_left (n+5) rm;have e1:(n+5)*(m+1)=(n+5)*m+(n+5):=Nat.mul_succ ..
 by_cases h1:i < r
 .exact(h.wtop5 hA hm h1 x).mono ()
 .have q:=h.i4 i x hi;rw[if_neg h1] at q;have e:E i x=d*A i x - rs r λk=>A i (c k)*E k x:=by grind
  rw[e];have b1:Wb (n+((n+5)*r+7)+5) (d*A i x):=((h.wd5 hA hm).mul (hA i x hi)).mono ();have b2:Wb (n+((n+5)*r+7)+5) (rs r λk=>A i (c k)*E k x):=Wb.rs5 () λk hk=>(hA i _ hi).mul (h.wtop5 hA hm hk x);exact(b1.sub b2).mono ()
end
theorem SB.bd5 (h:SB n m R r col d)(s:SI m w A0 R r col d sg)(hm:m<=31):BdR ((n+5)*(m+1)+8) R/\B ((n+5)*(m+1)+8) d:=by
 obtain⟨A,c,B,q⟩:=h;exists λi x=>?_,?_
 .by_cases hi:i < m
  .obtain⟨z,e,b⟩:=B.wall5 q hm hi x;have:ent R i x=z:=Rat.intCast_inj.mp e;rw[this];exact b
  .unfold ent;rw[getD_eq_getElem?_getD (l:=R),getElem?_eq_none (by rw[s.len];lia)];exact Nat.two_pow_pos _
 .obtain⟨z,e,b⟩:=B.wd5 q hm;have:d=z:=Rat.intCast_inj.mp e;have mono:=Nat.mul_le_mul_left (n+5) B.rm;rw[this];exact b.mono (by rw[Nat.mul_succ];lia)
theorem Qp (ha:1<=a)(hb:1<=b)(h1:a ∣ L)(h2:b ∣ L):oY a b ∣ L:=by
 have g1:gc a b ∣ a:=Int.gcd_dvd_left ..;have g0:gc a b≠0:=by have:=wO (a:=a) (b:=b) ();lia
 obtain⟨x,hx⟩:=g1;have e:oY a b=x*b:=by
  unfold oY;rw[fA g0 hx]
 have k:(Int.lcm a b:Int) ∣ L:=Int.coe_lcm_dvd h1 h2;have m:(Int.gcd a b:Int)*(Int.lcm a b:Int)=a*b:=by
  have:=Int.gcd_mul_lcm a b;have h:((Int.gcd a b*Int.lcm a b:Nat):Int)=((a*b).natAbs:Nat):=by rw[this,Int.natAbs_mul]
  rw[Int.natCast_mul] at h;rw[h,Int.natAbs_of_nonneg (Int.mul_nonneg () ())]
 have e2:(Int.lcm a b:Int)=x*b:=by
  have hg:(Int.gcd a b:Int)=gc a b:=rfl;rw[hg] at m;have:gc a b*(Int.lcm a b:Int)=gc a b*(x*b):=by
   rw[m,<- Int.mul_assoc,<- hx]
  exact Int.eq_of_mul_eq_mul_left g0 this
 rw[e,<- e2];exact k
theorem yQ:∀{ps:List Q2},Pos ps->(∀p∈ps,p.2 ∣ L)->∀i,i<=ps.length->cQ (ps.take i) ∣ L/\1<=cQ (ps.take i)
 |ps,hp,h,0,_=>⟨Int.one_dvd _,by rw[take_zero];decide⟩
 |ps,hp,h,i+1,hi=>by
  obtain⟨a,b⟩:=yQ hp h i ();have hm:ps[i]?=some ps[i]:=getElem?_eq_getElem ();have mem:=mem_of_getElem? hm;rw[oA hm];exists Qp b (hp _ mem) a (h _ mem),?_;have:=jU (ps:=ps.take (i+1)) (λp hp'=>hp p (mem_of_mem_take hp'))
  rwa [oA hm] at this
theorem Az (hp:Pos ps)(h:∀p∈ps,p.2 ∣ L)(hL:1<=L)(b:B n L):B n (cQ ps):=by
 obtain⟨a,c⟩:=yQ hp h ps.length (Nat.le_refl _);rw[take_length] at a c;refine b.le ?_;have:=Int.le_of_dvd () a;lia
end Mq
namespace Shp
open PySem L2
abbrev bw (n m:Nat):Nat:=(n+5)*(m+1)+8
theorem Xq (n:Nat)(h:i<=j):bw n i<=bw n j:=Nat.add_le_add_right (Nat.mul_le_mul_left (n+5) (show i+1<=j+1 by lia)) 8
theorem Ux (hX:hV X)(hq:Mq.Pos qs)(hl:qs.length=X.length)(hb:∀row∈X,(∀p∈row,Mq.Bd k p/\p.2 ∣ L)/\row.length=X.length)(hqb:∀p∈qs,Mq.Bd k p/\p.2 ∣ L)(hL:1<=L)(b:Mq.B n L):BdR (k+n) (iD X qs):=λi x=>by
 unfold ent
 by_cases hi:i < X.length
 .rw[wP hl hi];have pos:=Ak hX hq hl hi;have al:∀p∈X.getD i []++[qs.getD i Mq.z0],Mq.Bd k p/\p.2 ∣ L:=λp hp=>by
   rcases mem_append.mp hp with z | z
   .exact(hb _ (mem_of_getElem? (xQ hi))).1 p z
   .have e:p=qs.getD i Mq.z0:=by simpa using z
    rw[e];exact hqb _ (mem_of_getElem? (Mq.Qj (show i < qs.length by lia)))
  exact Se pos (λp hp=>(al p hp).1) (Mq.Az pos (λp hp=>(al p hp).2) hL b) x
 .rw[getD_eq_getElem?_getD (l:=iD X qs),getElem?_eq_none (by rw[Dv hl];lia)];exact Nat.two_pow_pos _
end Shp
namespace L2
open PySem PySem.Spec PyProof.Rows
section
variable {X:Cx} {pins:List (Addr × Obj)} {σ:St} {H:Hp} {s:Shared} {a:Addr} {k:Key} {kvs:List (Key × V)} {u r:Value} {z:V} {A:Around} {E:Value->Shared->Prop}
theorem jZ.some_inv (r:jZ o (some w)):∃v,o=some v/\cL v w:=by
 cases o with
 |none=>cases r
 |some v=>exact⟨v,rfl,r⟩
theorem qd5 (I:Inv X pins σ H s)(e:H a=some (.dK kvs))(ry:cL (kV k) u)(rz:cL z r)(hl:kvs.length < sizeLine)(h1:∀v w' s',lJ kvs k=some v->Inv X pins σ H s'->cL v w'->Q w' s')(h2:lJ kvs k=none->∀s',Inv X pins σ (upd H a (.dK (tO kvs k z))) s'->Q r s'):
  wpAny (model X.prog X.w) A (call (.builtin "dict.setdefault") [.ref a,u,r]) Q E s:=by
 obtain⟨z',hd,vs,rel,dd⟩:=Rz I.hok e;refine call_meetsIn PySem.F.slot_dict_setdefault dd.typeIs PySem.F.entry_dict_setdefault (PySem.F.args_dict_setdefault_3 _ _ _) (kt_meets_setdefault (dW X.prog X.w) a (Ll ry) hd r)
  ⟨vs,dd,by rw[<- rel.length];exact z',λv hv=>?_,λhv h' dd' hs=>?_⟩
 .have rv:=rel.val k;rw[hv] at rv;obtain⟨x,ex,rx⟩:=jZ.some_inv rv;exact h1 x v _ ex (I.tok _) rx
 .have hn:lJ kvs k=none:=by
   have:=(rel.val k).isSome_eq;rw[hv] at this
   cases c:lJ kvs k with
   |none=>rfl
   |some x=>rw[c] at this;cases this
  have he:∃q,h'.get? a=some q:=let ⟨q,_,_,hq,_⟩:=dd';⟨q,hq⟩
  refine h2 hn _ (Lq I (by rw[e];exact True.intro) hs he (Of ?_ hd (rel.put k rz) dd'));have:=tI kvs k z;lia
end
def qb2 (td ty tx:TE):TE:=λσ H Q=>td σ H λx H1=>∃a,x=.ref a/\IsD H1 a/\ty σ H1 λy H2=>tx σ H2 λz H3=>∃kvs k,H3 a=some (.dK kvs)/\y=kV k/\kvs.length < sizeLine/\
 (∀v,lJ kvs k=some v->Q v H3)/\(lJ kvs k=none->Q z (upd H3 a (.dK (tO kvs k z))))
section
variable {X:Cx} {o e f:Expr} {apos cpos:Pos} {td ty tx:TE}
theorem Rl (ho:PE X o td)(he:PE X e ty)(hf:PE X f tx)(m:M2 X o "setdefault" apos e f cpos):PE X (.Call (.Attribute o "setdefault" apos) [e,f] [] cpos) (qb2 td ty tx):=by
 intro pins s σ H Q I h;refine wpAny_Call_method m.base m.few m.line PySem.F.plainAttrs_dict PySem.F.slot_dict_setdefault PySem.F.type_dict_setdefault (thn (ho pins s σ H _ I h) λu s1 ⟨x,H1,I1,rx,a,ex,d,q1⟩=>?_);subst ex;obtain rfl:u=Value.ref a:=rx;obtain⟨t1,t2,_⟩:=Ub I1 d;exists t1,t2,?_;rw[m.trees];refine Calls.callWith_builtin rfl (Calls.evalArgs_plain (Calls.spliced_cons (thn (he pins s1 σ H1 _ I1 q1) λiv s2 ⟨y,H2,I2,ry,q2⟩=>
  Calls.spliced_cons (thn (hf pins s2 σ H2 _ I2 q2) λfv s3 ⟨z,H3,I3,rz,kvs,k,ea,ey,hl,q3,q4⟩=>Calls.spliced_nil ?_))))
 subst ey;exact qd5 I3 ea ry rz hl (λv w' s4 ev I4 rw'=>⟨v,_,I4,rw',q3 v ev⟩) (λen s4 I4=>⟨z,_,I4,rz,q4 en⟩)
end
def ql7 (td:TE):TE:=λσ H Q=>td σ H λx H1=>∃a kvs,x=.ref a/\H1 a=some (.dK kvs)/\∀l,H1 l=none->Q (.ref l) (upd H1 l (.lst (kvs.map (·.2))))
theorem KV.snd:∀{kvs:List (κ × V)} {vs:List (κ × Value)},KV kvs vs->cA (kvs.map (·.2)) (vs.map (·.2))
 |_,_,.nil=>.nil
 |_,_,.cons h r=>.cons h.2 (KV.snd r)
section
variable {X:Cx} {o:Expr} {apos cpos pos p:Pos} {td:TE}
theorem Dy (hc:X.calm=true)(hg:Gl X "list")(hm:X.mg "list"=none)(ho:PE X o td)(hbase:attributeBase o "values" X.env (eval o X.env)=eval o X.env:=by rfl)(hline:(apos.endLine == cpos.line)=true:=by rfl)(he:starEach [.Call (.Attribute o "values" apos) [] [] cpos] X.env=(false,eval (.Call (.Attribute o "values" apos) [] [] cpos) X.env) :: starEach [] X.env:=by rfl)(hpl:(backTo pos (starEach [] X.env)).any (·.1)=false:=by rfl) :
  PE X (.Call (.Name "list" p) [.Call (.Attribute o "values" apos) [] [] cpos] [] pos) (ql7 td):=by
 intro pins s σ H Q I h;refine wpAny_Call_Name_kw (iG I hg hm PyProof.Rows.boot_list ?_);refine PyProof.Rows.callWith_type1 ?_ he hpl;rw[he];show wpAny _ _ (spliced ((false,eval (.Call (.Attribute o "values" apos) [] [] cpos) X.env) :: backTo pos (starEach [] X.env))) _ _ s;refine Calls.spliced_cons ?_;refine wpAny_Call_method0_late hbase hline (thn (ho pins s σ H _ I h) λv s1 ⟨x,H1,I1,rx,a,kvs,ex,ea,q⟩=>?_);subst ex;obtain rfl:v=Value.ref a:=rx;obtain⟨t1,t2,_⟩:=Ub I1 (.inl ⟨kvs,.inl ea⟩);obtain⟨z',hd,vs,rel,dd⟩:=Rz I1.hok ea;exists "dict","dict.values",PySem.F.plainAttrs_dict,PySem.F.slot_dict_values,PySem.F.type_dict_values,t1,t2,Calls.callWith_builtin rfl (PySem.evalArgs_none ?_);refine call_meetsIn PySem.F.slot_dict_values dd.typeIs PySem.F.entry_dict_values (PySem.F.args_dict_values_1 _) (meets_dict_values (dW X.prog X.w) a hd) ⟨⟨vs,dd⟩,?_⟩;refine Calls.spliced_nil ?_;have I2:Inv X pins σ H1 { s1 with heap:=s1.heap.push { cls:=.type "dict_values",data:=.fields #[.ref a] },toks:=s1.toks }:=I1.kept (t':=s1.toks) (λb ob e=>Heap.get?_push_of_some _ e);obtain⟨ob,es,ep,g1,g2⟩:=dd;have hv:(s1.heap.push { cls:=.type "dict_values",data:=.fields #[.ref a] }).IsValuesView s1.heap.objs.size a:=⟨_,Heap.get?_push_size _ rfl,rfl,rfl⟩
 have hda:Heap.DictAt (dW X.prog X.w) (s1.heap.push { cls:=.type "dict_values",data:=.fields #[.ref a] }) a vs ep:=⟨ob,es,Heap.get?_push_of_some _ g1,g2⟩
 refine W.kdl_call (s:={ s1 with heap:=s1.heap.push { cls:=.type "dict_values",data:=.fields #[.ref a] },toks:=s1.toks }) W.kdl_values (I2.ok.hd hc) ⟨hv,hda⟩ (by rw[<- rel.length];exact z') (λh' tk acc' c' kp e items=>?_);have ev:acc'.toList=vs.map (·.2):=W.kdl_vals_eq acc'.toList (by rw[Array.length_toList];exact items.1) (λj v hj=>items.2 j v (by rw[<- Array.getElem?_toList];exact hj));have rl:cA (kvs.map (·.2)) acc'.toList:=by rw[ev];exact KV.snd rel
 exists .ref _,_,I2.laid (t':=tk) kp (Nat.le_refl _) (show cY X.prog X.w _ h' _ (.lst (kvs.map (·.2))) from ⟨by rw[length_map];exact z',acc'.toList,c',rl,e⟩),rfl,q _ (I2.hok.fresh (Nat.le_refl _))
end
def Vk (ta:TA):TE:=λσ H Q=>ta σ H λvs H1=>∃n:Nat,vs=[.int (n:Int)]/\n<=1000/\∀l,H1 l=none->Q (.ref l) (upd H1 l (.lst ((List.range n).map λ(i:Nat)=>V.int (i:Int))))
theorem vP:∀{n:Nat} {acc:List Value},acc.length=n->(∀(j:Nat) (v:Value),acc[j]?=some v->∃t,v=Value.int (j:Int) t)->cA ((List.range n).map λ(i:Nat)=>V.int (i:Int)) acc
 |0,[],_,_=>.nil
 |n+1,acc,hl,h=>by
  have e:acc=acc.take n++[acc[n]'()]:=by
   have h1:acc.take (n+1)=acc:=take_of_length_le ();have h2:acc.take (n+1)=acc.take n++[acc[n]'()]:=by rw[take_add_one,getElem?_eq_getElem ()];rfl
   rw[h1] at h2;exact h2
  rw[range_succ,map_append,e];refine cA.append (vP (by rw[length_take];lia) λj v hj=>?_) (.cons ?_ .nil)
  .have hjn:j < n:=by
    have:=(List.getElem?_eq_some_iff.mp hj).1;rw[length_take] at this;lia
   rw[getElem?_take,if_pos hjn] at hj;exact h j v hj
  .obtain⟨t,ht⟩:=h n _ (getElem?_eq_getElem ());rw[ht];exists t,rfl
section
variable {X:Cx} {a:Expr} {p p2 pos pos2:Pos} {ta:TA}
theorem pS (hc:X.calm=true)(hgl:Gl X "list")(hml:X.mg "list"=none)(hg:Gl X "range")(hm:X.mg "range"=none)(ha:PA X [a] ta)(hs:starEach [a] X.env=[(false,eval a X.env)]:=by rfl)(he:starEach [.Call (.Name "range" p2) [a] [] pos2] X.env=(false,eval (.Call (.Name "range" p2) [a] [] pos2) X.env) :: starEach [] X.env:=by rfl)(hpl:(backTo pos (starEach [] X.env)).any (·.1)=false:=by rfl) :
  PE X (.Call (.Name "list" p) [.Call (.Name "range" p2) [a] [] pos2] [] pos) (Vk ta):=by
 intro pins s σ H Q I h;refine wpAny_Call_Name_kw (iG I hgl hml PyProof.Rows.boot_list ?_);refine PyProof.Rows.callWith_type1 ?_ he hpl;rw[he];show wpAny _ _ (spliced ((false,eval (.Call (.Name "range" p2) [a] [] pos2) X.env) :: backTo pos (starEach [] X.env))) _ _ s;refine Calls.spliced_cons ?_;refine wpAny_Call_Name_kw (iG I hg hm boot_range (PyProof.Rows.callWith_type1 (thn (ha pos2 pins s σ H _ I h) λus s1 ⟨vs,H1,I1,r1,q1⟩=>?_) hs rfl));obtain⟨n,e,hn,q⟩:=q1;subst e
 cases r1 with
 |cons r rr=>
  cases rr
  obtain⟨t,rfl⟩:=r;refine call_range_1 ?_;refine Calls.spliced_nil ?_;have I2:∀(ob:Obj) (tk:Nat),Inv X pins σ H1 { s1 with heap:=s1.heap.push ob,toks:=tk }:=λob tk=>I1.kept (t':=tk) (λb ob e=>Heap.get?_push_of_some _ e);have hn24:(n:Nat)<=2 ^ 24:=by lia
  refine call_list_range (n:=n) (I1.ok.hd hc) (IsRange.new ..) (small_one () () () ()) (by rw[rangeSize_one];split<;>lia) hn24 (λh' tk acc' c' kp e items=>?_);have rl:cA ((List.range n).map λ(i:Nat)=>V.int (i:Int)) acc'.toList:=vP (by rw[Array.length_toList];exact items.1) (λj v hj=>by
   obtain⟨t,ht⟩:=items.2 j v (by rw[<- Array.getElem?_toList];exact hj);exact⟨t,by rw[ht];congr 1;lia⟩)
  have hz:((List.range n).map λ(i:Nat)=>V.int (i:Int)).length<=sizeLine:=by rw[length_map,length_range,sizeLine_eq];lia
  exists .ref _,_,(I2 _ _).laid (t':=tk) kp (Nat.le_refl _) (show cY X.prog X.w _ h' _ (.lst ((List.range n).map λ(i:Nat)=>V.int (i:Int))) from ⟨hz,acc'.toList,c',rl,e⟩),rfl,q _ ((I2 _ _).hok.fresh (Nat.le_refl _))
end
def jn (ms:List Int)(s g:Nat):List Int:=ms.map λx=>if x=ms.getD g 0 then ms.getD s 0 else x
def xL (m:Nat):List Int:=(List.range m).map λ(i:Nat)=>(i:Int)
def iP (ms:List Int)(d:RD):List Int:=if d.1=.pu then ms else jn ms d.2.1.toNat d.2.2.1.toNat
def mks (m:Nat)(ds:List RD):List Int:=ds.foldl iP (xL m)
def mk (m:Nat)(ds:List RD)(p:Nat):Int:=(mks m ds).getD p 0
theorem mG (m:Nat)(ds:List RD)(d:RD):mks m (ds++[d])=iP (mks m ds) d:=by unfold mks;rw[foldl_append];rfl
theorem Ml (ms:List Int)(d:RD):(iP ms d).length=ms.length:=by
 unfold iP;split
 .rfl
 .unfold jn;rw[length_map]
theorem zC:∀(ds:List RD) (ms:List Int),(ds.foldl iP ms).length=ms.length
 | [],_=>rfl
 |d :: ds,ms=>by show (ds.foldl iP (iP ms d)).length=_;rw[zC ds,Ml]
theorem kM (m:Nat)(ds:List RD):(mks m ds).length=m:=by unfold mks xL;rw[zC,length_map,length_range]
theorem Pq {ms:List Int}{f:Int->Int}(h:p < ms.length):(ms.map f).getD p 0=f (ms.getD p 0):=by
 rw[getD_eq_getElem?_getD,getElem?_map,getD_eq_getElem?_getD,getElem?_eq_getElem h];rfl
theorem Uf (h:p < m):mk m [] p=(p:Int):=by
 show (xL m).getD p 0=_;unfold xL;rw[getD_eq_getElem?_getD,getElem?_map,getElem?_range h];rfl
theorem tY (hk:d.1=.pu)(p:Nat):mk m (ds++[d]) p=mk m ds p:=by
 unfold mk;rw[mG];unfold iP;rw[if_pos hk]
theorem uK (hk:d.1≠.pu)(hp:p < m):mk m (ds++[d]) p=if mk m ds p=mk m ds d.2.2.1.toNat then mk m ds d.2.1.toNat else mk m ds p:=by
 unfold mk;rw[mG];unfold iP;rw[if_neg hk];unfold jn;rw[Pq (by rw[kM];exact hp)]
inductive Cn (ds:List RD):Nat->Nat->Prop where
 |refl (p:Nat):Cn ds p p
 |row {d:RD} (h:d∈ds) (hk:d.1≠.pu):Cn ds d.2.1.toNat d.2.2.1.toNat
 |symm {p q:Nat} (h:Cn ds p q):Cn ds q p
 |trans {p q r:Nat} (h:Cn ds p q) (g:Cn ds q r):Cn ds p r
theorem Cn.mono (h:∀d∈ds,d∈es)(c:Cn ds p q):Cn es p q:=by
 induction c with
 |refl p=>exact .refl p
 |row hd hk=>exact .row (h _ hd) hk
 |symm _ ih=>exact .symm ih
 |trans _ _ a b=>exact .trans a b
theorem Ee {m:Nat}:∀(n:Nat) (ds:List RD),ds.length=n->(∀d∈ds,gQ (m:Int) d.2.1 d.2.2.1)->∀p q,p < m->q < m->mk m ds p=mk m ds q->Cn ds p q
 |0,ds,hl,_,p,q,hp,hq,e=>by
  have:ds=[]:=length_eq_zero_iff.mp hl;subst this;rw[Uf hp,Uf hq] at e;have:p=q:=by lia
  subst this;exact .refl p
 |n+1,ds,hl,pt,p,q,hp,hq,e=>by
  obtain⟨es,d,rfl⟩:∃es d,ds=es++[d]:=⟨ds.dropLast,ds.getLast (by intro z;rw[z] at hl;cases hl),(dropLast_concat_getLast _).symm⟩
  have le:es.length=n:=by rw[List.length_append] at hl;simpa using hl
  have ih:=Ee n es le (λx hx=>pt x (mem_append_left _ hx));have up:∀{a b:Nat},Cn es a b->Cn (es++[d]) a b:=λc=>c.mono λx hx=>mem_append_left _ hx
  by_cases hk:d.1=.pu
  .rw[tY hk,tY hk] at e;exact up (ih p q hp hq e)
  .obtain⟨i0,i1,j0,j1⟩:=pt d ⋯;have hs:d.2.1.toNat < m:=by lia
   have hg:d.2.2.1.toNat < m:=by lia
   have rw':Cn (es++[d]) d.2.1.toNat d.2.2.1.toNat:=.row ⋯ hk;rw[uK hk hp,uK hk hq] at e
   by_cases a:mk m es p=mk m es d.2.2.1.toNat
   .have cp:=up (ih _ _ hp hg a);rw[if_pos a] at e
    by_cases b:mk m es q=mk m es d.2.2.1.toNat
    .exact cp.trans (up (ih _ _ hq hg b)).symm
    .rw[if_neg b] at e;exact cp.trans (rw'.symm.trans (up (ih _ _ hs hq e)))
   .rw[if_neg a] at e
    by_cases b:mk m es q=mk m es d.2.2.1.toNat
    .rw[if_pos b] at e;exact(up (ih _ _ hp hs e)).trans (rw'.trans (up (ih _ _ hq hg b)).symm)
    .rw[if_neg b] at e;exact up (ih _ _ hp hq e)
theorem Ad {m:Nat}:∀(n:Nat) (ds:List RD),ds.length=n->(∀d∈ds,gQ (m:Int) d.2.1 d.2.2.1)->∀d∈ds,d.1≠.pu->mk m ds d.2.1.toNat=mk m ds d.2.2.1.toNat
 |0,ds,hl,_,d,hd,_=>by
  have:ds=[]:=length_eq_zero_iff.mp hl;rw[this] at hd;cases hd
 |n+1,ds,hl,pt,x,hx,hkx=>by
  obtain⟨es,d,rfl⟩:∃es d,ds=es++[d]:=⟨ds.dropLast,ds.getLast (by intro z;rw[z] at hl;cases hl),(dropLast_concat_getLast _).symm⟩
  have le:es.length=n:=by rw[List.length_append] at hl;simpa using hl
  obtain⟨i0,i1,j0,j1⟩:=pt x hx;have hs:x.2.1.toNat < m:=by lia
  have hg:x.2.2.1.toNat < m:=by lia
  by_cases hk:d.1=.pu
  .rw[tY hk,tY hk];rcases mem_append.mp hx with z | z
   .exact Ad n es le (λy hy=>pt y (mem_append_left _ hy)) x z hkx
   .have:x=d:=by simpa using z
    rw[this] at hkx;exact absurd hk hkx
  .rw[uK hk hs,uK hk hg];rcases mem_append.mp hx with z | z
   .have ih:=Ad n es le (λy hy=>pt y (mem_append_left _ hy)) x z hkx;rw[ih]
   .have:x=d:=by simpa using z
    subst this;rw[if_pos rfl]
    by_cases c:mk m es x.2.1.toNat=mk m es x.2.2.1.toNat
    .rw[if_pos c]
    .rw[if_neg c]
theorem Cn.ind {R:Nat->Nat->Prop}(r:∀p,R p p)(s:∀p q,R p q->R q p)(t:∀p q x,R p q->R q x->R p x)(h:∀d∈ds,d.1≠.pu->R d.2.1.toNat d.2.2.1.toNat)(c:Cn ds p q):R p q:=by
 induction c with
 |refl p=>exact r p
 |row hd hk=>exact h _ hd hk
 |symm _ ih=>exact s _ _ ih
 |trans _ _ a b=>exact t _ _ _ a b
theorem qp1 {m:Nat}(pt:∀d∈ds,gQ (m:Int) d.2.1 d.2.2.1)(hp:p < m)(hq:q < m):mk m ds p=mk m ds q↔Cn ds p q:=
 ⟨Ee _ ds rfl pt p q hp hq,λc=>Cn.ind (R:=λa b=>mk m ds a=mk m ds b) (λ_=>rfl) (λ_ _ e=>e.symm) (λ_ _ _ a b=>a.trans b) (λd hd hk=>Ad _ ds rfl pt d hd hk) c⟩
def pU (G:List (Int × List Int))(k p:Int):List (Int × List Int):=if G.any (λe=>decide (e.1=k)) then G.map (λe=>if e.1=k then (e.1,e.2++[p]) else e) else G++[(k,[p])]
def grp (F:Nat->Int):Nat->List (Int × List Int)
 |0=>[]
 |n+1=>pU (grp F n) (F n) (n:Int)
def mem (F:Nat->Int)(n:Nat)(k:Int):List Int:=((List.range n).filter λq=>decide (F q=k)).map λ(q:Nat)=>(q:Int)
def kZ (F:Nat->Int)(n:Nat):List Nat:=(List.range n).filter λp=>(List.range p).all λq=>decide (F q≠F p)
theorem vF (F:Nat->Int)(n:Nat)(k:Int):mem F (n+1) k=if F n=k then mem F n k++[(n:Int)] else mem F n k:=by
 unfold mem;rw[range_succ,filter_append,map_append]
 by_cases h:F n=k
 .rw[if_pos h,filter_cons_of_pos (by exact decide_eq_true h)];rfl
 .rw[if_neg h,filter_cons_of_neg (by simp[h])];simp
theorem tG (F:Nat->Int)(n:Nat):kZ F (n+1)=if (List.range n).all (λq=>decide (F q≠F n)) then kZ F n++[n] else kZ F n:=by
 unfold kZ;rw[range_succ,filter_append]
 by_cases h:((List.range n).all λq=>decide (F q≠F n))=true
 .rw[if_pos h,filter_cons_of_pos (p:=λp=>(List.range p).all λq=>decide (F q≠F p)) (a:=n) h];rfl
 .rw[if_neg h,filter_cons_of_neg (p:=λp=>(List.range p).all λq=>decide (F q≠F p)) (a:=n) h];simp
theorem pH (F:Nat->Int):∀(n q:Nat),q < n->∃p∈kZ F n,F p=F q
 |n+1,q,h=>by
  rw[tG]
  by_cases c:q < n
  .obtain⟨p,hp,e⟩:=pH F n q c;exists p,?_,e;split
   .exact mem_append_left _ hp
   .exact hp
  .have:q=n:=by lia
   subst this
   by_cases a:((List.range q).all λx=>decide (F x≠F q))=true
   .rw[if_pos a];exists q,⋯,rfl
   .rw[if_neg a];have:∃x,x < q/\F x=F q:=by
     refine Classical.byContradiction λz=>a ?_;rw[all_eq_true];intro x hx;refine decide_eq_true λy=>z ⟨x,mem_range.mp hx,y⟩
    obtain⟨x,hx,e⟩:=this;obtain⟨p,hp,e'⟩:=pH F q x hx;exists p,hp,e'.trans e
theorem Aw (F:Nat->Int):∀n:Nat,grp F n=(kZ F n).map λp=>(F p,mem F n (F p))
 |0=>rfl
 |n+1=>by
  show pU (grp F n) (F n) (n:Int)=_;rw[Aw F n,tG];unfold pU
  by_cases a:((List.range n).all λq=>decide (F q≠F n))=true
  .have no:∀q,q < n->F q≠F n:=λq hq=>of_decide_eq_true (all_eq_true.mp a q (mem_range.mpr hq));have hany:(((kZ F n).map λp=>(F p,mem F n (F p))).any λe=>decide (e.1=F n))=false:=by
    rw[any_eq_false];intro e he;obtain⟨p,hp,rfl⟩:=mem_map.mp he;have:=mem_range.mp (mem_filter.mp hp).1;simp;exact no p this
   rw[if_pos a,hany,if_neg ∅,map_append];congr 1
   .refine map_congr_left λp hp=>?_;have:=mem_range.mp (mem_filter.mp hp).1;rw[vF,if_neg (λz=>no p this z.symm)]
   .show [(F n,[(n:Int)])]=[(F n,mem F (n+1) (F n))]
    rw[vF,if_pos rfl];have:mem F n (F n)=[]:=by
     unfold mem;rw[filter_eq_nil_iff.mpr (λq hq=>by simp;exact no q (mem_range.mp hq))];rfl
    rw[this];rfl
  .have hex:∃x,x < n/\F x=F n:=by
    refine Classical.byContradiction λz=>a ?_;rw[all_eq_true];intro x hx;exact decide_eq_true λy=>z ⟨x,mem_range.mp hx,y⟩
   obtain⟨x,hx,ex⟩:=hex;obtain⟨p,hp,ep⟩:=pH F n x hx;have hany:(((kZ F n).map λp=>(F p,mem F n (F p))).any λe=>decide (e.1=F n))=true:=by
    rw[any_eq_true];exists (F p,mem F n (F p)),mem_map.mpr ⟨p,hp,rfl⟩,decide_eq_true (ep.trans ex)
   rw[if_neg a,hany,if_pos rfl,map_map];refine map_congr_left λq hq=>?_;show (if F q=F n then (F q,mem F n (F q)++[(n:Int)]) else (F q,mem F n (F q)))=(F q,mem F (n+1) (F q))
   rw[vF]
   by_cases c:F q=F n
   .rw[if_pos c,if_pos c.symm]
   .rw[if_neg c,if_neg (λz=>c z.symm)]
section
variable (u:Nat->Rat)
def fw (d:RD)(h:Nat):Rat:=match d.1 with
 | .pc=>(u d.2.1.toNat - u d.2.2.1.toNat)*(1 / Mq.val d.2.2.2)
 | .pu=>0
 | .ho=>u h
def nt:Nat->List RD->Nat->Rat
 |_,[],_=>0
 |h,d :: ds,p=>fw u d h*dl d.2.1.toNat d.2.2.1.toNat p+nt (h+jL d.1) ds p
def eg:Nat->List RD->Rat
 |_,[]=>0
 |h,d :: ds=>fw u d h*(u d.2.1.toNat - u d.2.2.1.toNat)+eg (h+jL d.1) ds
end
section
variable {u:Nat->Rat} {m N:Nat}
theorem Pc (F:Nat->Rat)(hs:s < n)(hg:g < n):Mq.rs n (λp=>F p*dl s g p)=F s - F g:=by
 have e:∀p,F p*dl s g p=(if s=p then F p else 0) + - (if g=p then F p else 0):=λp=>by
  unfold dl
  by_cases a:s=p<;>by_cases b:g=p<;>simp only[a,b,if_true,if_false]<;>grind
 rw[aK λp _=>e p,eH,Mq.rP,Gy,Gy,if_pos hs,if_pos hg];grind
theorem Yw:∀(ds:List RD) (h:Nat),(∀d∈ds,gQ (m:Int) d.2.1 d.2.2.1)->Mq.rs m (λp=>u p*nt u h ds p)=eg u h ds
 | [],h,_=>by
  have:∀p,u p*nt u h [] p=0:=λp=>by show u p*(0:Rat)=0;grind
  rw[aK λp _=>this p,dQ];rfl
 |d :: ds,h,pt=>by
  have ih:=Yw ds (h+jL d.1) (λe he=>pt e (mem_cons_of_mem _ he));obtain⟨a,b,c,e⟩:=pt d ⋯;have base:=Pc u (n:=m) (s:=d.2.1.toNat) (g:=d.2.2.1.toNat) () ();have:∀p,u p*nt u h (d :: ds) p=fw u d h*(u p*dl d.2.1.toNat d.2.2.1.toNat p)+u p*nt u (h+jL d.1) ds p:=λp=>by
   show u p*(fw u d h*dl d.2.1.toNat d.2.2.1.toNat p+nt u (h+jL d.1) ds p)=_;grind
  rw[aK λp _=>this p,eH,eQ,base,ih];rfl
theorem ql3 (x:Rat):0<=x*x:=by
 rcases Rat.le_total (a:=0) (b:=x) with h | h
 .exact Rat.mul_nonneg h h
 .have:0<=(-x)*(-x):=Rat.mul_nonneg (by grind) (by grind);grind
theorem Tl {a:Rat}(h:0 < a):0 < 1 / a:=by
 rw[Rat.div_def,Rat.one_mul];exact Rat.inv_pos.mpr h
theorem Ys:∀(ds:List RD) (h:Nat),(∀d∈ds,d.1=.pc->0 < Mq.val d.2.2.2)->(∀d∈ds,d.1=.ho->u d.2.1.toNat=u d.2.2.1.toNat)->0<=eg u h ds/\(eg u h ds=0->∀d∈ds,d.1=.pc->u d.2.1.toNat=u d.2.2.1.toNat)
 | [],_,_,_=>⟨Rat.le_refl,λ_ d hd=>by cases hd⟩
 |e :: ds,h,pos,ho=>by
  obtain⟨i1,i2⟩:=Ys ds (h+jL e.1) (λd hd=>pos d (mem_cons_of_mem _ hd)) (λd hd=>ho d (mem_cons_of_mem _ hd));have eq:eg u h (e :: ds)=fw u e h*(u e.2.1.toNat - u e.2.2.1.toNat)+eg u (h+jL e.1) ds:=rfl;rw[eq];generalize eg u (h+jL e.1) ds=r at i1 i2;have t:0<=fw u e h*(u e.2.1.toNat - u e.2.2.1.toNat)/\(e.1=.pc->fw u e h*(u e.2.1.toNat - u e.2.2.1.toNat)=0->u e.2.1.toNat=u e.2.2.1.toNat):=by
   unfold fw
   cases hk:e.1 with
   |pu=>exact⟨by grind,λz=>by cases z⟩
   |ho=>exact⟨by rw[ho e ⋯ hk];grind,λz=>by cases z⟩
   |pc=>
    dsimp only;have p:=Tl (pos e ⋯ hk);generalize 1 / Mq.val e.2.2.2=q at p;generalize u e.2.1.toNat=a;generalize u e.2.2.1.toNat=b;have e2:(a - b)*q*(a - b)=q*((a - b)*(a - b)):=by grind
    rw[e2];exists Rat.mul_nonneg (Rat.le_of_lt p) (ql3 _),λ_ z=>?_;have q0:q≠0:=λz=>by rw[z] at p;exact absurd p ∅
    have:(a - b)*(a - b)=0:=by grind
    have:a - b=0:=by grind
    grind
  obtain⟨t1,t2⟩:=t;generalize fw u e h*(u e.2.1.toNat - u e.2.2.1.toNat)=x at t1 t2;exists by grind,λz d hd hk=>?_;have x0:x=0:=by grind
  have r0:r=0:=by grind
  rcases mem_cons.mp hd with rfl | hd
  .exact t2 hk x0
  .exact i2 r0 d hd hk
end
inductive Gd (H0 H:Hp):List (Key × V)->List (Int × List Int)->List Addr->Prop where
 |nil:Gd H0 H [] [] []
 |cons {a:Addr} {k:Int} {ps:List Int} {kvs:List (Key × V)} {G:List (Int × List Int)} {as:List Addr} (n:H0 a=none) (h:H a=some (.lst (ps.map V.int))) (r:Gd H0 H kvs G as):Gd H0 H ((Sum.inl k,.ref a) :: kvs) ((k,ps) :: G) (a :: as)
section
variable {H0 H H':Hp} {kvs:List (Key × V)} {G:List (Int × List Int)} {as:List Addr}
theorem Gd.out (g:Gd H0 H kvs G as)(e:∀a∈as,H' a=H a):Gd H0 H' kvs G as:=by
 induction g with
 |nil=>exact .nil
 |cons n h r ih=>exact .cons n ((e _ (mem_cons_self ..)).trans h) (ih λa ha=>e a (mem_cons_of_mem _ ha))
theorem Gd.new (g:Gd H0 H kvs G as):∀a∈as,H0 a=none/\∃xs,H a=some (.lst xs):=by
 induction g with
 |nil=>intro a h;cases h
 |cons n h r ih=>
  intro a ha;rcases mem_cons.mp ha with rfl | z
  .exists n,_,h
  .exact ih a z
theorem Gd.lens (g:Gd H0 H kvs G as):kvs.length=G.length:=by
 induction g with
 |nil=>rfl
 |cons n h r ih=>rw[length_cons,length_cons,ih]
theorem Gd.app (g:Gd H0 H kvs G as)(n:H0 a=none)(h:H a=some (.lst (ps.map V.int))):Gd H0 H (kvs++[(Sum.inl k,.ref a)]) (G++[(k,ps)]) (as++[a]):=by
 induction g with
 |nil=>exact .cons n h .nil
 |cons n' h' r ih=>exact .cons n' h' ih
theorem Gd.keys (g:Gd H0 H kvs G as)(k:Int):(kvs.any λkv=>decide (kv.1=Sum.inl k))=G.any λe=>decide (e.1=k):=by
 induction g with
 |nil=>rfl
 |cons n h r ih=>
  rw[any_cons,any_cons,ih];congr 1;exact decide_eq_decide.mpr ⟨λz=>Sum.inl.inj z,λz=>congrArg Sum.inl z⟩
theorem Ju:∀{G:List (Int × List Int)},k∉G.map (·.1)->G.map (λe=>if e.1=k then (e.1,e.2++[p]) else e)=G
 | [],_=>rfl
 |e :: G,h=>by
  rw[map_cons,mem_cons,not_or] at h;rw[map_cons,if_neg (λz=>h.1 z.symm),Ju h.2]
theorem Gd.find (g:Gd H0 H kvs G as):as.Nodup->(G.map (·.1)).Nodup->∀{v:V},lJ kvs (Sum.inl k)=some v->∃(a:Addr) (ps:List Int),v=.ref a/\a∈as/\H0 a=none/\H a=some (.lst (ps.map V.int))/\(G.any λe=>decide (e.1=k))=true/\(∃e∈G,e.2=ps)/\
  ∀p:Int,Gd H0 (upd H a (.lst (ps.map V.int++[V.int p]))) kvs (G.map (λe=>if e.1=k then (e.1,e.2++[p]) else e)) as:=by
 induction g with
 |nil=>intro _ _ v h;cases h
 | @cons a' k' ps' kvs' G' as' n h r ih=>
  intro nd nk v hv;obtain⟨na,nd'⟩:=nodup_cons.mp nd;rw[map_cons] at nk;obtain⟨nk1,nk'⟩:=nodup_cons.mp nk
  by_cases c:k'=k
  .subst c;rw[vZ rfl] at hv
   cases hv
   exists a',ps',rfl,mem_cons_self ..,n,h,?_,⟨_,mem_cons_self ..,rfl⟩,λp=>?_
   .rw[any_cons];simp
   .rw[map_cons,if_pos rfl,Ju nk1];refine .cons n ?_ (r.out λb hb=>aU λz=>na (z ▸ hb));rw[aB,map_append];rfl
  .rw[wC (λz=>c (Sum.inl.inj z))] at hv;obtain⟨a,ps,ev,ma,na0,ea,hany,⟨e,he,hp⟩,q⟩:=ih nd' nk' hv;exists a,ps,ev,mem_cons_of_mem _ ma,na0,ea,?_,⟨e,mem_cons_of_mem _ he,hp⟩,λp=>?_
   .rw[any_cons,hany,Bool.or_true]
   .rw[map_cons,if_neg c];have ne:a'≠a:=λz=>na (z ▸ ma);exact .cons n (by rw[aU ne];exact h) (q p)
theorem Nx [DecidableEq κ](h:lJ kvs k=none):(kvs.any λkv=>decide (kv.1=k))=false:=by
 unfold lJ at h;rw[Option.map_eq_none_iff,find?_eq_none] at h;rw[any_eq_false];intro x hx;exact h x hx
end
theorem Md (h:(G.map (·.1)).Nodup):((pU G k p).map (·.1)).Nodup:=by
 unfold pU
 by_cases c:(G.any λe=>decide (e.1=k))=true
 .rw[if_pos c,map_map];have e:G.map ((·.1) ∘ λe:Int × List Int=>if e.1=k then (e.1,e.2++[p]) else e)=G.map (·.1):=map_congr_left λx _=>by
   show (if x.1=k then (x.1,x.2++[p]) else x).1=x.1;split<;>rfl
  rw[e];exact h
 .rw[if_neg c,map_append];refine nodup_append.mpr ⟨h,⋯,?_⟩;intro x hx y hy z;rw[map_cons,map_nil,mem_singleton] at hy;obtain⟨e,he,rfl⟩:=mem_map.mp hx;exact c (any_eq_true.mpr ⟨e,he,decide_eq_true (z.trans hy)⟩)
theorem wI (F:Nat->Int):∀n,((grp F n).map (·.1)).Nodup
 |0=>nodup_nil
 |n+1=>Md (wI F n)
theorem Ra (G:List (Int × List Int))(k p:Int):(pU G k p).length<=G.length+1:=by
 unfold pU;split
 .rw[length_map];lia
 .rw[List.length_append];exact Nat.le_refl _
theorem Li (F:Nat->Int):∀n,(grp F n).length<=n
 |0=>Nat.le_refl _
 |n+1=>by
  have h1:=Ra (grp F n) (F n) (n:Int);have h2:=Li F n;show (pU (grp F n) (F n) (n:Int)).length<=n+1;lia
theorem Gn (h:∀e∈G,e.2.length<=n):∀e∈pU G k p,e.2.length<=n+1:=by
 intro e he;unfold pU at he;split at he
 .obtain⟨x,hx,rfl⟩:=mem_map.mp he;have:=h x hx;split
  .rw[List.length_append];simp only[length_cons,length_nil];lia
  .lia
 .rcases mem_append.mp he with z | z
  .have:=h e z;lia
  .rw[mem_singleton] at z;rw[z];simp
theorem yM (F:Nat->Int):∀n,∀e∈grp F n,e.2.length<=n
 |0=>λe h=>by cases h
 |n+1=>Gn (yM F n)
structure Ils (H0 H:Hp) (us:List V) (X:List (List Int)):Prop where
 l:us.length=X.length
 r:∀(i:Nat) (x:V) (ps:List Int),us[i]?=some x->X[i]?=some ps->∃a:Addr,x=.ref a/\H0 a=none/\H a=some (.lst (ps.map V.int))
theorem Ils.from0 (f:Ils H0 H us X)(h:∀a,H0 a=none->H0' a=none):Ils H0' H us X:=⟨f.l,λi x ps h1 h2=>let ⟨a,e,n,r⟩:=f.r i x ps h1 h2;⟨a,e,h a n,r⟩⟩
theorem Gd.ils (g:Gd H0 H kvs G as):Ils H0 H (kvs.map (·.2)) (G.map (·.2)):=by
 exists by rw[length_map,length_map,g.lens],?_
 induction g with
 |nil=>intro i x ps h;cases h
 |cons n h r ih=>
  intro i x ps h1 h2
  cases i with
  |zero=>cases h1;cases h2;exists _,rfl,n,h
  |succ j=>exact ih j x ps h1 h2
theorem Gd.vals (g:Gd H0 H kvs G as):∀x∈kvs.map (·.2),∃a∈as,x=.ref a:=by
 induction g with
 |nil=>intro x h;cases h
 |cons n h r ih=>
  intro x hx;rw[map_cons,mem_cons] at hx;rcases hx with rfl | z
  .exists _,mem_cons_self ..,rfl
  .obtain⟨a,ha,e⟩:=ih x z;exists a,mem_cons_of_mem _ ha,e
abbrev Stp:=Nat × Int
end L2
namespace Shp
open PySem L2
theorem Ke (hl:R0.length=m)(hw:∀i,i < m->(R0.getD i []).length=w)(hmw:m<=w)(h0:Pr R0)(st:Stp m w (Mq.at2 R0) Pr):∀col,col<=m->∃R r d sg,SI m w (Mq.at2 R0) R r col d sg/\Pr R
 |0,_=>⟨R0,0,1,1,.start hl hw,h0⟩
 |col+1,hc=>by
  obtain⟨R,r,d,sg,S,p⟩:=Ke hl hw hmw h0 st col ()
  by_cases hz:∀i,r<=i->i < m->ent R i col=0
  .exists R,r,d,sg,S.skip hz,p
  .obtain⟨i,hi⟩:=Classical.not_forall.mp hz;obtain⟨h1,hi⟩:=Classical.not_imp.mp hi;obtain⟨h2,ne⟩:=Classical.not_imp.mp hi
   by_cases e:i=r
   .subst e;exists _,_,_,_,S.clear h2 () ne,st.cl R i col d sg S h2 () ne p
   .have hlt:r < i:=by lia
    have S2:=S.swap hlt h2;have p2:=st.sw R r col d sg i S hlt h2 p;have ne2:ent (jB R i r) r col≠0:=by
     have:=Mq.Jd (R:=R) (p:=i) (r:=r) (by rw[S.len];lia) (by rw[S.len];lia) r;unfold ent at ne ⊢;rw[this,show Mq.sw i r r=i by unfold Mq.sw;simp];exact ne
    exists _,_,_,_,S2.clear () () ne2,st.cl _ r col d (-sg) S2 () () ne2 p2
theorem Xy (xP:hV X)(hw:∀row∈X,row.length=X.length)(m1:1<=X.length)(hz:wgt X=0):∃v:Nat->Rat,(∃j,j < X.length/\v j≠0)/\∀x,x < X.length->(Mq.rs X.length λj=>v j*dU X j x)=0:=by
 obtain⟨R,r,d,sg,S,L⟩:=Ke (m:=X.length) (w:=X.length+X.length) (R0:=kJ X) (Ss X) (λi hi=>by rw[wR hi,Ed,hw _ (mem_of_getElem? (xQ hi))]) () (Xl xP hw) qd4 X.length (Nat.le_refl _);have wr:=Sc xP (Xc λi j hi hj=>xW xP hw hi hj) S;have hr:r < X.length:=by
  rcases wr with z | z
  .exact z.1
  .exact absurd hz z.2
 obtain⟨⟨k0,hk0,nk0⟩,hsum⟩:=L.lame S hr;exists λk=>Mq.at2 R (X.length - 1) (X.length+k),⟨k0,hk0,λz=>?_⟩,hsum;exact nk0 (Rat.intCast_inj.mp (by unfold Mq.at2 at z;simpa using z))
end Shp
namespace L2
open PySem PySem.Spec PyProof.Rows
inductive Gz (K:Frag) (x:V) (vs:List V) (H:Hp) (Q:VK):Prop where
 |mk (p:Addr) (ns:List Int) (k:Int):x=.ref p->vs=[.int k]->SqL K H p (ns.map V.int)->k∈ns->(PyData.list (ns.map PyData.int)).layable0=true->Q (.int (ns.idxOf k:Nat)) H->Gz K x vs H Q
theorem Fc:∀{ns:List Int} {us:List Value},cA (ns.map V.int) us->IntsAre us ns
 | [],_,.nil=>.nil
 |n :: ns,_,.cons ⟨t,e⟩ q=>by subst e;exact .cons _ _ (Fc q)
theorem Tk:MtR X "list.index" (Gz X.K):=by
 intro pins s σ H x xs v us Q I rx rv h;obtain⟨p,ns,k,rfl,rfl,hq,hk,hl,q⟩:=h
 cases rx
 obtain⟨u,rfl,t,rfl⟩:=lS rv;obtain⟨its,r,pl,hz⟩:=I.list hq;refine index_list_ints pl.isList (Fc r) hl hk ⟨.int _,H,I.tok _,⟨_,rfl⟩,q⟩
theorem Nn {K:Frag}(h:X.K=K):MtR X "list.index" (Gz K):=by subst h;exact Tk
theorem tF:∀{ns:List Int},(∀n∈ns,n.natAbs < 32)->PyData.weightAll (ns.map PyData.int)<=6*ns.length
 | [],_=>by rw[map_nil,PyData.weightAll.eq_1];exact Nat.zero_le _
 |n :: ns,h=>by
  have ih:=tF λx hx=>h x (mem_cons_of_mem _ hx);have hn:=h n ⋯;rw[map_cons,PyData.weightAll.eq_2,PyData.weight.eq_5,length_cons];have:(if (n == 0)=true then 0 else n.natAbs.log2+1)<=5:=by
   split
   .lia
   .rename_i c
    have n0:n.natAbs≠0:=λz=>c (by have:n=0:=();rw[this];rfl);have:=(Nat.log2_lt n0 (k:=5)).mpr ();lia
  lia
theorem Ci {ns:List Int}(h:∀n∈ns,n.natAbs < 32)(hl:ns.length<=100):(PyData.list (ns.map PyData.int)).layable0=true:=by
 have w:=tF h;have d:=pG ns;have l:=wJ ns;unfold PyData.layable0;rw[show (PyData.list (ns.map PyData.int)).canLay0=true from l,PyData.weight.eq_2];have d2:(PyData.list (ns.map PyData.int)).depth<=64:=by simp only[PyData.depth];lia
 have w2:PyData.weightAll (ns.map PyData.int)<=2 ^ 20:=by
  have:(2:Nat) ^ 20=1048576:=by decide
  lia
 rw[decide_eq_true d2,decide_eq_true w2];rfl
section
variable {X:Cx}
inductive ql5 (K:Frag) (xs:List V) (H:Hp) (Q:VK):Prop where
 |mk (p:Addr) (bs:List Bool):xs=[.ref p]->SqL K H p (bs.map V.bl)->Q (.bl (bs.any id)) H->ql5 K xs H Q
theorem Qd (hc:X.calm=true):kI X (.builtin "any") (ql5 X.K):=by
 intro pins s σ H xs us Q I r h;obtain⟨p,bs,rfl,hq,q⟩:=h;obtain⟨u,rfl,rx⟩:=lS r
 cases rx
 obtain⟨its,rv,pl,hz⟩:=I.list hq;have hlen:its.toArray.size=bs.length:=by rw[size_toArray,<- rv.length,length_map]
 have hne:p≠s.heap.objs.size:=by
  obtain⟨o,e,_⟩:=pl.isList;exact Nat.ne_of_lt (Heap.lt_size e)
 refine call_any_walk (wpAny_pyIter_list pl.isList ?_);exists s.heap.objs.size,_,_,_,_,_,λi=>bs.getD i false,rfl,Walks.list (by exact I.ok.hd hc) s.heap.objs.size p hne its.toArray,⟨⟨_,Heap.get?_push_size _ rfl,rfl,rfl⟩,?_⟩,?_,?_
 .obtain⟨o,e,c⟩:=pl.isList;exists o,Heap.get?_push_of_some _ e,c
 .intro i v s' Q' E' hv q';have hv':its[i]?=some v:=by simpa using hv
  have hi:i < its.length:=(List.getElem?_eq_some_iff.mp hv').1;have hb:(bs.map V.bl)[i]?=some (.bl (bs.getD i false)):=by
   rw[getElem?_map,getElem?_eq_getElem (by rw[<- hlen];simpa using hi)];simp[getD,getElem?_eq_getElem (show i < bs.length by rw[<- hlen];simpa using hi)]
  obtain⟨u,hu,ru⟩:=rv.get hb;have e:u=v:=by rw[hv'] at hu;cases hu;rfl
  subst e
  cases ru
  exact wpAny_truthy_bool q'
 .intro h' tk kk;have e:(List.range its.toArray.size).any (λi=>bs.getD i false)=bs.any id:=by
   rw[hlen,Bool.eq_iff_iff,any_eq_true,any_eq_true];constructor
   .rintro ⟨i,hi,z⟩;have hi':=mem_range.mp hi;exists bs[i],getElem_mem hi',by simpa[getD,getElem?_eq_getElem hi'] using z
   .rintro ⟨x,hb,z⟩;obtain⟨i,hi,rfl⟩:=getElem_of_mem hb;exists i,mem_range.mpr hi,by simpa[getD,getElem?_eq_getElem hi] using z
  rw[e];exists .bl _,H,I.kept (t':=tk) λb o hb=>?_,rfl,q;have hb2:b≠s.heap.objs.size:=Nat.ne_of_lt (Heap.lt_size hb);exact kk b o (by simpa using hb2) (Heap.get?_push_of_some _ hb)
theorem Ki:∀{ns:List Int} {its:List Value},cA (ns.map V.int) its->IntsAre its ns
 | [],_,.nil=>.nil
 |n :: ns,_,.cons h r=>by
  obtain⟨t,rfl⟩:=h;exact .cons n t (Ki r)
theorem Ye (h:IntsAre its ns):cA (ns.map V.int) its:=by
 induction h with
 |nil=>exact .nil
 |cons n t _ ih=>exact .cons ⟨t,rfl⟩ ih
inductive Lm (K:Frag) (xs:List V) (H:Hp) (Q:VK):Prop where
 |mk (p:Addr) (ns:List Int):xs=[.ref p]->SqL K H p (ns.map V.int)->ns.length < 64->(∀(l:Addr) (ns':List Int),H l=none->ns'.Perm ns->ns'.Pairwise (·<=·)->Q (.ref l) (upd H l (.lst (ns'.map V.int))))->Lm K xs H Q
theorem Ep:kI X (.builtin "sorted") (Lm X.K):=by
 intro pins s σ H xs us Q I r h;obtain⟨p,ns,rfl,hq,h64,q⟩:=h;obtain⟨u,rfl,rx⟩:=lS r
 cases rx
 obtain⟨its,rv,pl,hz⟩:=I.list hq;have hlen:its.length=ns.length:=by rw[<- rv.length,length_map]
 refine sorted_ints pl.isList (Ki rv) () λout ns' a1 a2 a3=>?_;obtain⟨e,he⟩:=sortedAll_at s.heap its out;have lo:=a2.length_eq;have rl:=Ye a1;have zl:(ns'.map V.int).length<=sizeLine:=by rw[length_map,lo,sizeLine_eq];lia
 exists .ref (s.heap.objs.size+1),_,I.laid (a:=s.heap.objs.size+1) (o:=.lst (ns'.map V.int)) (t':=s.toks) (λ_ _=>sortedAll_old) (Nat.le_succ _) ⟨zl,out.toList,e,rl,?_⟩,rfl,q _ ns' (I.hok.fresh (Nat.le_succ _)) a2 a3;rw[Array.toArray_toList];exact he
end
section
variable {P:Program} {w:World} {A:Around} {E:Value->Shared->Prop} {s:Shared} {b:Bool}
section
variable {R:Result->Shared->Prop} {I:Addr} {fp wr:List Addr} {G:Array GenState->Array GenState->Prop} {n:Nat} {Pv:Nat->Value->Prop} {St:Nat->Shared->Prop}
theorem wF {K:Type}[DecidableEq K]{knd:PySem.KeyKind P w K}{h:Heap}{S S':K->Bool}(q:h.SetOf knd a S n)(e:S=S')(en:n=n'):h.SetOf knd a S' n':=by subst e en;exact q
end
end
abbrev emp (g:Bool):Obj:={ cls:=.type "set",dict:=none,data:=.set #[] 0 (.fresh 0 0 g) }
theorem Tq:bootBuiltins "set"=some (.type "set"):=by decide +kernel
variable {X:Cx}
theorem qp7 {ns:List Int}(rv:cA (ns.map V.int) its){i:Nat}(h:ns[i]?=some p):∃t,its[i]?=some (.int p t):=by
 obtain⟨u,hu,ru⟩:=rv.get (show (ns.map V.int)[i]?=some (.int p) by rw[getElem?_map,h];rfl);obtain⟨t,rfl⟩:=(show ∃t,u=Value.int p t from ru)
 exists t,hu
def qq5 (acc:List Int)(x:Int):List Int:=if x∈acc then acc else acc++[x]
def ddl (ns:List Int):List Int:=ns.foldl qq5 []
theorem qT (ns:List Int)(x:Int):ddl (ns++[x])=if x∈ddl ns then ddl ns else ddl ns++[x]:=by
 unfold ddl;rw[foldl_append];rfl
theorem vX {P:List Int->Prop}(h0:P [])(h1:∀l x,P l->P (l++[x]))(l:List Int):P l:=by
 have:∀n (l:List Int),l.length=n->P l:=by
  intro n
  induction n with
  |zero=>intro l h;rw[length_eq_zero_iff.mp h];exact h0
  |succ n ih=>
   intro l h;have hn:l≠[]:=by intro z;rw[z] at h;cases h
   rw[<- dropLast_concat_getLast hn];exact h1 _ _ (ih _ (by rw[length_dropLast,h];rfl))
 exact this _ l rfl
theorem uG (ns:List Int):∀x,x∈ddl ns↔x∈ns:=by
 refine vX (P:=λns=>∀x,x∈ddl ns↔x∈ns) (λx=>Iff.rfl) (λl y ih x=>?_) ns;rw[qT,mem_append];split
 .rename_i h
  rw[ih];exists .inl,λz=>z.elim id λz=>?_;have:x=y:=by simpa using z
  rw[this];exact(ih y).mp h
 .rw[mem_append,ih]
theorem uT (ns:List Int):(ddl ns).length<=ns.length:=by
 refine vX (P:=λns=>(ddl ns).length<=ns.length) (Nat.le_refl _) (λl y ih=>?_) ns;rw[qT,List.length_append];split
 .lia
 .rw[List.length_append];lia
section
variable {P:Program} {w:World} {A:Around} {E:Value->Shared->Prop} {s:Shared}
section
variable {R:Result->Shared->Prop} {I:Addr} {fp wr:List Addr} {G:Array GenState->Array GenState->Prop} {n:Nat} {Pv:Nat->Value->Prop} {St:Nat->Shared->Prop}
theorem Yd (W:WalksS P w A.in1 I fp wr G n Pv St)(T:Addr)(hT:T∉fp){ns:List Int}(hn:n=ns.length)(hn9:ns.length<=1000)(hv:∀i v,Pv i v->∃z t,ns[i]?=some z/\v=.int z t):∀(k i:Nat) (s:Shared),n - i=k->i<=n->St i s->s.heap.SetOf (intKind P w) T (λz=>decide (z∈ns.take i)) (ddl (ns.take i)).length->
   (∀s',Moved (T :: wr) G s s'->s'.heap.SetOf (intKind P w) T (λz=>decide (z∈ns.take n)) (ddl (ns.take n)).length->R (.ok (.ret .none)) s')->codeAny (model P w) A (.builtin "set.update.loop" ⟨[.ref T,.ref I],[]⟩) R s:=by
 have hTw:T∉wr:=λh=>hT (W.sub _ h);have up:∀x∈wr,x∈T :: wr:=λx hx=>mem_cons_of_mem _ hx;intro k
 induction k with
 |zero=>
  intro i s hk hi st hS hR;obtain rfl:i=n:=by lia
  refine codeAny_builtin PyProof.Rows.F.entry_set_update_loop ?_;rw[Around.under_plainId PyProof.Rows.F.plain_set_update_loop _];refine wpAny_bind (m:=pyNext (.ref I)) (W.done s _ _ st λs' mv=>?_);refine wpAny_pure (hR s' (mv.mono up) ?_);obtain⟨o,es,ep,t,ho,q⟩:=hS;exists o,es,ep,t,mv.heap T _ hTw ho,q
 |succ k ih=>
  intro i s hk hi st hS hR;have lt:i < n:=by lia
  refine codeAny_builtin PyProof.Rows.F.entry_set_update_loop ?_;rw[Around.under_plainId PyProof.Rows.F.plain_set_update_loop _];refine wpAny_bind (m:=pyNext (.ref I)) (W.item i s _ _ lt st λv s' hp st' mv=>?_);obtain⟨z,tz,hz,rfl⟩:=hv i v hp;have hS1:s'.heap.SetOf (intKind P w) T (λz=>decide (z∈ns.take i)) (ddl (ns.take i)).length:=by
   obtain⟨o,es,ep,t,ho,q⟩:=hS;exists o,es,ep,t,mv.heap T _ hTw ho,q
  refine wpAny_bind (m:=holding [Value.int z tz] (setAdd T (.int z tz))) (wpAny_holding ?_);unfold setAdd;refine wpAny_holding (wpAny_bind ((intKind P w).pyHash (k:=z) (intKind_is _ _ _ _) ?_));refine wpAny_setAddHashed_of (knd:=intKind P w) (k:=z) (s:={ s' with toks:=s'.toks+1 }) (intKind_is _ _ _ _) rfl hS1 (by have:=uT (ns.take i);rw[length_take] at this;unfold scanBound;lia) λh' sb hS2=>?_;have et:ns.take (i+1)=ns.take i++[z]:=by rw[take_add_one,hz];rfl
  have hS3:h'.SetOf (intKind P w) T (λz=>decide (z∈ns.take (i+1))) (ddl (ns.take (i+1))).length:=by
   refine wF hS2 (by funext u;rw[et];simp) ?_;rw[et,qT]
   by_cases h0:z∈ns.take i
   .rw[if_pos (by simpa using h0),if_pos ((uG _ z).mpr h0)]
   .rw[if_neg (by simpa using h0),if_neg (λy=>h0 ((uG _ z).mp y)),List.length_append];rfl
  refine wpAny_pure ⟨plainId_quiet PyProof.Rows.F.plain_set_update_loop _,ih (i+1) _ () lt (W.frame _ s' _ _ st' (Nat.le_succ _) λx hx o e=>?_) hS3 λs2 mv2 q=>?_⟩
  .rw[sb.2 x (λz=>hT (by rw[<- z];exact hx))];exact e
  .refine hR s2 (Moved.trans W.gtrans ((mv.mono up).then_heap (Nat.le_succ _) λx o hx e=>?_) mv2) q;rw[sb.2 x (λz=>hx (by rw[z];exact mem_cons_self))];exact e
end
def qo8 (P:Program)(w:World)(ns:List Int)(s:Shared)(h':Heap):Prop:=
 h'.SetOf (intKind P w) s.heap.objs.size (λz=>decide (z∈ns)) (ddl ns).length/\∀x o,x < s.heap.objs.size->s.heap.get? x=some o->h'.get? x=some o
theorem Nu (hh:A.handled=none)(hl:s.heap.IsList l its)(hn9:ns.length<=1000)(hsz:its.size=ns.length)(hi:∀(i:Nat) (v:Value),its[i]?=some v->∃z t,ns[i]?=some z/\v=.int z t)(h:∀(h':Heap) (tk:Nat),qo8 P w ns s h'->Q (.ref s.heap.objs.size) { s with heap:=h',toks:=tk }):wpAny (model P w) A (call (.type "set") [.ref l]) Q E s:=by
 obtain⟨c,tl,mro⟩:=PySem.F.called_set.mro;have made:=PySem.F.called_set.made;have sub:=PySem.F.called_set.sub;have nt:=PySem.F.called_set.notType;have cc:=PySem.F.called_set.canCreate;have tc:=PySem.F.typeCall_set_1 (.ref l);refine wpAny_call (codeAny_of_tree (show wpAny _ _ (callAny (.type "set") _) _ _ _ from wpAny_pure ⟨Code.quiet_builtin _ ∅,codeAny_builtin PySem.F.entry_type_call ?_⟩));rw[Around.under_plain (weight_type_call_type "set" [.ref l] []) rfl]
 repeat (any_goals (first | assumption | wp_step))
 refine codeAny_mono (code_set_new_1 (.ref l) (E:=E) (Q₁:=λx t=>∃g:Bool,x=.ref s.heap.objs.size/\t={ s with heap:=s.heap.push (emp g) }) λg=>⟨g,rfl,rfl⟩) λr t hr=>?_
 cases r with
 |error e=>exact hr
 |ok fl=>
  cases fl with
  |ret x=>
   obtain⟨g,rfl,rfl⟩:=hr;have hS:(s.heap.push (emp g)).get? s.heap.objs.size=some (emp g):=Heap.get?_push_size _ rfl;have hT:Shared.TypeIs { s with heap:=s.heap.push (emp g) } (.ref s.heap.objs.size) "set":=⟨_,hS,rfl⟩
   have li:=PySem.F.called_set.init.lookup;have bi:=PySem.F.called_set.init.bind (.ref s.heap.objs.size)
   repeat (any_goals (first | assumption | wp_step))
   refine codeAny_mono (codeAny_call_builtin (R:=wants (λr t=>r=.none/\∃h' tk,t={ s with heap:=h',toks:=tk }/\qo8 P w ns s h') E) PySem.F.called_set.init.plain PySem.F.entry_set_init (check_set_init_1 hT ?_)) λr t hr=>?_
   .obtain⟨ol,hol,hc,m,hd⟩:=hl;obtain⟨cls,dict,data,sls⟩:=ol;simp only at hc hd;subst hc hd;have hol':(s.heap.push (emp g)).get? l=some ⟨.type "list",dict,.seq its m,sls⟩:=Heap.get?_push_of_some _ hol;have n1:=PySem.F.sub_list_set;have n2:=PySem.F.sub_list_frozenset;have n3:(Value.type "list" == Value.type "dict")=false:=rfl;have hl1:(s.heap.push (emp g)).IsList l its:=⟨_,hol',rfl,m,rfl⟩
    unfold Builtin.«set.__init__» noKeywords Builtin.Frozenset.updateFrom;generalize hPI:pyIter=PI
    wp_walk
    subst hPI;refine wpAny_pyIter_list hl1 (wpAny_bind (wpAny_runValue ?_));have lts:l < s.heap.objs.size:=Heap.lt_size hol;have h3:A.in1.in1.in1.handled=none:=by simp[hh]
    have sz:(s.heap.push (emp g)).objs.size=s.heap.objs.size+1:=Heap.size_push ..;have ne1:l≠(s.heap.push (emp g)).objs.size:=by rw[sz];exact Nat.ne_of_lt (Nat.lt_succ_of_lt lts)
    have ne2:s.heap.objs.size∉[(s.heap.push (emp g)).objs.size,l]:=by rw[sz];simp only[mem_cons,not_mem_nil,or_false,not_or];exists Nat.ne_of_lt (Nat.lt_succ_self _),Nat.ne_of_gt lts
    refine Yd ((Walks.list h3 _ l ne1 its).toS) s.heap.objs.size ne2 (ns:=ns) hsz hn9 hi (its.size - 0) 0 _ rfl (Nat.zero_le _) ⟨⟨_,Heap.get?_push_size _ rfl,rfl,rfl⟩,hl1.push _⟩ ?s0 ?sR
    case s0=>
     exact wF ((setObjOf_fresh (knd:=intKind P w) g).setOf (Heap.get?_push_of_some _ hS) (by unfold scanBound;lia)) rfl rfl
    case sR=>
     intro s' mv hS';obtain⟨h',g',d',tk',os'⟩:=s';have eg:g'=s.gens:=mv.gens;have ed:d'=s.drawn:=mv.drawn;have eo:os'=s.os:=mv.os;subst eg ed eo;refine wpAny_pure (show wpAny _ _ (ret Value.none) _ _ _ from wpAny_pure ⟨rfl,h',tk',rfl,wF hS' (by rw[hsz,take_length]) (by rw[hsz,take_length]),λx o hx e=>?_⟩);refine mv.heap x o ?_ (Heap.get?_push_of_some _ (Heap.get?_push_of_some _ e));rw[sz];simp only[mem_cons,not_mem_nil,or_false,not_or];exists Nat.ne_of_lt hx,Nat.ne_of_lt (Nat.lt_succ_of_lt hx)
   .cases r with
    |error e=>exact hr
    |ok fl=>
     cases fl with
     |ret r=>
      obtain⟨rfl,h',tk,rfl,q⟩:=hr
      repeat (any_goals (first | assumption | wp_step))
      exact h _ _ q
     |_=>exact hr.elim
  |_=>exact hr.elim
end
section
variable {X:Cx}
def Qg (K:Frag)(ta:TE):TE:=λσ H Q=>Yy ta Vp σ H λvs H1=>∃p ns,vs=[.ref p]/\SqL K H1 p (ns.map V.int)/\ns.length<=1000/\Q (.int ((ddl ns).length:Nat)) H1
theorem Hc (hc:X.calm=true)(hgl:Gl X "len")(hml:X.mg "len"=none)(hgs:Gl X "set")(hms:X.mg "set"=none)(ha:PE X e ta)(hs:starEach [e] X.env=(false,eval e X.env) :: starEach [] X.env:=by rfl)(hs2:starEach [.Call (.Name "set" p2) [e] [] pos2] X.env=(false,eval (.Call (.Name "set" p2) [e] [] pos2) X.env) :: starEach [] X.env:=by rfl):
  PE X (.Call (.Name "len" p) [.Call (.Name "set" p2) [e] [] pos2] [] pos) (Qg X.K ta):=by
 intro pins s σ H Q I h;refine wpAny_Call_Name_kw (iG I hgl hml PySem.boot_len (PyProof.Rows.callWith_builtin1 ?_ hs2 rfl));rw[hs2];show wpAny _ _ (spliced ((false,eval (.Call (.Name "set" p2) [e] [] pos2) X.env) :: backTo pos (starEach [] X.env))) _ _ s;refine Calls.spliced_cons (wpAny_Call_Name_kw (iG I hgs hms Tq (PyProof.Rows.callWith_type1 ?_ hs rfl)));refine thn (aA ha aC hs pos2 pins s σ H _ I h) λus s1 ⟨vs,H1,I1,r1,pq,ns,e1,hq,hn9,q⟩=>?_
 cases e1
 obtain⟨u,rfl,rx⟩:=lS r1
 cases rx
 obtain⟨its,rv,pl,hz⟩:=I1.list hq;have hlen:its.toArray.size=ns.length:=by rw[size_toArray,<- rv.length,length_map]
 refine Nu (ns:=ns) (I1.ok.hd hc) pl.isList hn9 hlen (λi v hv=>?_) λh' tk ⟨⟨o,es,ep,t,ho,ex,hd,_,_,hbd,hf,hn⟩,kp⟩=>?_
 .have hv':its[i]?=some v:=by simpa using hv
  have hi:i < its.length:=(List.getElem?_eq_some_iff.mp hv').1;have hi':i < ns.length:=by rw[<- hlen];simpa using hi
  obtain⟨t,ht⟩:=qp7 rv (getElem?_eq_getElem hi');rw[hv'] at ht
  cases ht
  exists _,t,getElem?_eq_getElem hi',rfl
 .refine Calls.spliced_nil ?_;have le:=uT ns;refine call_len_set ho ex hd hf (by rw[hn];lia) ?_;rw[hn];exists .int ((ddl ns).length:Nat),H1,I1.kept (t':=_) λx o e=>kp x o (Heap.lt_size e) e,⟨_,rfl⟩,q
end
def apt (es:List Int)(g:List Int):Bool:=!(g.any λx=>decide (x∈es))
def lsG (F:Nat->Int)(m:Nat)(es:List Int)(i:Nat):List Int:=((((grp F m).map (·.2)).take i).filter (apt es)).flatten
def lsP (F:Nat->Int)(m:Nat)(es:List Nat):List Nat:=(List.range m).filter λp=>es.all λe=>decide (F e≠F p)
theorem vU (h:e∈grp F m):e.2=mem F m e.1:=by
 rw[Aw] at h;obtain⟨p,hp,rfl⟩:=mem_map.mp h;rfl
theorem mem_iff:c∈mem F m k↔∃q:Nat,q < m/\F q=k/\c=(q:Int):=by
 unfold mem;exists λh=>?_,λ⟨q,h1,h2,h3⟩=>?_
 .obtain⟨q,hq,rfl⟩:=mem_map.mp h;have:=mem_filter.mp hq;exists q,mem_range.mp this.1,of_decide_eq_true this.2,rfl
 .exact mem_map.mpr ⟨q,mem_filter.mpr ⟨mem_range.mpr h1,decide_eq_true h2⟩,h3.symm⟩
theorem qb3 (F:Nat->Int)(m:Nat)(k:Int):(mem F m k).Nodup:=by
 unfold mem;refine pairwise_map.mpr ((Pairwise.filter _ (nodup_range (n:=m))).imp λ{a b} h z=>h ?_);lia
theorem qn3 (F:Nat->Int)(m:Nat):((grp F m).map (·.2)).flatten.Nodup:=by
 refine pairwise_flatten.mpr ⟨λl hl=>?_,?_⟩
 .obtain⟨e,he,rfl⟩:=mem_map.mp hl;rw[vU he];exact qb3 F m _
 .refine pairwise_map.mpr ?_;have k:=pairwise_map.mp (wI F m);refine Pairwise.imp_of_mem (λ{a b} ha hb hab=>?_) k;intro x hx y hy z;rw[vU ha] at hx;rw[vU hb] at hy;obtain⟨q,_,h1,rfl⟩:=mem_iff.mp hx;obtain⟨q',_,h2,e⟩:=mem_iff.mp hy;have:q=q':=by lia
  subst this;exact hab (h1.symm.trans h2)
theorem Px (F:Nat->Int)(m:Nat)(es:List Int)(i:Nat):(lsG F m es i).Nodup:=by
 unfold lsG;have h:=pairwise_flatten.mp (qn3 F m);exact pairwise_flatten.mpr ⟨λl hl=>h.1 l (mem_of_mem_take (mem_filter.mp hl).1),h.2.sublist ((filter_sublist).trans (take_sublist i _))⟩
theorem Yj (h:x∈lsG F m es i):∃q:Nat,q < m/\x=(q:Int):=by
 unfold lsG at h;obtain⟨g,hg,hx⟩:=mem_flatten.mp h;have hg:=mem_of_mem_take (mem_filter.mp hg).1;obtain⟨e,he,rfl⟩:=mem_map.mp hg;rw[vU he] at hx;obtain⟨q,h1,_,h2⟩:=mem_iff.mp hx;exists q,h1,h2
theorem Kk (F:Nat->Int)(m:Nat)(es:List Int)(i:Nat):(lsG F m es i).length<=m:=by
 have:=(Px F m es i).length_le_of_subset (l₂:=(List.range m).map λ(q:Nat)=>(q:Int)) λx hx=>by
  obtain⟨q,h,rfl⟩:=Yj hx;exact mem_map.mpr ⟨q,mem_range.mpr h,rfl⟩
 rwa [length_map,length_range] at this
theorem Dk (h:((grp F m).map (·.2))[i]?=some g):lsG F m es (i+1)=lsG F m es i++if apt es g=true then g else []:=by
 unfold lsG;rw[take_add_one,h,filter_append,flatten_append]
 cases c:apt es g with
 |true=>simp[c]
 |false=>simp[c]
theorem pJ:q∈lsP F m es↔q < m/\∀e∈es,F e≠F q:=by
 unfold lsP;simp
theorem Yc (hes:∀e∈es,e < m)(pm:ns.Perm (lsG F m (es.map λ(i:Nat)=>(i:Int)) ((grp F m).map (·.2)).length))(st:ns.Pairwise (·<=·)):ns=(lsP F m es).map λ(i:Nat)=>(i:Int):=by
 have st2:((lsP F m es).map λ(i:Nat)=>(i:Int)).Pairwise (·<=·):=by
  unfold lsP;refine pairwise_map.mpr ((Pairwise.filter _ pairwise_lt_range).imp λ{a b} h=>?_);lia
 have nd2:((lsP F m es).map λ(i:Nat)=>(i:Int)).Nodup:=by
  unfold lsP;refine pairwise_map.mpr ((Pairwise.filter _ (nodup_range (n:=m))).imp λ{a b} h z=>h ?_);lia
 refine Perm.eq_of_pairwise (λa b _ _ h1 h2=>by lia) st st2 (pm.trans ((perm_ext_iff_of_nodup (Px F m _ _) nd2).mpr λx=>?_));exists λh=>?_,λh=>?_
 .unfold lsG at h;rw[take_length] at h;obtain⟨g,hg,hx⟩:=mem_flatten.mp h;obtain⟨hg,ha⟩:=mem_filter.mp hg;obtain⟨e,he,rfl⟩:=mem_map.mp hg;rw[vU he] at hx ha;obtain⟨q,h1,h2,rfl⟩:=mem_iff.mp hx;refine mem_map.mpr ⟨q,pJ.mpr ⟨h1,λe' he' z=>?_⟩,rfl⟩;unfold apt at ha;have:(mem F m e.1).any (λx=>decide (x∈es.map λ(i:Nat)=>(i:Int)))=true:=any_eq_true.mpr ⟨(e':Int),mem_iff.mpr ⟨e',hes e' he',z.trans h2,rfl⟩,decide_eq_true (mem_map.mpr ⟨e',he',rfl⟩)⟩;rw[this] at ha
  cases ha
 .obtain⟨q,hq,rfl⟩:=mem_map.mp h;obtain⟨h1,h2⟩:=pJ.mp hq;obtain⟨p,hp,ep⟩:=pH F m q h1;unfold lsG;rw[take_length];refine mem_flatten.mpr ⟨mem F m (F p),mem_filter.mpr ⟨?_,?_⟩,mem_iff.mpr ⟨q,h1,ep.symm,rfl⟩⟩
  .rw[Aw,map_map];exact mem_map.mpr ⟨p,hp,rfl⟩
  .unfold apt
   cases c:(mem F m (F p)).any (λx=>decide (x∈es.map λ(i:Nat)=>(i:Int))) with
   |false=>rfl
   |true=>
    obtain⟨x,hx,hd⟩:=any_eq_true.mp c;obtain⟨q',a1,a2,rfl⟩:=mem_iff.mp hx;obtain⟨e,he,ee⟩:=mem_map.mp (of_decide_eq_true hd);have:e=q':=by lia
    subst this;exact absurd (a2.trans ep) (h2 e he)
end L2
namespace Mq
theorem Rc (l:Low p){a L:Int}(hL:1<=L)(h:val p=(a:Rat) / (L:Rat)):p.2 ∣ L/\p.1.natAbs<=a.natAbs:=by
 have h2:((p.2:Int):Rat)≠0:=by have:=l.pos;exact_mod_cast (show p.2≠0 by lia)
 have hl:((L:Int):Rat)≠0:=by exact_mod_cast (show L≠0 by lia)
 have e:p.1*L=a*p.2:=by
  unfold val at h;have:((p.1:Int):Rat)*(L:Rat)=(a:Rat)*((p.2:Int):Rat):=by grind
  exact_mod_cast this
 have d:p.2 ∣ L:=by
  have c:Int.gcd p.2 p.1=1:=by
   have:=l.one;unfold gc at this;rw[Int.gcd_comm];exact_mod_cast this
  have c':Nat.Coprime p.2.natAbs p.1.natAbs:=c;have dv:p.2.natAbs ∣ p.1.natAbs*L.natAbs:=by
   rw[<- Int.natAbs_mul,e,Int.natAbs_mul];exact Nat.dvd_mul_left ..
  exact Int.natAbs_dvd_natAbs.mp (c'.dvd_of_dvd_mul_left dv)
 obtain⟨t,ht⟩:=d;have t1:t≠0:=λz=>by rw[z,Int.mul_zero] at ht;lia
 have e2:p.1*t=a:=by
  have:p.2*(p.1*t)=p.2*a:=by
   rw[Int.mul_comm p.2 a,<- e,ht,<- Int.mul_assoc,<- Int.mul_assoc,Int.mul_comm p.2 p.1]
  exact Int.eq_of_mul_eq_mul_left (by have:=l.pos;lia) this
 exists ⟨t,ht⟩,?_;rw[<- e2,Int.natAbs_mul];exact Nat.le_mul_of_pos_right _ ()
end Mq
namespace L2
open PySem PySem.Spec PyProof.Rows Shp
theorem Ov (l:Low p)(hL:1<=L)(LB:Mq.B b L)(ab:Mq.B b a)(h:Mq.val p=(a:Rat) / (L:Rat)):Mq.Bd b p/\p.2 ∣ L:=by
 obtain⟨d,t⟩:=Mq.Rc l hL h;exists ⟨ab.le t,LB.le ?_⟩,d;have:=Int.le_of_dvd () d;have:=l.pos;lia
end L2
namespace Mq
def Fr (L:Int)(M:Nat)(x:Rat):Prop:=∃a:Int,x=(a:Rat) / (L:Rat)/\a.natAbs<=M*L.natAbs
section
variable {L K:Int} {M N:Nat} {x y:Rat}
theorem Ef (h:1<=L):((L:Int):Rat)≠0:=by exact_mod_cast (show L≠0 by lia)
theorem Fr.mono (h:Fr L M x)(l:M<=N):Fr L N x:=by
 obtain⟨a,e,b⟩:=h;exists a,e,Nat.le_trans b (Nat.mul_le_mul_right _ l)
theorem Fr.zero:Fr L 0 0:=⟨0,by rw[show ((0:Int):Rat)=0 by rfl,Rat.div_def];grind,⋯⟩
theorem Fr.one (h:1<=L):Fr L 1 1:=⟨L,by have:=Ef h;grind,()⟩
theorem Fr.add (h:Fr L M x)(g:Fr L N y):Fr L (M+N) (x+y):=by
 obtain⟨a,ea,ba⟩:=h;obtain⟨b,eb,bb⟩:=g;exists a+b,?_,?_
 .rw[ea,eb,Rat.intCast_add,Rat.div_def,Rat.div_def,Rat.div_def];grind
 .rw[Nat.add_mul];have:=Int.natAbs_add_le a b;lia
theorem Fr.neg (h:Fr L M x):Fr L M (-x):=by
 obtain⟨a,ea,ba⟩:=h;refine⟨-a,?_,by rw[Int.natAbs_neg];exact ba⟩;rw[ea,Rat.intCast_neg,Rat.div_def,Rat.div_def];grind
theorem Fr.mul (hL:1<=L)(hK:1<=K)(h:Fr L M x)(g:Fr K N y):Fr (L*K) (M*N) (x*y):=by
 obtain⟨a,ea,ba⟩:=h;obtain⟨b,eb,bb⟩:=g;exists a*b,?_,?_
 .have:=Ef hL;have:=Ef hK;rw[ea,eb,Rat.intCast_mul,Rat.intCast_mul];grind
 .rw[Int.natAbs_mul,Int.natAbs_mul];have:=Nat.mul_le_mul ba bb;rw[show M*N*(L.natAbs*K.natAbs)=M*L.natAbs*(N*K.natAbs) by rw[Nat.mul_assoc,Nat.mul_assoc,Nat.mul_left_comm N]];exact this
theorem Fr.lift (hL:1<=L)(hK:1<=K)(h:Fr L M x):Fr (L*K) M x:=by
 have:=Fr.mul hL hK h (Fr.one hK)
 rwa [Nat.mul_one,Rat.mul_one] at this
theorem Fr.of (hL:1<=L){t b:Int}(hb:1<=b)(d:b ∣ L)(ht:t.natAbs<=M):Fr L M ((t:Rat) / (b:Rat)):=by
 obtain⟨k,rfl⟩:=d;have k1:1<=k:=by
  rcases Int.lt_or_le k 1 with z | z
  .have:=Int.mul_nonpos_of_nonneg_of_nonpos (show 0<=b by lia) (show k<=0 by lia);lia
  .exact z
 exists t*k,?_,?_
 .have:=Ef hb;have:=Ef k1;rw[Rat.intCast_mul,Rat.intCast_mul];grind
 .rw[Int.natAbs_mul,Int.natAbs_mul];refine Nat.mul_le_mul ht (Nat.le_mul_of_pos_left _ ())
end
end Mq
namespace L2
theorem Rt (s g x:Nat):dl s g x=1\/dl s g x=0\/dl s g x=-1:=by
 unfold dl
 by_cases a:s=x<;>by_cases b:g=x<;>simp only[a,b,if_true,if_false]
 .exact .inr (.inl (by grind))
 .exact .inl (by grind)
 .exact .inr (.inr (by grind))
 .exact .inr (.inl (by grind))
theorem Tg (h:Mq.Fr L M y)(s g x:Nat):Mq.Fr L M (dl s g x*y):=by
 rcases Rt s g x with e | e | e
 .rw[e,Rat.one_mul];exact h
 .rw[e,Rat.zero_mul];exact Mq.Fr.zero.mono (Nat.zero_le _)
 .rw[e,show (-1:Rat)*y=-y by grind];exact h.neg
open PySem PySem.Spec PyProof.Rows Shp
abbrev Ent:=Option Nat × RD × Mq.Q2
end L2
namespace Mq
theorem qa3 (n w:Nat)(y:Nat->Rat)(W:Nat->Nat->Rat)(g:Nat->Rat):(rs w λj=>(rs n λi=>y i*W i j)*g j)=rs n λi=>y i*rs w λj=>W i j*g j:=by
 induction n with
 |zero=>
  show (rs w λj=>(0:Rat)*g j)=0;rw[show (λj=>(0:Rat)*g j)=λ_=>0 from funext λj=>Rat.zero_mul _,dQ]
 |succ n ih=>
  show (rs w λj=>((rs n λi=>y i*W i j)+y n*W n j)*g j)=(rs n λi=>y i*rs w λj=>W i j*g j)+y n*rs w λj=>W n j*g j;rw[<- ih,<- eQ,<- eH];exact aK λj _=>by grind
theorem Wx (hn:n<=w){F:Nat->Rat}(h:∀j,j < n->F j=0):rs w F=rs (w - n) λj=>F (n+j):=by
 induction n with
 |zero=>rw[Nat.sub_zero];exact aK λj _=>by rw[Nat.zero_add]
 |succ n ih=>
  rw[ih () λj hj=>h j ()];obtain⟨v,hv⟩:∃v,w - n=v+1:=⟨w - n - 1,()⟩
  rw[hv,wK,show w - (n+1)=v by lia,Nat.add_zero,h n (),Rat.zero_add];exact aK λj _=>by rw[show n+(j+1)=n+1+j by lia]
theorem Tv {d:Int}(B:Bar m A (at2 R) r col (d:Rat) c)(hl:R.length=m)(hw:∀i,i < m->(R.getD i []).length=w)(hr:r < m)(hc:col < w)(he:ent R r col≠0):Bar m A (at2 (cE R r col d)) (r+1) (col+1) ((ent R r col:Int):Rat) (c1 c r col):=by
 have heq:at2 R r col≠0:=λz=>he (Rat.intCast_inj.mp (by unfold at2 at z;simpa using z));have h:SI m w A R r col d 1:=⟨hl,hw,⟨A,c,B,⋯⟩,.inl rfl⟩
 refine(B.clear hr heq).congr λi hi=>?_
 funext x
 show clr (at2 R) r col (d:Rat) i x=((((cE R r col d).getD i []).getD x 0:Int):Rat)
 rw[nQ ()]
 by_cases hir:i=r
 .rw[if_pos hir,hir,vL];rfl
 .rw[if_neg hir];obtain⟨z,h1,h2,_⟩:=Ag h B hr hc he hi hir x;rw[h1,h2]
end Mq
namespace L2
open PySem PySem.Spec PyProof.Rows
section
variable {X:Cx}
theorem yE:OpR X (compareOp .IsNot) (λx y H Q=>∃i b,x=.int i/\y=.bl b/\Q (.bl true) H):=by
 intro pins s σ H x y v u Q I rx ry h;obtain⟨i,b,rfl,rfl,q⟩:=h;obtain⟨t,rfl⟩:=rx
 cases ry
 unfold compareOp;exact wpAny_pure ⟨.bl true,H,I,rfl,q⟩
end
section
variable {K:Frag} {x qual:Str} {st:Stmt} {dV:Value} {f:Addr} {fd:FuncData}
theorem aX.b1 (a:Str)(F:aX K x qual st dV f fd)(h:∀(kV doc pm:Value) (an:Option Addr) (cdv ct u:Value),bindArgs (W.fnOf x qual (fM st) (eK st) (aH st) dV kV doc pm an cdv ct) ⟨[u],[]⟩=pure [(a,u)]):aL K fd [a] []:=
 F.binds λk d p n c t us hl=>match us,hl with | [_],_=>h k d p n c t _
theorem aX.b2 (a b:Str)(F:aX K x qual st dV f fd)(h:∀(kV doc pm:Value) (an:Option Addr) (cdv ct u v:Value),bindArgs (W.fnOf x qual (fM st) (eK st) (aH st) dV kV doc pm an cdv ct) ⟨[u,v],[]⟩=pure [(a,u),(b,v)]):aL K fd [a,b] []:=
 F.binds λk d p n c t us hl=>match us,hl with | [_,_],_=>h k d p n c t _ _
theorem aX.b3 (a b c:Str)(F:aX K x qual st dV f fd)(h:∀(kV doc pm:Value) (an:Option Addr) (cdv ct u v w:Value),bindArgs (W.fnOf x qual (fM st) (eK st) (aH st) dV kV doc pm an cdv ct) ⟨[u,v,w],[]⟩=pure [(a,u),(b,v),(c,w)]):aL K fd [a,b,c] []:=
 F.binds λk d p n c t us hl=>match us,hl with | [_,_,_],_=>h k d p n c t _ _ _
theorem aX.b4 (a b c e:Str)(F:aX K x qual st dV f fd)(h:∀(kV doc pm:Value) (an:Option Addr) (cdv ct u v w z:Value),bindArgs (W.fnOf x qual (fM st) (eK st) (aH st) dV kV doc pm an cdv ct) ⟨[u,v,w,z],[]⟩=pure [(a,u),(b,v),(c,w),(e,z)]):aL K fd [a,b,c,e] []:=
 F.binds λk d p n c t us hl=>match us,hl with | [_,_,_,_],_=>h k d p n c t _ _ _ _
theorem aX.b6 (a b c e g i:Str)(F:aX K x qual st dV f fd)(h:∀(kV doc pm:Value) (an:Option Addr) (cdv ct u v w z y x1:Value),bindArgs (W.fnOf x qual (fM st) (eK st) (aH st) dV kV doc pm an cdv ct) ⟨[u,v,w,z,y,x1],[]⟩=pure [(a,u),(b,v),(c,w),(e,z),(g,y),(i,x1)]):aL K fd [a,b,c,e,g,i] []:=
 F.binds λk d p n c t us hl=>match us,hl with | [_,_,_,_,_,_],_=>h k d p n c t _ _ _ _ _ _
end
end L2
namespace K54
open PySem L2
variable {CR:Addr}{CK fW fJ fT fS:Kd->Addr}{fdW fdJ fdT fdS:Kd->FuncData}
structure D9 (P:Program)(w:World)(K:Frag)(mg:Str->Option Value)(base:Heap)(j:Nat)(g:Addr)(gd:FuncData)(ps:List Str)(sp:Sp)(nm:Str):Prop where
 G:aJ P w K mg base CX0 j g gd ps sp
 b:aL K gd ps []
 k:kI9 K g
 m:mI9 mg nm g
theorem d9 (D:D9 X.prog X.w X.K X.mg X.base k f fd ps sp x)(hr:gR k X.A)(hg:Gl X x)(ha:PA X (e :: es) t)(hdb:(x == ("__debug__":Str))=false:=by decide)(he:starEach (e :: es) X.env=(false,eval e X.env) :: starEach es X.env:=by rfl)(hpl:(backTo pos (starEach es X.env)).any (·.1)=false:=by rfl):PE X (.Call (.Name x p) (e :: es) [] pos) (ql6 sp [] E0 t):=aI D.G hr hg D.m D.k D.b .nil aM ha hdb he hpl
def top (i:Nat):Stmt:=PySem.Challenge.pw_ohmyard_k54_brought_by_inner_heights.main.body.getD i (.Pass ⟨0,0,0,0⟩)
abbrev Fu:Stmt:=top 15
theorem Xz:aQ ["thing"] ["thing"] (aH Fu):=sK9
abbrev sGc:Stmt:=top 17
theorem Xf:aQ ["one","other","rest"] ["one","other"] (aH sGc):=sK9
abbrev Jc:Stmt:=top 23
theorem Wm:aQ ["one","other"] ["one","other"] (aH Jc):=sK9
abbrev lQ:Stmt:=top 18
theorem Gh:aQ ["top","bottom","shared"] ["top","bottom"] (aH lQ):=sK9
abbrev Io:Stmt:=top 20
theorem Wq:aQ ["one","other"] ["one","other"] (aH Io):=sK9
abbrev Pn:Stmt:=top 19
theorem qg8:aQ ["one","other"] ["one","other"] (aH Pn):=sK9
abbrev Jg:Stmt:=dD (top 30) 0
theorem Vz:aQ ["self","start","goal","size"] ["self","start","goal","size"] (aH Jg):=sK9
abbrev wQ:Stmt:=dD (top 31) 0
theorem Lw:aQ ["self"] ["self"] (aH wQ):=sK9
abbrev wW:Stmt:=dD (top 32) 0
theorem Ly:aQ ["self"] ["self"] (aH wW):=sK9
abbrev uQ:Stmt:=dD (top 33) 0
theorem Nz:aQ ["self"] ["self"] (aH uQ):=sK9
abbrev Iy:Stmt:=dD (top 30) 1
theorem Xo:aQ ["self"] ["self"] (aH Iy):=sK9
abbrev Iv:Stmt:=top 34
theorem Kh:aQ ["told","word"] ["told"] (aH Iv):=sK9
abbrev qf9:Stmt:=top 16
theorem qk3:aQ ["thing"] ["thing"] (aH qf9):=sK9
abbrev sPS:Stmt:=top 35
theorem qr7:aQ ["thing"] ["thing"] (aH sPS):=sK9
abbrev sNB:Stmt:=top 40
theorem qq7:aQ ["thing","bound"] ["thing","bound"] (aH sNB):=sK9
abbrev sRS:Stmt:=top 43
theorem qs0:aQ ["word","size"] ["word","size"] (aH sRS):=sK9
theorem oM:(["point","many"]:List Str).Nodup:=by decide +kernel
inductive qf2 (K:Frag) (vs:List V) (H:Hp) (Q:VK) (E:XK):Prop where
 |mk (l:Addr) (i j m:Int):vs=[.ref l,.int m]->SqL K H l [.int i,.int j]->0<=i->i < m->0<=j->j < m->(∀H',aP H H'->Q .non H')->qf2 K vs H Q E
inductive qh2 (vs:List V) (H:Hp) (Q:VK) (E:XK):Prop where
 |mk (k c:Int):vs=[.int k,.int c]->0<=k->k < c->Q .non H->qh2 vs H Q E
abbrev sRP:Stmt:=top 41
theorem qr4:aQ ["some","many"] ["some","many"] (aH sRP):=sK9
abbrev Gv:Stmt:=dD (top 39) 0
theorem Xa:aQ ["self","many"] ["self","many"] (aH Gv):=sK9
abbrev Pa:Stmt:=dD (top 39) 1
theorem qb1:aQ ["self"] ["self"] (aH Pa):=sK9
abbrev Iq:Stmt:=dD (top 39) 6
theorem Vc:aQ ["self"] ["self"] (aH Iq):=sK9
abbrev qh8:Stmt:=dD (top 39) 3
theorem Zi:aQ ["self","row","told"] ["self","row"] (aH qh8):=sK9
theorem Wi:(["told"]:List Str).Nodup:=by decide +kernel
abbrev So:Stmt:=dD (top 39) 5
theorem Zt:aQ ["self"] ["self"] (aH So):=sK9
theorem Er (F:aJ P w K mg base CX0 2 g gd ["thing"] (Jl K)):aJ P w K mg base CX0 2 g gd ["thing"] (Km K):=
 F.weak λvs H Q E h=>by
  obtain⟨a,p,rfl,f,l,q⟩:=h;exists _,some p,rfl,.fr f l,q
theorem Lf {f:Str}(h:X.K=K)(he:PE X e ta)(hb:attributeBase e f X.env (eval e X.env)=eval e X.env):PE X (.Attribute e f pos) (qn0 K ta f):=by subst h;exact cT he hb
abbrev Gf:Stmt:=top 21
theorem Wc:aQ ["one","other"] ["one","other"] (aH Gf):=sK9
abbrev Sj:Stmt:=top 22
theorem qh3:aQ ["one","other"] ["one","other"] (aH Sj):=sK9
abbrev Ix:Stmt:=top 24
theorem uJ:aQ ["some","so_far","one"] ["some"] (aH Ix):=sK9
abbrev Hq:Stmt:=top 60
theorem Wk:aQ ["line","column","amount"] ["line","column","amount"] (aH Hq):=sK9
abbrev Il:Stmt:=top 59
theorem Yk:aQ ["matrix","row","column","amount"] ["matrix","row","column","amount"] (aH Il):=sK9
abbrev Ax:Stmt:=top 57
theorem Eb:aQ ["matrix","row","share"] ["matrix","row"] (aH Ax):=sK9
abbrev Bh:Stmt:=top 58
theorem Qo:aQ ["right","row"] ["right","row"] (aH Bh):=sK9
open Shp
theorem xT:(["one","bottom"]:List Str).Nodup:=by decide +kernel
abbrev sIW:Stmt:=top 48
theorem Ya:aQ ["some","bottom","one"] ["some"] (aH sIW):=sK9
theorem Ba:(["top","pivot"]:List Str).Nodup:=by decide +kernel
abbrev Ho:Stmt:=top 50
theorem Uw:aQ ["tops","pivot"] ["tops","pivot"] (aH Ho):=sK9
abbrev qa5:Stmt:=top 52
theorem Zd:aQ ["rows","rank","column","place"] ["rows","rank","column"] (aH qa5):=sK9
theorem eJ:(["here","above","own","other","divisor"]:List Str).Nodup:=by decide +kernel
abbrev qb4:Stmt:=top 54
theorem Sa:aQ ["row","upper","column","divisor","own","other"] ["row","upper","column","divisor"] (aH qb4):=sK9
theorem dG:(["place","row","upper","rank","divisor","column"]:List Str).Nodup:=by decide +kernel
abbrev uS:Stmt:=top 53
theorem xY:aQ ["rows","rank","column","divisor","upper"] ["rows","rank","column","divisor"] (aH uS):=sK9
abbrev Sh:Stmt:=top 51
theorem iS:aQ ["rows","width","rank","pivot","sign","column","place","lifted"] ["rows","width"] (aH Sh):=sK9
theorem tD:(["row","side"]:List Str).Nodup:=by decide +kernel
theorem tL:(["row","many","end"]:List Str).Nodup:=by decide +kernel
abbrev Ca:Stmt:=top 46
theorem qR:aQ ["matrix","right","many","rows","end"] ["matrix","right"] (aH Ca):=sK9
theorem qY (xs:List V)(k:Nat):jA xs (some (k:Int)) none=xs.drop k:=by
 unfold jA;have h1:HT.sIx xs.length xs.length none=xs.length:=rfl;have h2:HT.sIx xs.length 0 (some (k:Int))=min k xs.length:=by simp[HT.sIx];lia
 rw[h1,h2]
 by_cases h:k<=xs.length
 .rw[Nat.min_eq_left h,take_of_length_le ⋯]
 .rw[Nat.min_eq_right (),drop_of_length_le (Nat.le_refl _),drop_of_length_le ()];simp
def RdC (m c w k:Nat)(X:List (List Mq.Q2)):Prop:=X.length=m/\m<=31/\m<=w/\w<=40/\c<=m/\1<=k/\10+k+k*w<=8000/\bw (k+k) m+k<=8900/\∃L:Int,1<=L/\Mq.B k L/\∀row∈X,row.length=w/\∀p∈row,1<=p.2/\Mq.Bd k p/\p.2 ∣ L
theorem Py:(["row"]:List Str).Nodup:=by decide +kernel
theorem iC:(["left","row","end","count"]:List Str).Nodup:=by decide +kernel
abbrev qd8:Stmt:=top 47
theorem Og:aQ ["matrix","count","rows","end"] ["matrix","count"] (aH qd8):=sK9
theorem jY (h:X.K=K):kI X (.type "list") (λxs H Q=>∃p ys,xs=[.ref p]/\(SqL K H p ys\/SqT K H p ys)/\∀l,H l=none->Q (.ref l) (upd H l (.lst ys))):=by subst h;exact cO
theorem tW:(["line"]:List Str).Nodup:=by decide +kernel
abbrev Uq:Stmt:=dD (top 62) 2
theorem qh9:aQ ["self"] ["self"] (aH Uq):=sK9
abbrev Gj:Stmt:=dD (top 62) 1
theorem Vx:aQ ["self"] ["self"] (aH Gj):=sK9
abbrev Cd:Stmt:=dD (top 62) 3
theorem Pe:aQ ["self"] ["self"] (aH Cd):=sK9
abbrev Ga:Stmt:=dD (top 62) 0
theorem Vy:aQ ["self","ends","matrix","comes"] ["self","ends","matrix","comes"] (aH Ga):=sK9
theorem iJ (h:X.K=K):OpR X (compareOp .NotIn) (rIn K true):=by subst h;exact Cq
theorem We (p c:Int):eqV (.int p) (.int c)=decide (p=c):=by unfold eqV;first | rfl | simp
theorem kK (c:Int):∀ps:List Int,inV (.int c) (ps.map V.int)=decide (c∈ps)
 | []=>rfl
 |p :: ps=>by
  have ih:=kK c ps;show (eqV (.int p) (.int c) || inV (.int c) (ps.map V.int))=_;rw[ih,We]
  by_cases h:p=c
  .subst h;simp
  .have h':c≠p:=λz=>h z.symm;simp[h,h']
theorem iX:∀ps:List Int,(ps.map V.int).all oO=true
 | []=>rfl
 |p :: ps=>by show (true && (ps.map V.int).all oO)=true;rw[iX ps];rfl
abbrev iA (ks:List Nat):List V:=ks.map λ(i:Nat)=>V.int (i:Int)
def dB (ks:List Nat)(X:List (List Mq.Q2)):List (List Mq.Q2):=ks.map λi=>ks.map λj=>Mq.ix2 X i j
inductive qA (K:Frag) (vs:List V) (H:Hp) (Q:VK) (E:XK):Prop where
 |mk (g l:Addr) (us:List V) (X:List (List Mq.Q2)) (ks:List Nat) (w:Nat):vs=[.ref g,.ref l]->SqL K H g us->Lns K H us X->X.length=w->(∀row∈X,row.length=w)->SqL K H l (iA ks)->(∀k∈ks,k < w)->ks.length<=100->(∀l' zs H',aP H H'->H' l'=some (.lst zs)->LnH K H' zs (dB ks X)->Q (.ref l') H')->qA K vs H Q E
theorem lW:(["line","places","matrix"]:List Str).Nodup:=by decide +kernel
theorem lV:(["column","matrix","line"]:List Str).Nodup:=by decide +kernel
abbrev Ud:Stmt:=top 65
theorem qh4:aQ ["matrix","places"] ["matrix","places"] (aH Ud):=sK9
theorem qe6 (hK:X.K=K){T id:String}(pa:PySem.PlainAttrs T)(slot:PySem.Slot T name id)(hty:typeOf (.builtin id)=pure (.type "method_descriptor"))(hm:MtR X id r)(ho:PE X o to)(ha:PA X (e :: es) t)(hbase:attributeBase o name X.env (eval o X.env)=eval o X.env:=by rfl)(hfew:((backTo cpos (starEach (e :: es) X.env)).all (λx=>!x.1) && (backToKw cpos (keywordEach [] X.env)).all (λx=>x.1.isSome)
   && decide ((e :: es).length+([]:List Keyword).length+(if ([]:List Keyword).isEmpty then 0 else 1) < 30))=true:=by rfl)(hline:(apos.endLine == cpos.line)=true:=by rfl)(hs:starEach (e :: es) X.env=(false,eval e X.env) :: starEach es X.env:=by rfl)(hplain:(backTo cpos (starEach es X.env)).any (·.1)=false:=by rfl):
  PE X (.Call (.Attribute o name apos) (e :: es) [] cpos) (tBM K T r to t):=by subst hK;exact oQ pa slot hty hm ho ha hbase hfew hline hs hplain
theorem Oo (xs:List V)(h:1<=xs.length):jA xs none (some (-1))=xs.take (xs.length - 1):=by
 unfold jA;have h1:HT.sIx xs.length 0 none=0:=rfl;have h2:HT.sIx xs.length xs.length (some (-1))=xs.length - 1:=by simp[HT.sIx];lia
 rw[h1,h2];rfl
theorem Vu {xs:List V}(hl:xs.length=n+1)(h:xs[n]?=some v):atI xs (-1)=some v:=by
 have e:xs=xs.take n++[v]:=by
  have:=take_append_drop n xs;have d:xs.drop n=[v]:=by
   refine ext_getElem? λi=>?_;rw[getElem?_drop]
   cases i with
   |zero=>rw[Nat.add_zero,h];rfl
   |succ j=>rw[getElem?_eq_none ()];simp
  rw[d] at this;exact this.symm
 rw[e];exact Ro _ _
theorem yG (hx:H x=none)(hd:H dx=none)(nd:dx≠x)(s:cK x (upd (upd H dx (.own x)) x (.ins C dx [])) H'):aP H H':=λb o h=>by
 have n1:b≠x:=λz=>by rw[z,hx] at h;cases h
 have n2:b≠dx:=λz=>by rw[z,hd] at h;cases h
 exact s b o (by rw[aU n1,aU n2];exact h) n1
theorem Dx {K:Frag}{H:Hp}{x dx:Addr}{C:Addr}(hx:H x=none)(hd:H dx=none)(nd:dx≠x):aP H (upd (upd H dx (.own x)) x (.ins C dx [])):=λb o h=>by
 have n1:b≠x:=λz=>by rw[z,hx] at h;cases h
 have n2:b≠dx:=λz=>by rw[z,hd] at h;cases h
 rw[aU n1,aU n2];exact h
def jO (m:Nat):List Int:=(List.range m).map λ(i:Nat)=>(i:Int)
theorem Ek (m:Nat):(jO m).length=m:=by unfold jO;rw[length_map,length_range]
theorem Ac (h:i < m):(jO m)[i]?=some (i:Int):=by unfold jO;rw[getElem?_map,getElem?_range h];rfl
theorem Da (h:i < m):(i:Int)∈jO m:=mem_of_getElem? (Ac h)
theorem Wr (m:Nat):(jO m).Nodup:=by
 unfold jO;refine pairwise_map.mpr ((nodup_range (n:=m)).imp λ{a b} h z=>h ?_);lia
theorem Qh (h:i < m):(jO m).idxOf (i:Int)=i:=by
 have hl:i < (jO m).length:=by rw[Ek];exact h
 have e:=Ac h;rw[getElem?_eq_getElem hl] at e;injection e with e
 rw[<- e];exact(Wr m).idxOf_getElem i hl
abbrev ups (es:List Nat):List Int:=es.map λ(i:Nat)=>(i:Int)
theorem iQ (es:List Nat):(ups es).map V.int=iA es:=by rw[map_map];rfl
theorem nU {i:Nat}:(i:Int)∈ups es↔i∈es:=by
 exists λh=>?_,λh=>mem_map.mpr ⟨i,h,rfl⟩;obtain⟨j,hj,e⟩:=mem_map.mp h;have:j=i:=by lia
 rw[<- this];exact hj
def inn (m:Nat)(es:List Nat):List Nat:=(List.range m).filter λi=>decide (i∉es)
theorem mC (i:Nat)(es:List Nat):inn (i+1) es=inn i es++if i∈es then [] else [i]:=by
 unfold inn;rw[range_succ,filter_append]
 by_cases h:i∈es
 .simp[h]
 .simp[h]
theorem dI:i∈inn m es↔i < m/\i∉es:=by unfold inn;simp
theorem mY (m:Nat)(es:List Nat):(inn m es).length<=m:=by
 have:=length_filter_le (λi=>decide (i∉es)) (List.range m);rw[length_range] at this;exact this
theorem zZ:∀{es:List Nat},es.Nodup->(∀e∈es,e < m)->(inn m es).length+es.length=m:=λ{es} nd lt=>by
 have p:(inn m es++es).Nodup:=by
  refine nodup_append.mpr ⟨Pairwise.filter _ nodup_range,nd,λa ha b hb z=>?_⟩;exact(dI.mp ha).2 (z ▸ hb)
 have a:=p.length_le_of_subset (l₂:=List.range m) λx hx=>by
  rcases mem_append.mp hx with z | z
  .exact mem_range.mpr (dI.mp z).1
  .exact mem_range.mpr (lt x z)
 have b:=Nodup.length_le_of_subset (nodup_range (n:=m)) (l₂:=inn m es++es) λx hx=>by
  by_cases h:x∈es
  .exact mem_append.mpr (.inr h)
  .exact mem_append.mpr (.inl (dI.mpr ⟨mem_range.mp hx,h⟩))
 rw[length_range,List.length_append] at a b;lia
structure TbC (m k:Nat) (X:List (List Mq.Q2)) (cs:List Mq.Q2):Prop where
 m20:m<=20
 k1:1<=k
 lX:X.length=m
 lc:cs.length=m
 bits:10+k+k*(m+1)<=8000
 bits2:bw (k+k) m+k<=8900
 r:∃L:Int,1<=L/\Mq.B k L/\(∀row∈X,row.length=m/\∀p∈row,1<=p.2/\Mq.Bd k p/\p.2 ∣ L)/\∀p∈cs,1<=p.2/\Mq.Bd k p/\p.2 ∣ L
def znP (od:List Nat)(X:List (List Mq.Q2))(cs:List Mq.Q2):List (List Mq.Q2):=od.map λi=>(od.map λj=>Mq.ix2 X i j)++[cs.getD i Mq.z0]
theorem Bx:(znP od X cs).length=od.length:=by unfold znP;rw[length_map]
theorem Rs (h:i < od.length):(znP od X cs)[i]?=some ((od.map λj=>Mq.ix2 X (od.getD i 0) j)++[cs.getD (od.getD i 0) Mq.z0]):=by
 unfold znP;rw[getElem?_map,getD_eq_getElem?_getD,getElem?_eq_getElem h];rfl
theorem TbC.rd (h:TbC m k X cs)(lo:od.length=m)(om:∀i∈od,i < m)(hc:c<=m):RdC m c (m+1) k (znP od X cs):=by
 obtain⟨L,L1,LB,hX,hC⟩:=h.r;exists by rw[Bx,lo],by have:=h.m20;lia,(),by have:=h.m20;lia,hc,h.k1,h.bits,h.bits2,L,L1,LB,λrow hr=>?_;obtain⟨i,hi,rfl⟩:=mem_map.mp hr;have im:=om i hi;exists by rw[List.length_append,length_map,lo];rfl,λp hp=>?_;obtain⟨a,b⟩:=hX _ (mem_of_getElem? (iK (show i < X.length by rw[h.lX];exact im)));rcases mem_append.mp hp with z | z
 .obtain⟨j,hj,rfl⟩:=mem_map.mp z;exact b _ (mem_of_getElem? (dP (show j < (X.getD i []).length by rw[a];exact om j hj)))
 .rw[mem_singleton.mp z];exact hC _ (mem_of_getElem? (dP (show i < cs.length by rw[h.lc];exact im)))
theorem Dp:(["end","ends"]:List Str).Nodup:=by decide +kernel
theorem vA:(["point","table"]:List Str).Nodup:=by decide +kernel
theorem iT:(["line","place","table"]:List Str).Nodup:=by decide +kernel
abbrev qi7:Stmt:=top 64
theorem Cw:aQ ["table","ends","inner","order","lines","left"] ["table","ends"] (aH qi7):=sK9
structure TbD (n w:Nat) (X:List (List Mq.Q2)) (cs:List Mq.Q2):Prop where
 lX:X.length=w
 lc:cs.length=w
 w8:w<=8
 r:∀row∈X,row.length=w/\∀p∈row,Low p/\Mq.Bd n p
 c:∀p∈cs,Low p/\Mq.Bd n p
theorem TbD.cat {n w:Nat}(h:TbD n w X cs)(hi:i < w):Low (cs.getD i Mq.z0)/\Mq.Bd n (cs.getD i Mq.z0):=h.c _ (mem_of_getElem? (dP (by rw[h.lc];exact hi)))
theorem Pd:∀{ps:List Mq.Q2},(∀p∈ps,Mq.Bd n p)->Mq.Wt ps ((n+1)*ps.length)
 | [],_=>.nil
 |p :: r,h=>by
  have:=Mq.Wt.cons (h p ⋯) (Pd (ps:=r) λq hq=>h q (by simp[hq]));rw[length_cons,Nat.mul_add,Nat.mul_one,Nat.add_comm];exact this
def Au (ps qs:List Mq.Q2):List Mq.Q2:=zipWith tH ps qs
def dot (ps qs:List Mq.Q2):Mq.Q2:=tot (Au ps qs)
structure LB (n:Nat) (ps:List Mq.Q2):Prop where
 h:∀p∈ps,Low p/\Mq.Bd n p
theorem LB.at (h:LB n ps)(hi:i < ps.length):Low (ps.getD i Mq.z0)/\Mq.Bd n (ps.getD i Mq.z0):=h.h _ (mem_of_getElem? (dP hi))
theorem kR (hl:ps.length=qs.length):(Au ps qs).length=ps.length:=by unfold Au;rw[length_zipWith];lia
theorem Ai (hl:ps.length=qs.length)(hi:i < ps.length):(Au ps qs)[i]?=some (tH (ps.getD i Mq.z0) (qs.getD i Mq.z0)):=by
 unfold Au;rw[getElem?_zipWith,dP hi,dP (show i < qs.length by lia)]
theorem oB (hp:LB n ps)(hq:LB m qs)(hl:ps.length=qs.length):∀p∈Au ps qs,Low p/\Mq.Bd (n+m) p:=λp h=>by
 obtain⟨i,hi,rfl⟩:=getElem_of_mem h;rw[kR hl] at hi;have e:=Ai hl hi;rw[getElem?_eq_getElem (by rw[kR hl];exact hi)] at e;injection e with e
 rw[e];obtain⟨a1,a2⟩:=hp.at hi;obtain⟨b1,b2⟩:=hq.at (i:=i) ();exists Mq.Nr a1.pos b1.pos,Mq.Ul a2 b2 a1.pos b1.pos
theorem Ky (hp:LB n ps)(hq:LB m qs)(hl:ps.length=qs.length):Low (dot ps qs):=zU λp h=>(oB hp hq hl p h).1.pos
theorem Su (hp:LB n ps)(hq:LB m qs)(hl:ps.length=qs.length):Mq.Bd (1+(n+m+1)*ps.length) (dot ps qs):=by
 have:=Mq.qe5 (l:=Au ps qs) (λp h=>(oB hp hq hl p h).1.pos) (λp h=>(oB hp hq hl p h).2)
 rwa [kR hl] at this
theorem Ce (hp:LB n ps)(hq:LB m qs)(hl:ps.length=qs.length):Mq.val (dot ps qs)=Mq.rs ps.length λi=>Mq.val (ps.getD i Mq.z0)*Mq.val (qs.getD i Mq.z0):=by
 unfold dot;rw[Mq.Kn (λp h=>(oB hp hq hl p h).1.pos),Mq.vV,length_map,kR hl];refine aK λi hi=>?_;rw[getD_eq_getElem?_getD,getElem?_map,Ai hl hi];exact Mq.My (hp.at hi).1.pos (hq.at (i:=i) ()).1.pos
inductive Bw (K:Frag) (vs:List V) (H:Hp) (Q:VK) (E:XK):Prop where
 |mk (a b:Addr) (xs ys:List V) (ps qs:List Mq.Q2) (n m:Nat):vs=[.ref a,.ref b]->SqL K H a xs->Fqs K H xs ps->SqL K H b ys->Fqs K H ys qs->LB n ps->LB m qs->ps.length=qs.length->ps.length<=10->(n+m+1)*(ps.length+1)+8<=9000->(∀r H',aP H H'->Fq K H' r (dot ps qs)->Q (.ref r) H')->Bw K vs H Q E
def brL (X:List (List Mq.Q2))(cs hs:List Mq.Q2):List Mq.Q2:=zipWith (λrow c=>fZ (dot row hs) c) X cs
inductive nY (CT:Addr) (K:Frag) (vs:List V) (H:Hp) (Q:VK) (E:XK):Prop where
 |mk (t b:Addr) (es:List Int) (X:List (List Mq.Q2)) (cs hs:List Mq.Q2) (ys:List V) (n m w:Nat):vs=[.ref t,.ref b]->iL CT K H t es X cs->TbD n w X cs->SqL K H b ys->Fqs K H ys hs->LB m hs->hs.length=w->(n+m+1)*(w+1)+8<=9000->(∀l zs H',aP H H'->H' l=some (.lst zs)->Fqs K H' zs (brL X cs hs)->Q (.ref l) H')->nY CT K vs H Q E
theorem lM {n w:Nat}(h:TbD n w X cs)(hs:List Mq.Q2):(brL X cs hs).length=w:=by unfold brL;rw[length_zipWith,h.lX,h.lc];lia
theorem Om {n w:Nat}(h:TbD n w X cs)(hs:List Mq.Q2)(hi:i < w):(brL X cs hs)[i]?=some (fZ (dot (X.getD i []) hs) (cs.getD i Mq.z0)):=by
 unfold brL;rw[getElem?_zipWith,iK (by rw[h.lX];exact hi),dP (by rw[h.lc];exact hi)]
theorem TbD.lb {n w:Nat}(h:TbD n w X cs)(hi:i < w):(X.getD i []).length=w/\LB n (X.getD i []):=by
 have a:=h.r _ (mem_of_getElem? (iK (by rw[h.lX];exact hi)));exists a.1,⟨a.2⟩
theorem wH {n m w:Nat}(h:TbD n w X cs)(hh:LB m hs)(hl:hs.length=w)(hi:i < w):Low ((brL X cs hs).getD i Mq.z0)/\Mq.Bd (1+(n+m+1)*w+n+1) ((brL X cs hs).getD i Mq.z0)/\Mq.val ((brL X cs hs).getD i Mq.z0)=(Mq.rs w λj=>dU X i j*cv hs j) - cv cs i:=by
 obtain⟨l1,l2⟩:=h.lb hi;obtain⟨c1,c2⟩:=h.cat hi;have dl:=Ky l2 hh ();have db:=Su l2 hh ();rw[getD_eq_getElem?_getD,Om h hs hi];rw[l1] at db;exists Mq.qW dl.pos c1.pos,Mq.Dg db c2 dl.pos c1.pos,?_;show Mq.val (fZ (dot (X.getD i []) hs) (cs.getD i Mq.z0))=_;rw[oK dl.pos c1.pos,Ce l2 hh (),l1];rfl
theorem kL:(["number","height"]:List Str).Nodup:=by decide +kernel
abbrev Hr:Stmt:=top 63
theorem Wp:aQ ["line","heights"] ["line","heights"] (aH Hr):=sK9
theorem gN:(["line","arrival","heights"]:List Str).Nodup:=by decide +kernel
abbrev vK:Stmt:=dD (top 62) 4
theorem Np:aQ ["self","heights"] ["self","heights"] (aH vK):=sK9
abbrev rC:Stmt:=dD (top 31) 1
theorem Hb:aQ ["self"] ["self"] (aH rC):=sK9
abbrev rW:Stmt:=dD (top 32) 1
theorem Fw:aQ ["self"] ["self"] (aH rW):=sK9
abbrev rH:Stmt:=dD (top 33) 1
theorem Je:aQ ["self"] ["self"] (aH rH):=sK9
theorem dM {ec:List (Str × Addr)}:∀(x:Str) (c:Addr),([]:List (Str × Addr)).lookup x=some c->ec.lookup x=some c:=λ_ _ h=>by cases h
theorem bQ {ec cl:List (Str × Addr)}{a:Str}{d:Addr}(h:ec.lookup a=some d)(r:∀x c,cl.lookup x=some c->ec.lookup x=some c):∀x c,((a,d) :: cl).lookup x=some c->ec.lookup x=some c:=λx c e=>by
 rw[lookup_cons] at e
 cases q:x == a with
 |true=>rw[q] at e;rw[eq_of_beq q,h];exact e
 |false=>rw[q] at e;exact r x c e
inductive wU (K:Frag) (CK:Kd->Addr) (vs:List V) (H:Hp) (Q:VK) (E:XK):Prop where
 |mk (a x:Addr) (ms:List Int) (k:Kd) (s g:Nat) (z:V):vs=[.ref a,.ref x]->SqL K H a (ms.map V.int)->Rw CK H x k (.int (s:Int)) (.int (g:Int)) z->s < ms.length->g < ms.length->ms.length<=100->(∀l H',aP H H'->H l=none->H' l=some (.lst ((jn ms s g).map V.int))->Q (.ref l) H')->wU K CK vs H Q E
inductive zG (CN:Addr) (K:Frag) (vs:List V) (H:Hp) (Q:VK) (E:XK):Prop where
 |mk (n l:Addr) (m:Nat) (ds:List RD):vs=[.ref n]->dR CN K H n l (m:Int) ds->(∀d∈ds,gQ (m:Int) d.2.1 d.2.2.1)->m<=20->ds.length<=100->(∀l' H',aP H H'->H l'=none->H' l'=some (.lst ((mks m ds).map V.int))->Q (.ref l') H')->zG CN K vs H Q E
inductive uW (CN:Addr) (K:Frag) (vs:List V) (H:Hp) (Q:VK) (E:XK):Prop where
 |mk (n l:Addr) (m:Nat) (ds:List RD):vs=[.ref n]->dR CN K H n l (m:Int) ds->(∀d∈ds,gQ (m:Int) d.2.1 d.2.2.1)->1<=m->m<=20->ds.length<=100->(∀l' us H',aP H H'->H l'=none->H' l'=some (.lst us)->Ils H H' us ((grp (mk m ds) m).map (·.2))->(∀x∈us,x≠.ref l')->Q (.ref l') H')->uW CN K vs H Q E
theorem qJ:(["mark","lost","kept"]:List Str).Nodup:=by decide +kernel
abbrev By:Stmt:=top 28
theorem wG:aQ ["marks","row","kept","lost"] ["marks","row"] (aH By):=sK9
abbrev Hj:Stmt:=top 27
theorem uL:aQ ["net","marks","row"] ["net"] (aH Hj):=sK9
abbrev Bp:Stmt:=top 26
theorem qQ:aQ ["net","found","point","mark"] ["net"] (aH Bp):=sK9
def Mw (K:Frag)(H:Hp)(x:V):Prop:=(∃i,x=.int i)\/NW K H x
theorem Mw.same (s:aP H H')(h:Mw K H x):Mw K H' x:=h.imp id λ⟨t,a,b⟩=>⟨t,a.same s,b⟩
def tT (m:Int):V->Bool
 | .int i=>decide (0<=i/\i < m)
 |_=>false
theorem qm8 (h:NW K H x)(m:Int):tT m x=false:=by
 obtain⟨t,a,b⟩:=h
 cases x with
 |int i=>cases a;rcases b with b | b | b | b | b<;>(injection b with b;exact absurd b ∅)
 |_=>rfl
inductive Kl (K:Frag) (vs:List V) (H:Hp) (Q:VK) (E:XK):Prop where
 |mk (x:V) (b:Int):vs=[x,.int b]->Mw K H x->Q (.bl (tT b x)) H->Kl K vs H Q E
inductive Kx (K:Frag) (CP:Addr) (vs:List V) (H:Hp) (Q:VK) (E:XK):Prop where
 |mk (l:Addr) (xs:List V) (m:Int):vs=[.ref l,.int m]->SqL K H l xs->xs.length<=100->(∀x∈xs,Mw K H x)->(xs.all (tT m)=true->∀H',aP H H'->Q .non H')->(xs.all (tT m)=false->∀H',aP H H'->E (.ref CP) none H')->Kx K CP vs H Q E
inductive Bg (K:Frag) (C:Addr) (vs:List V) (H:Hp) (Q:VK) (E:XK):Prop where
 |mk (x l:Addr) (xs:List V):vs=[.ref x,.ref l]->H x=some (lU x (.ref C) none)->SqL K H l xs->xs.length<=1000->(∀dx l2 H',H dx=none->H l2=none->dx≠x->l2≠x->(∀b o,H b=some o->b≠x->H' b=some o)->H' x=some (lU x (.ref C) (some dx))->H' dx=some (.xd [("points",.ref l2)])->H' l2=some (.lst xs)->Q .non H')->Bg K C vs H Q E
inductive Bq (C:Addr) (vs:List V) (H:Hp) (Q:VK) (E:XK):Prop where
 |mk (x:Addr) (i:Int):vs=[.ref x,.int i]->H x=some (lU x (.ref C) none)->(∀dx H',H dx=none->dx≠x->(∀b o,H b=some o->b≠x->H' b=some o)->H' x=some (lU x (.ref C) (some dx))->H' dx=some (.xd [("number",.int i)])->Q .non H')->Bq C vs H Q E
abbrev Gc:Stmt:=dD (top 10) 0
theorem Xw:aQ ["self","points"] ["self","points"] (aH Gc):=sK9
abbrev Hm:Stmt:=dD (top 11) 0
theorem Yh:aQ ["self","number"] ["self","number"] (aH Hm):=sK9
def jV (ds:List RD):Prop:=∀d∈ds,d.1≠.ho
def qq2 (ds:List RD)(i:Nat):Prop:=(∃d,ds[i]?=some d/\d.1=.ho)/\∀j d,j < i->ds[j]?=some d->d.1≠.ho
def EHo (CH:Addr)(H:Hp)(E:XK)(ds:List RD):Prop:=∀i,qq2 ds i->∀dx H',aP H H'->H' dx=some (.xd [("number",.int (i:Int))])->E (.ref CH) (some dx) H'
inductive Tj (CN CH:Addr) (K:Frag) (vs:List V) (H:Hp) (Q:VK) (E:XK):Prop where
 |mk (n l:Addr) (m:Int) (ds:List RD):vs=[.ref n]->dR CN K H n l m ds->ds.length<=100->(jV ds->∀H',aP H H'->Q .non H')->EHo CH H E ds->Tj CN CH K vs H Q E
theorem yF (s:aP H H1)(hx:H1 x=none)(keep:∀b u,(upd H1 x o) b=some u->b≠x->H4 b=some u):aP H (oU H4 x):=λb u e=>by
 have nb:b≠x:=λz=>by rw[z,s.free hx] at e;cases e
 rw[kE nb];exact keep b u (by rw[aU nb];exact s b u e) nb
abbrev qh0:Stmt:=top 44
theorem Oz:aQ ["net","number","row"] ["net"] (aH qh0):=sK9
theorem Hk (h:X.K=K):OpR X (compareOp .In) (rIn K false):=by subst h;exact Lz
theorem qg7 (h:ps∈(grp F m).map (·.2)):ps≠[]/\(∀x∈ps,x∈jO m)/\ps.length<=m:=by
 rw[Aw,map_map] at h;obtain⟨p,hp,rfl⟩:=mem_map.mp h;have pm:p < m:=by
  unfold kZ at hp;exact mem_range.mp (mem_filter.mp hp).1
 show mem F m (F p)≠[]/\(∀x∈mem F m (F p),x∈jO m)/\(mem F m (F p)).length<=m;unfold mem;exists λz=>?_,λx hx=>?_,?_
 .have:(p:Int)∈((List.range m).filter λq=>decide (F q=F p)).map λ(q:Nat)=>(q:Int):=mem_map.mpr ⟨p,mem_filter.mpr ⟨mem_range.mpr pm,⋯⟩,rfl⟩;rw[z] at this
  cases this
 .obtain⟨q,hq,rfl⟩:=mem_map.mp hx;exact Da (mem_range.mp (mem_filter.mp hq).1)
 .rw[length_map];have:=length_filter_le (λq=>decide (F q=F p)) (List.range m);rw[length_range] at this;exact this
inductive Ge (CN:Addr) (K:Frag) (vs:List V) (H:Hp) (Q:VK) (E:XK):Prop where
 |mk (n l b:Addr) (m:Nat) (ds:List RD) (es:List Nat):vs=[.ref n,.ref b]->dR CN K H n l (m:Int) ds->(∀d∈ds,gQ (m:Int) d.2.1 d.2.2.1)->1<=m->m<=20->ds.length<=100->H b=some (.lst ((ups es).map V.int))->(∀e∈es,e < m)->(∀l' H',aP H H'->H' l'=some (.lst ((ups (lsP (mk m ds) m es)).map V.int))->Q (.ref l') H')->Ge CN K vs H Q E
theorem oP:(["point","ends"]:List Str).Nodup:=by decide +kernel
abbrev Fs:Stmt:=top 69
theorem Cm:aQ ["net","ends","loose","group"] ["net","ends"] (aH Fs):=sK9
theorem qb7 (ns:List Int):(ddl ns).length=ns.length->ns.Nodup:=by
 refine vX (P:=λns=>(ddl ns).length=ns.length->ns.Nodup) (λ_=>nodup_nil) (λl y ih h=>?_) ns;rw[qT,List.length_append] at h;have le:=uT l;simp only[length_cons,length_nil] at h
 by_cases c:y∈ddl l
 .rw[if_pos c] at h;lia
 .rw[if_neg c,List.length_append] at h;simp only[length_cons,length_nil] at h;refine nodup_append.mpr ⟨ih (),⋯,λa ha b hb z=>?_⟩;have:b=y:=by simpa using hb
  exact c ((uG l y).mpr (by rw[<- this,<- z];exact ha))
theorem qc6 (h:ns.Nodup):(ddl ns).length=ns.length:=by
 have a:=uT ns;have b:=h.length_le_of_subset (λx hx=>(uG ns x).mpr hx);lia
theorem qa9 (h:es.Nodup):(ups es).Nodup:=pairwise_map.mpr (h.imp λ{a b} h z=>h ())
theorem qh1 {m:Nat}(h:∀e∈es,e < m):((ups es).map V.int).all (tT (m:Int))=true:=by
 refine all_eq_true.mpr λx hx=>?_;rw[iQ] at hx;obtain⟨i,hi,rfl⟩:=mem_map.mp hx;have:=h i hi;exact decide_eq_true ⟨(),()⟩
def NoL (K:Frag)(H:Hp)(x:V):Prop:=∃t,TyQ K H x t/\W.kitOne K t (.type "list")=some false
def qp4 (K:Frag)(H:Hp)(m:Nat)(x:V):Prop:=NoL K H x\/∃b xs,x=.ref b/\SqL K H b xs/\xs.length<=60/\(∀y∈xs,Mw K H y)/\(xs=[]\/xs.all (tT (m:Int))=false\/∃ns:List Int,xs=ns.map V.int/\¬ns.Nodup)
structure iO (m:Nat) (es:List Nat):Prop where
 ne:es≠[]
 nd:es.Nodup
 lt:∀e∈es,e < m
def ELo (CF:Addr)(H:Hp)(E:XK)(ps:List Nat):Prop:=∀dx l H',aP H H'->H' dx=some (.xd [("points",.ref l)])->H' l=some (.lst ((ups ps).map V.int))->E (.ref CF) (some dx) H'
def qf6 (CP CH CF:Addr)(K:Frag)(m:Nat)(ds:List RD)(x:V)(H:Hp)(E:XK)(q:List Nat->Addr->Prop):Prop:=
 (qp4 K H m x/\∀H',aP H H'->E (.ref CP) none H')\/
 ∃b es,x=.ref b/\H b=some (.lst ((ups es).map V.int))/\iO m es/\EHo CH H E ds/\(jV ds->lsP (mk m ds) m es≠[]->ELo CF H E (lsP (mk m ds) m es))/\(jV ds->lsP (mk m ds) m es=[]->q es b)
inductive Lh (CN CP CH CF:Addr) (K:Frag) (vs:List V) (H:Hp) (Q:VK) (E:XK):Prop where
 |mk (n l:Addr) (m:Nat) (ds:List RD) (x:V):vs=[.ref n,x]->dR CN K H n l (m:Int) ds->(∀d∈ds,gQ (m:Int) d.2.1 d.2.2.1)->1<=m->m<=20->ds.length<=100->(qf6 CP CH CF K m ds x H E λ_ _=>∀H',aP H H'->Q .non H')->Lh CN CP CH CF K vs H Q E
theorem EHo.same (h:EHo CH H E ds)(s:aP H H1):EHo CH H1 E ds:=λi f dx H' s' e=>h i f dx H' (s.trans s') e
theorem iY (g:iO m es):1<=es.length/\es.length<=m:=by
 exists ?_,?_
 .have:=g.ne
  cases es with
  |nil=>exact absurd rfl this
  |cons a r=>simp
 .have:=g.nd.length_le_of_subset (l₂:=List.range m) λx hx=>mem_range.mpr (g.lt x hx)
  rwa [length_range] at this
abbrev Hg:Stmt:=top 68
theorem Jx:aQ ["net","ends","loose"] ["net","ends"] (aH Hg):=sK9
structure Sq (m n:Nat) (X:List (List Mq.Q2)) (cs:List Mq.Q2):Prop where
 m1:1<=m
 m20:m<=20
 lX:X.length=m
 rX:∀row∈X,row.length=m/\∀p∈row,Low p/\Mq.Bd n p
 lc:cs.length=m
 rc:∀p∈cs,Low p/\Mq.Bd n p
 bits:10+n+n*(m+1)<=8000
theorem mE (f:Fq K H t p):∀n,Fqs K H (replicate n (.ref t)) (replicate n p)
 |0=>.nil
 |n+1=>.cons f (mE f n)
theorem nC (x:V):∀n,(replicate n [x]).flatten=replicate n x
 |0=>rfl
 |n+1=>by rw[replicate_succ,flatten_cons,nC x n];rfl
theorem Vj (w:Nat):MxB (replicate w (replicate w (0,1))) w w 1:=by
 exists length_replicate,λps hp=>?_,λps hp p hp'=>?_
 .rw[eq_of_mem_replicate hp,length_replicate]
 .rw[eq_of_mem_replicate hp] at hp';rw[eq_of_mem_replicate hp'];exists ⟨∅,∅⟩,⟨show (0:Nat) < 2 ^ 1 by decide,show (1:Nat) < 2 ^ 1 by decide⟩
theorem oG (w j:Nat):(replicate w ((0,1):Mq.Q2)).getD j (0,1)=(0,1):=by
 rw[getD_eq_getElem?_getD]
 cases e:(replicate w ((0,1):Mq.Q2))[j]? with
 |none=>rfl
 |some p=>exact eq_of_mem_replicate (mem_of_getElem? e)
theorem Qe (w i j:Nat):jX (replicate w (replicate w (0,1))) i j=(0,1):=by
 have e:(replicate w (replicate w ((0,1):Mq.Q2))).getD i []=[]\/(replicate w (replicate w ((0,1):Mq.Q2))).getD i []=replicate w (0,1):=by
  rw[getD_eq_getElem?_getD]
  cases e:(replicate w (replicate w ((0,1):Mq.Q2)))[i]? with
  |none=>exact .inl rfl
  |some ps=>exact .inr (eq_of_mem_replicate (mem_of_getElem? e))
 unfold jX;rcases e with e | e
 .rw[e];rfl
 .rw[e];exact oG w j
theorem Uz (w:Nat):LnB (replicate w (0,1)) w 1:=⟨length_replicate,λp hp=>by
 rw[eq_of_mem_replicate hp];exact⟨⟨∅,∅⟩,⟨show (0:Nat) < 2 ^ 1 by decide,show (1:Nat) < 2 ^ 1 by decide⟩⟩⟩
theorem qk8 (b:MxB M m m n)(lX:X.length=m)(rX:∀row∈X,row.length=m/\∀p∈row,Low p/\Mq.Bd n' p)(v:∀i j,i < m->j < m->Mq.val (jX M i j)=Mq.val (jX X i j)):M=X:=by
 refine qd6 b.h lX b.w (λrow hr=>(rX row hr).1) λi j hi hj=>?_;have g:=rX _ (mem_of_getElem? (iK (show i < X.length by lia)));exact qS (b.at hi hj).2.1 (g.2 _ (mem_of_getElem? (dP (by rw[g.1];exact hj)))).1 (v i j hi hj)
theorem qj2 (b:LnB R m n)(lc:cs.length=m)(rc:∀p∈cs,Low p/\Mq.Bd n' p)(v:∀i,i < m->Mq.val (R.getD i (0,1))=Mq.val (cs.getD i (0,1))):R=cs:=
 Um b.w lc λi hi=>qS (b.at hi).2.1 (rc _ (mem_of_getElem? (dP ()))).1 (v i hi)
inductive Ar (CN CT:Addr) (K:Frag) (vs:List V) (H:Hp) (Q:VK) (E:XK):Prop where
 |mk (n l:Addr) (m k b:Nat) (ds:List RD) (X:List (List Mq.Q2)) (cs:List Mq.Q2):vs=[.ref n]->dR CN K H n l (m:Int) ds->(∀d∈ds,xM (m:Int) d/\Mq.Bd k d.2.2.2)->jV ds->ds.length<=40->(4*k+20)*ds.length+4*k+30<=8900->Sq m b X cs->(∀i j,i < m->j < m->eqM m ds i j=Mq.val (jX X i j))->(∀i,i < m->eqR m ds i=Mq.val (cs.getD i (0,1)))->(∀x H',aP H H'->iL CT K H' x (jO m) X cs->Q (.ref x) H')->Ar CN CT K vs H Q E
abbrev Qq:Stmt:=top 70
theorem uU:aQ ["net","many","matrix","comes","row"] ["net"] (aH Qq):=sK9
structure TbV (m:Nat) (ds:List RD) (X:List (List Mq.Q2)) (cs:List Mq.Q2) (b k:Nat):Prop where
 sq:Sq m b X cs
 tc:TbC m k X cs
 vM:∀i j,i < m->j < m->eqM m ds i j=Mq.val (jX X i j)
 vR:∀i,i < m->eqR m ds i=Mq.val (cs.getD i (0,1))
structure sV (m:Nat) (ds:List RD):Prop where
 m8:m<=8
 m1:1<=m
 l40:ds.length<=40
 ok:∀d∈ds,xM (m:Int) d/\Mq.Bd 31 d.2.2.2
theorem sV.pt (h:sV m ds):∀d∈ds,gQ (m:Int) d.2.1 d.2.2.1:=λd hd=>⟨(h.ok d hd).1.1,(h.ok d hd).1.2.1,(h.ok d hd).1.2.2.1,(h.ok d hd).1.2.2.2.1⟩
abbrev qi4:Stmt:=top 66
theorem qn2:aQ ["net","ends"] ["net","ends"] (aH qi4):=sK9
theorem iZ (ks:List Nat)(X:List (List Mq.Q2)):(dB ks X).length=ks.length:=by unfold dB;rw[length_map]
theorem Rx:∀{us:List V} {X:List (List Mq.Q2)},us.length=X.length->(∀(i:Nat) (x:V) (ps:List Mq.Q2),us[i]?=some x->X[i]?=some ps->∃a xs,x=V.ref a/\a≠D/\H a=some (.lst xs)/\Fqs K H xs ps)->Fmd K (λ_=>none) D H us X
 | [],[],_,_=>.nil
 | [],_ :: _,h,_=>by simp at h
 |_ :: _,[],h,_=>by simp at h
 |x :: us,ps :: X,h,r=>by
  obtain⟨a,xs,rfl,n,e,f⟩:=r 0 x ps rfl rfl;exact .cons rfl n e f (Rx (by simpa using h) λi y qs h1 h2=>r (i+1) y qs (by simpa using h1) (by simpa using h2))
theorem q01:Low (0,1)/\Mq.Bd 1 (0,1):=⟨⟨∅,∅⟩,⟨show (0:Nat) < 2 ^ 1 by decide,show (1:Nat) < 2 ^ 1 by decide⟩⟩
def Fg (L:Int)(M:Nat)(d:RD):Prop:=(d.1=.pc->0 < Mq.val d.2.2.2/\Mq.Fr L M (1 / Mq.val d.2.2.2))/\(d.1=.pu->Mq.Fr L M (Mq.val d.2.2.2))
structure Szs (L:Int) (M k:Nat) (m:Nat) (ds:List RD):Prop where
 L1:1<=L
 LB:Mq.B k L
 hk:M*ds.length*L.natAbs < 2 ^ k
 k1:1<=k
 b1:10+k+k*(m+1)<=8000
 b2:bw (k+k) m+k<=8900
 rows:∀d∈ds,Fg L M d
theorem qj8 (h:Fg L M d)(nh:d.1≠.ho)(hh x y:Nat):Mq.Fr L M (cM d hh x y):=by
 unfold cM
 cases e:d.1 with
 |pc=>
  simp only;rw[Rat.mul_assoc];exact Tg (Tg (h.1 e).2 _ _ _) _ _ _
 |pu=>exact Mq.Fr.zero.mono ()
 |ho=>exact absurd e nh
theorem qj3 (h:Fg L M d)(nh:d.1≠.ho)(hh x:Nat):Mq.Fr L M (cR d hh x):=by
 unfold cR
 cases e:d.1 with
 |pc=>exact Mq.Fr.zero.mono ()
 |pu=>
  simp only;rw[show ∀a b:Rat,-a*b=-(a*b) from λa b=>by grind];exact(Tg (h.2 e) _ _ _).neg
 |ho=>exact absurd e nh
theorem Hx (x y:Nat):∀{ds:List RD} (hh:Nat),(∀d∈ds,Fg L M d)->jV ds->Mq.Fr L (M*ds.length) (eqM hh ds x y)
 | [],_,_,_=>Mq.Fr.zero
 |d :: r,hh,h,nh=>by
  have a:=qj8 (h d (mem_cons_self ..)) (nh d (mem_cons_self ..)) hh x y;have b:=Hx x y (ds:=r) (hh+jL d.1) (λc hc=>h c (mem_cons_of_mem _ hc)) (λc hc=>nh c (mem_cons_of_mem _ hc));exact(a.add b).mono (by rw[length_cons,Nat.mul_succ];lia)
theorem Iz (x:Nat):∀{ds:List RD} (hh:Nat),(∀d∈ds,Fg L M d)->jV ds->Mq.Fr L (M*ds.length) (eqR hh ds x)
 | [],_,_,_=>Mq.Fr.zero
 |d :: r,hh,h,nh=>by
  have a:=qj3 (h d (mem_cons_self ..)) (nh d (mem_cons_self ..)) hh x;have b:=Iz x (ds:=r) (hh+jL d.1) (λc hc=>h c (mem_cons_of_mem _ hc)) (λc hc=>nh c (mem_cons_of_mem _ hc));exact(a.add b).mono (by rw[length_cons,Nat.mul_succ];lia)
theorem Rk (hL:1<=L)(LB:Mq.B b L)(hM:M*L.natAbs < 2 ^ b)(h:Mq.Fr L M x):∃p:Mq.Q2,Low p/\Mq.val p=x/\Mq.Bd b p/\p.2 ∣ L:=by
 obtain⟨a,e,ab⟩:=h;have l0:L≠0:=by lia
 have lo:=gW (t:=a) l0;have ev:Mq.val (red a L)=x:=by rw[jP l0,e]
 have:=Ov (b:=b) lo hL LB (show Mq.B b a from Nat.lt_of_le_of_lt ab hM) (by rw[ev,e]);exists _,lo,ev,this.1,this.2
theorem Qw (nb:sV m ds)(sz:Szs L M k m ds)(nh:jV ds):∃X cs,TbV m ds X cs k k/\(∀row∈X,∀p∈row,p.2 ∣ L)/\∀p∈cs,p.2 ∣ L:=by
 have m8:=nb.m8;have h:=sz.rows;have L1:=sz.L1;have LB:=sz.LB;have hk:=sz.hk;have c1:=sz.b1;have c2:=sz.b2;have m1:=nb.m1;have l40:=nb.l40;have eM:∀i j,∃p:Mq.Q2,Low p/\Mq.val p=eqM m ds i j/\Mq.Bd k p/\p.2 ∣ L:=λi j=>Rk L1 LB hk (Hx i j m h nh);have eR:∀i,∃p:Mq.Q2,Low p/\Mq.val p=eqR m ds i/\Mq.Bd k p/\p.2 ∣ L:=λi=>Rk L1 LB hk (Iz i m h nh);have eM':∃f:Nat->Nat->Mq.Q2,∀i j,Low (f i j)/\Mq.val (f i j)=eqM m ds i j/\Mq.Bd k (f i j)/\(f i j).2 ∣ L:=⟨λi j=>Classical.choose (eM i j),λi j=>Classical.choose_spec (eM i j)⟩
 have eR':∃f:Nat->Mq.Q2,∀i,Low (f i)/\Mq.val (f i)=eqR m ds i/\Mq.Bd k (f i)/\(f i).2 ∣ L:=⟨λi=>Classical.choose (eR i),λi=>Classical.choose_spec (eR i)⟩
 obtain⟨f,hf⟩:=eM';obtain⟨g,hg⟩:=eR';have rw_:∀row∈(List.range m).map (λi=>(List.range m).map λj=>f i j),∃i,row=(List.range m).map λj=>f i j:=λrow hr=>by
  obtain⟨i,_,rfl⟩:=mem_map.mp hr;exists i,rfl
 have cell:∀row∈(List.range m).map (λi=>(List.range m).map λj=>f i j),row.length=m/\∀p∈row,Low p/\Mq.Bd k p/\p.2 ∣ L:=λrow hr=>by
  obtain⟨i,rfl⟩:=rw_ row hr;exists by rw[length_map,length_range],λp hp=>?_;obtain⟨j,_,rfl⟩:=mem_map.mp hp;exists (hf i j).1,(hf i j).2.2.1,(hf i j).2.2.2
 have side:∀p∈(List.range m).map g,Low p/\Mq.Bd k p/\p.2 ∣ L:=λp hp=>by
  obtain⟨j,_,rfl⟩:=mem_map.mp hp;exists (hg j).1,(hg j).2.2.1,(hg j).2.2.2
 exists (List.range m).map (λi=>(List.range m).map λj=>f i j),(List.range m).map g,⟨⟨m1,(),by rw[length_map,length_range],λrow hr=>⟨(cell row hr).1,λp hp=>⟨((cell row hr).2 p hp).1,((cell row hr).2 p hp).2.1⟩⟩,by rw[length_map,length_range],λp hp=>⟨(side p hp).1,(side p hp).2.1⟩,()⟩,⟨(),sz.k1,by rw[length_map,length_range],by rw[length_map,length_range],c1,c2,L,L1,LB,λrow hr=>⟨(cell row hr).1,λp hp=>⟨((cell row hr).2 p hp).1.pos,((cell row hr).2 p hp).2⟩⟩,λp hp=>⟨(side p hp).1.pos,(side p hp).2⟩⟩,λi j hi hj=>?_,λi hi=>?_⟩,λrow hr p hp=>((cell row hr).2 p hp).2.2,λp hp=>(side p hp).2.2
 .unfold jX;rw[getD_eq_getElem?_getD (l:=map _ _),getElem?_map,getElem?_range hi];show _=Mq.val (((List.range m).map λj=>f i j).getD j (0,1));rw[getD_eq_getElem?_getD,getElem?_map,getElem?_range hj];exact(hf i j).2.1.symm
 .rw[getD_eq_getElem?_getD,getElem?_map,getElem?_range hi];exact(hg i).2.1.symm
theorem zH (h:∀e∈es,F e=0):∀m,Mq.rs m F=Mq.rs (inn m es).length λj=>F ((inn m es).getD j 0)
 |0=>rfl
 |m+1=>by
  rw[mC]
  by_cases c:m∈es
  .rw[if_pos c,append_nil];show Mq.rs m F+F m=_;rw[h m c,zH h m,Rat.add_zero]
  .rw[if_neg c,List.length_append];show Mq.rs m F+F m=Mq.rs (inn m es).length _+F ((inn m es++[m]).getD (inn m es).length 0);rw[zH h m];congr 1
   .refine aK λj hj=>?_;rw[getD_eq_getElem?_getD,getD_eq_getElem?_getD,getElem?_append_left hj]
   .rw[getD_eq_getElem?_getD,getElem?_append_right (Nat.le_refl _),Nat.sub_self];rfl
theorem Ko {m:Nat}(y:Nat):∀(ds:List RD) (h:Nat),(∀d∈ds,gQ (m:Int) d.2.1 d.2.2.1)->jV ds->Mq.rs m (λq=>u q*eqM h ds q y)=nt u h ds y
 | [],h,_,_=>by
  rw[show (λq=>u q*eqM h [] q y)=λ_=>(0:Rat) from funext λq=>Rat.mul_zero _,dQ];rfl
 |d :: r,h,pt,nh=>by
  have ih:=Ko (u:=u) y r (h+jL d.1) (λc hc=>pt c (mem_cons_of_mem _ hc)) (λc hc=>nh c (mem_cons_of_mem _ hc));have p:=pt d (mem_cons_self ..);have n0:=nh d (mem_cons_self ..);have e:(λq=>u q*eqM h (d :: r) q y)=λq=>u q*cM d h q y+u q*eqM (h+jL d.1) r q y:=funext λq=>by
   show u q*(cM d h q y+eqM (h+jL d.1) r q y)=_;rw[Rat.mul_add]
  rw[e,eH,ih];show _=fw u d h*dl d.2.1.toNat d.2.2.1.toNat y+nt u (h+jL d.1) r y;congr 1;unfold cM fw
  cases k:d.1 with
  |pc=>
   simp only;have s:=Pc u (n:=m) (s:=d.2.1.toNat) (g:=d.2.2.1.toNat) (by have:=p.1;have:=p.2.1;lia) (by have:=p.2.2.1;have:=p.2.2.2;lia);have e2:(λq=>u q*(dl d.2.1.toNat d.2.2.1.toNat q*dl d.2.1.toNat d.2.2.1.toNat y*(1 / Mq.val d.2.2.2)))=λq=>(dl d.2.1.toNat d.2.2.1.toNat y*(1 / Mq.val d.2.2.2))*(u q*dl d.2.1.toNat d.2.2.1.toNat q):=funext λq=>by grind
   rw[e2,eQ,s];grind
  |pu=>
   simp only;rw[show (λq=>u q*(0:Rat))=λ_=>(0:Rat) from funext λq=>Rat.mul_zero _,dQ,Rat.zero_mul]
  |ho=>exact absurd k n0
theorem Mn {u:Nat->Rat}{m:Nat}(pt:∀d∈ds,gQ (m:Int) d.2.1 d.2.2.1)(nh:jV ds)(lt:∀e∈es,e < m)(le:lsP (mk m ds) m es=[])(pc:∀d∈ds,d.1=.pc->u d.2.1.toNat=u d.2.2.1.toNat)(ue:∀e∈es,u e=0)(hp:p < m):u p=0:=by
 have:p∉lsP (mk m ds) m es:=by rw[le];exact not_mem_nil
 have ex:∃e∈es,mk m ds e=mk m ds p:=Classical.byContradiction λz=>this (pJ.mpr ⟨hp,λe he ee=>z ⟨e,he,ee⟩⟩);obtain⟨e,he,ee⟩:=ex;have c:=(qp1 pt (lt e he) hp).mp ee;have:u e=u p:=Cn.ind (R:=λa b=>u a=u b) (λ_=>rfl) (λ_ _ e=>e.symm) (λ_ _ _ a b=>a.trans b) (λd hd hk=>by
  cases k:d.1 with
  |pc=>exact pc d hd k
  |pu=>exact absurd k hk
  |ho=>exact absurd k (nh d hd)) c
 rw[<- this,ue e he]
theorem Jv {m:Nat}{X:List (List Mq.Q2)}{ks:List Nat}{i j:Nat}(hi:i < ks.length)(hj:j < ks.length):dU (dB ks X) i j=Mq.val (jX X (ks.getD i 0) (ks.getD j 0)):=by
 unfold dU dB jX;rw[getD_eq_getElem?_getD (l:=map _ _),getElem?_map,getElem?_eq_getElem hi];show Mq.val ((ks.map λj=>Mq.ix2 X ks[i] j).getD j Mq.z0)=_;rw[getD_eq_getElem?_getD,getElem?_map,getElem?_eq_getElem hj];have e1:ks.getD i 0=ks[i]:=by rw[getD_eq_getElem?_getD,getElem?_eq_getElem hi];rfl
 have e2:ks.getD j 0=ks[j]:=by rw[getD_eq_getElem?_getD,getElem?_eq_getElem hj];rfl
 rw[e1,e2];rfl
theorem uZ (m:Nat)(es:List Nat):(inn m es).Nodup:=Pairwise.filter _ nodup_range
theorem Eh {α:Type}[DecidableEq α]{L:List α}(nd:L.Nodup)(k:Nat):L.filter (λp=>decide (p∉L.drop k))=L.take k:=by
 have e:L=L.take k++L.drop k:=(take_append_drop k L).symm;have nd2:=nd;rw[e] at nd2;have dj:=(nodup_append.mp nd2).2.2;have h1:(L.take k).filter (λp=>decide (p∉L.drop k))=L.take k:=filter_eq_self.mpr λp hp=>decide_eq_true λz=>dj p hp p z rfl;have h2:(L.drop k).filter (λp=>decide (p∉L.drop k))=[]:=filter_eq_nil_iff.mpr λp hp z=>(of_decide_eq_true z) hp;have h3:L.filter (λp=>decide (p∉L.drop k))=(L.take k++L.drop k).filter (λp=>decide (p∉L.drop k)):=by rw[take_append_drop]
 rw[h3,filter_append,h1,h2,append_nil]
theorem Tf (m:Nat)(es:List Nat)(k:Nat):inn m (es++(inn m es).drop k)=(inn m es).take k:=by
 rw[<- Eh (uZ m es) k];show (List.range m).filter _=((List.range m).filter _).filter _;rw[filter_filter];refine filter_congr λp hp=>?_
 by_cases a:p∈es<;>by_cases b:p∈(inn m es).drop k<;>simp[a,b]
theorem Nk (nb:sV m ds)(h:∀d∈ds,Fg L M d)(nh:jV ds)(ge:iO m es)(le:lsP (mk m ds) m es=[])(hn:n < (inn m es).length){v:Nat->Rat}(hv:∀j,j<=n->Mq.rs (n+1) (λi=>v i*eqM m ds ((inn m es).getD i 0) ((inn m es).getD j 0))=0)(hi:i<=n):v i=0:=by
 have it:=Tf m es (n+1);generalize hE:es++(inn m es).drop (n+1)=E at it;generalize hks:(inn m es).take (n+1)=ks at it;have lk:ks.length=n+1:=by rw[<- hks,length_take];lia
 have gk:∀{j:Nat},j<=n->ks.getD j 0=(inn m es).getD j 0:=λ{j} hj=>by
  rw[<- hks,getD_eq_getElem?_getD,getD_eq_getElem?_getD,getElem?_take_of_lt ()]
 have nd:ks.Nodup:=by rw[<- it];exact uZ m E
 have kg:∀{j:Nat},j < ks.length->ks.getD j 0∈ks:=λ{j} hj=>by
  rw[getD_eq_getElem?_getD,getElem?_eq_getElem hj];exact getElem_mem hj
 have km:∀{p:Nat},p∈ks↔p < m/\p∉E:=λ{p}=>by rw[<- it];exact dI
 have ltE:∀e∈E,e < m:=λe he=>by
  rw[<- hE] at he;rcases mem_append.mp he with a | a
  .exact ge.lt e a
  .exact(dI.mp (mem_of_mem_drop a)).1
 have leE:lsP (mk m ds) m E=[]:=eq_nil_iff_forall_not_mem.mpr λp hp=>by
  obtain⟨a,b⟩:=pJ.mp hp;have:p∈lsP (mk m ds) m es:=pJ.mpr ⟨a,λe he=>b e (by rw[<- hE];exact mem_append_left _ he)⟩;rw[le] at this;exact absurd this not_mem_nil
 have hu:∃u:Nat->Rat,(∀e∈E,u e=0)/\∀j,j < ks.length->u (ks.getD j 0)=v j:=by
  exists λp=>if p∈E then 0 else v (ks.idxOf p),λe he=>if_pos he,λj hj=>?_;show (if ks.getD j 0∈E then (0:Rat) else v (ks.idxOf (ks.getD j 0)))=v j;rw[if_neg (km.mp (kg hj)).2];have e1:ks.getD j 0=ks[j]:=by rw[getD_eq_getElem?_getD,getElem?_eq_getElem hj];rfl
  rw[e1,nd.idxOf_getElem j hj]
 obtain⟨u,ue,ui⟩:=hu;have pt:=nb.pt;have ntz:∀p,p < m->p∉E->nt u m ds p=0:=λp hp he=>by
  rw[<- Ko p ds m pt nh,zH (es:=E) (λe he=>by rw[ue e he,Rat.zero_mul]) m,it];obtain⟨x,hx,ex⟩:=getElem_of_mem (km.mpr ⟨hp,he⟩);have e1:ks.getD x 0=p:=by rw[getD_eq_getElem?_getD,getElem?_eq_getElem hx];exact ex
  rw[<- hv x (),lk];refine aK λj hj=>?_;rw[ui j (),<- gk (show x<=n by lia),e1,gk (show j<=n by lia)]
 have eg0:eg u m ds=0:=by
  rw[<- Yw ds m pt,<- dQ m];refine aK λp hp=>?_
  by_cases he:p∈E
  .rw[ue p he,Rat.zero_mul]
  .rw[ntz p hp he,Rat.mul_zero]
 have pc:=(Ys (u:=u) ds m (λd hd k=>((h d hd).1 k).1) (λd hd k=>absurd k (nh d hd))).2 eg0;have:=Mn pt nh ltE leE pc ue (km.mp (kg (show i < ks.length by lia))).1;rw[ui i ()] at this;exact this
inductive Hn (K:Frag) (vs:List V) (H:Hp) (Q:VK) (E:XK):Prop where
 |mk (l D:Addr) (zs:List V) (R:List (List Int)) (r c m w:Nat):vs=[.ref l,.int (r:Int),.int (c:Int)]->SqL K H l zs->Imx D H zs R->R.length=m->(∀i,i < m->(R.getD i []).length=w)->c < w->r < m->m<=100->ent R r c≠0->Q (.int (r:Int)) H->Hn K vs H Q E
inductive tV (K:Frag) (vs:List V) (H:Hp) (Q:VK) (E:XK):Prop where
 |mk (l D:Addr) (zs:List V) (R:List (List Int)) (m c w n:Nat) (Pr:List (List Int)->Prop):vs=[.ref l,.int (c:Int)]->SqL K H l zs->Imx D H zs R->R.length=m->(∀i,i < m->(R.getD i []).length=w)->m<=w->w<=100->BdR n R->1<=n->bw n m<=9000->m<=31->c<=m->Pr R->(∀R2 r col d sg,SI m w (Mq.at2 R) R2 r col d sg->r < m->col < w->ent R2 r col≠0->Pr R2->Pr (cE R2 r col d))->(∀(i:Nat) (R':List (List Int)) (d:Int) (e:Nat->Nat),i < c->Bar m (Mq.at2 R) (Mq.at2 R') i i (d:Rat) e->ent R' i i≠0)->(∀d l' zs' R' pivot sign e H',aP H H'->H d=none->H l'=none->H' d=some (Ot l' c pivot sign)->H' l'=some (.lst zs')->Imx l' H' zs' R'->R'.length=m->(∀i,i < m->(R'.getD i []).length=w)->Bar m (Mq.at2 R) (Mq.at2 R') c c (pivot:Rat) e->BdR (bw n m) R'->Mq.B (bw n m) pivot->Pr R'->Q (.ref d) H')->tV K vs H Q E
def YR (X:List (List Mq.Q2))(R':List (List Int))(c:Nat)(pivot:Int)(k:Nat):List Mq.Q2:=((R'.getD (c+k) []).drop c).map λt=>red t (pivot*cQ (X.getD (c+k) []))
inductive Ha (K:Frag) (vs:List V) (H:Hp) (Q:VK) (E:XK):Prop where
 |mk (g:Addr) (us:List V) (X:List (List Mq.Q2)) (m c w k:Nat):vs=[.ref g,.int (c:Int)]->SqL K H g us->Lns K H us X->RdC m c w k X->(∀(i:Nat) (R':List (List Int)) (d:Int) (e:Nat->Nat),i < c->Bar m (Mq.at2 (X.map iw)) (Mq.at2 R') i i (d:Rat) e->ent R' i i≠0)->(∀l zs Y R' pivot e H',aP H H'->H' l=some (.lst zs)->Lns K H' zs Y->Y.length=m - c->(∀k,k < m - c->Y.getD k []=YR X R' c pivot k)->R'.length=m->(∀i,i < m->(R'.getD i []).length=w)->Bar m (Mq.at2 (X.map iw)) (Mq.at2 R') c c (pivot:Rat) e->BdR (bw (k+k) m) R'->Mq.B (bw (k+k) m) pivot->Q (.ref l) H')->Ha K vs H Q E
theorem Jk {pivot:Int}(rd:RdC m c w k X)(lr:R'.length=m)(wr:∀i,i < m->(R'.getD i []).length=w)(B:Bar m (Mq.at2 (X.map iw)) (Mq.at2 R') c c (pivot:Rat) e){g:Nat->Rat}(hg:∀i,i < c->(Mq.rs w λx=>dU X i x*g x)=0)(hj:j < m - c):(Mq.rs (w - c) λx=>Mq.val ((YR X R' c pivot j).getD x Mq.z0)*g (c+x))=Mq.rs w λx=>dU X (c+j) x*g x:=by
 obtain⟨hm,m31,hmw,w40,hcm,k1,_,_,LL,_,_,hr⟩:=rd;have row:∀{i:Nat},i < m->(X.getD i []).length=w/\Mq.Pos (X.getD i []):=λ{i} hi=>by
  obtain⟨a,b⟩:=hr _ (mem_of_getElem? (iK (show i < X.length by lia)));exists a,λp hp=>(b p hp).1
 have eA:∀{i x:Nat},i < m->x < w->Mq.at2 (X.map iw) i x=((cQ (X.getD i []):Int):Rat)*dU X i x:=λ{i x} hi hx=>by
  obtain⟨rl,rp⟩:=row hi;show (((((X.map iw).getD i []).getD x 0:Int)):Rat)=_;rw[show (X.map iw).getD i []=iw (X.getD i []) by rw[getD_eq_getElem?_getD,getElem?_map,iK (show i < X.length by lia)];rfl,zD rp ()];rfl
 have sA:∀{i:Nat},i < m->(Mq.rs w λx=>Mq.at2 (X.map iw) i x*g x)=((cQ (X.getD i []):Int):Rat)*Mq.rs w λx=>dU X i x*g x:=λ{i} hi=>by
  rw[<- eQ];exact aK λx hx=>by rw[eA hi hx,Rat.mul_assoc]
 have lin:Mq.Lin λrow=>Mq.rs w λx=>row x*g x:=λx y l=>by
  show (Mq.rs w λj=>(x j+l*y j)*g j)=_;rw[<- eQ,<- eH];exact aK λj _=>by grind
 have z:=B.i6 _ lin λs hs=>by
  show (Mq.rs w λx=>Mq.at2 (X.map iw) s x*g x)=0;rw[sA (),hg s hs,Rat.mul_zero]
 have hi:c+j < m:=by lia
 have i4:∀x,(pivot:Rat)*Mq.at2 (X.map iw) (c+j) x=(Mq.rs c λq=>Mq.at2 (X.map iw) (c+j) (e q)*Mq.at2 R' q x)+Mq.at2 R' (c+j) x:=λx=>by
  have:=B.i4 (c+j) x hi
  rwa [if_neg ()] at this
 have sE:(Mq.rs w λx=>Mq.at2 R' (c+j) x*g x)=(pivot:Rat)*Mq.rs w λx=>Mq.at2 (X.map iw) (c+j) x*g x:=by
  have h1:(Mq.rs w λx=>((pivot:Rat)*Mq.at2 (X.map iw) (c+j) x)*g x)=(Mq.rs w λx=>(Mq.rs c λq=>Mq.at2 (X.map iw) (c+j) (e q)*Mq.at2 R' q x)*g x)+Mq.rs w λx=>Mq.at2 R' (c+j) x*g x:=by
   rw[<- eH];exact aK λx _=>by rw[i4 x];grind
  have h2:(Mq.rs w λx=>(Mq.rs c λq=>Mq.at2 (X.map iw) (c+j) (e q)*Mq.at2 R' q x)*g x)=0:=by
   rw[Mq.qa3 c w (λq=>Mq.at2 (X.map iw) (c+j) (e q)) (Mq.at2 R') g,<- dQ c];exact aK λq hq=>by rw[show (Mq.rs w λj=>Mq.at2 R' q j*g j)=0 from z q hq,Rat.mul_zero]
  have h3:(Mq.rs w λx=>((pivot:Rat)*Mq.at2 (X.map iw) (c+j) x)*g x)=(pivot:Rat)*Mq.rs w λx=>Mq.at2 (X.map iw) (c+j) x*g x:=by
   rw[<- eQ];exact aK λx _=>Rat.mul_assoc ..
  rw[h2,Rat.zero_add,h3] at h1;exact h1.symm
 obtain⟨rl,rp⟩:=row hi;have lg:=jU rp;have dn:=B.dne;have pn:pivot≠0:=λz=>dn (by rw[z];simp);have ln:((cQ (X.getD (c+j) []):Int):Rat)≠0:=λz=>by
  have:cQ (X.getD (c+j) [])=0:=by exact_mod_cast z
  lia
 have ne:pivot*cQ (X.getD (c+j) [])≠0:=Int.mul_ne_zero pn ();have vY:∀x,x < w - c->Mq.val ((YR X R' c pivot j).getD x Mq.z0)*((pivot:Rat)*((cQ (X.getD (c+j) []):Int):Rat))=Mq.at2 R' (c+j) (c+x):=λx hx=>by
  have hl:c+x < (R'.getD (c+j) []).length:=by rw[wr _ hi];lia
  unfold YR;rw[getD_eq_getElem?_getD,getElem?_map,getElem?_drop,getElem?_eq_getElem hl];show Mq.val (red _ _)*_=_;rw[jP ne,Rat.intCast_mul];show _=(((R'.getD (c+j) []).getD (c+x) 0:Int):Rat)
  rw[getD_eq_getElem?_getD (l:=R'.getD (c+j) []),getElem?_eq_getElem hl];show _=(((R'.getD (c+j) [])[c+x]:Int):Rat)
  generalize (((R'.getD (c+j) [])[c+x]:Int):Rat)=t;generalize ((cQ (X.getD (c+j) []):Int):Rat)=l at ln;generalize ((pivot:Int):Rat)=p at dn;grind
 have s1:(Mq.rs (w - c) λx=>Mq.val ((YR X R' c pivot j).getD x Mq.z0)*g (c+x))*((pivot:Rat)*((cQ (X.getD (c+j) []):Int):Rat))=Mq.rs w λx=>Mq.at2 R' (c+j) x*g x:=by
  rw[Mq.Wx (n:=c) (w:=w) () λx hx=>by rw[B.i3 (c+j) x () hi hx,Rat.zero_mul],Rat.mul_comm,<- eQ];exact aK λx hx=>by rw[<- vY x hx];grind
 rw[sE,sA hi] at s1;generalize (Mq.rs (w - c) λx=>Mq.val ((YR X R' c pivot j).getD x Mq.z0)*g (c+x))=a at *
 generalize (Mq.rs w λx=>dU X (c+j) x*g x)=b at *
 generalize ((cQ (X.getD (c+j) []):Int):Rat)=l at ln s1;generalize ((pivot:Int):Rat)=p at dn s1;grind
theorem Kc:∀{n:Nat},(∀i,i < n->b i≠0)->Em n b≠0
 |0,_=>by show (1:Rat)≠0;decide
 |n+1,h=>by
  have a:=Kc (n:=n) λi hi=>h i ();have c:=h n ();show Em n b*b n≠0;intro z;rcases Rat.mul_eq_zero.mp z with y | y
  .exact a y
  .exact c y
theorem Ua (rd:RdC m c w k X)(nn:∀n,n < c->∀v:Nat->Rat,(∀x,x<=n->(Mq.rs (n+1) λs=>v s*dU X s x)=0)->∀s,s<=n->v s=0)(i:Nat)(R':List (List Int))(d:Int)(e:Nat->Nat)(hi:i < c)(B:Bar m (Mq.at2 (X.map iw)) (Mq.at2 R') i i (d:Rat) e):ent R' i i≠0:=λz=>by
 obtain⟨hm,m31,hmw,w40,hcm,k1,_,_,LL,_,_,hr⟩:=rd;have row:∀{i:Nat},i < m->(X.getD i []).length=w/\Mq.Pos (X.getD i []):=λ{i} hi=>by
  obtain⟨a,b⟩:=hr _ (mem_of_getElem? (iK (show i < X.length by lia)));exists a,λp hp=>(b p hp).1
 have eA:∀{i x:Nat},i < m->x < w->Mq.at2 (X.map iw) i x=((cQ (X.getD i []):Int):Rat)*dU X i x:=λ{i x} hi hx=>by
  obtain⟨rl,rp⟩:=row hi;show (((((X.map iw).getD i []).getD x 0:Int)):Rat)=_;rw[show (X.map iw).getD i []=iw (X.getD i []) by rw[getD_eq_getElem?_getD,getElem?_map,iK (show i < X.length by lia)];rfl,zD rp ()];rfl
 have j5:=B.j5 (show i < m by lia);have z':Mq.at2 R' i i=0:=by unfold Mq.at2;rw[z];rfl
 rw[z'] at j5;have fu:=B.full rfl;have d1:Mq.det (i+1) (λa b=>((cQ (X.getD a []):Int):Rat)*dU X a b)=0:=by
  rw[<- j5];refine cP λa b ha hb=>?_;have:Mq.c1 e i i b=b:=by
   by_cases hb':b < i
   .rw[Mq.iU e hb'];exact fu b hb'
   .have hbi:b=i:=by lia
    rw[hbi,Mq.mD]
  rw[this,eA () ()]
 rw[rZ] at d1;have d2:Mq.det (i+1) (λa b=>dU X a b)=0:=by
  rcases Rat.mul_eq_zero.mp d1 with y | y
  .refine absurd y (Kc λa ha=>λz=>?_);have:=jU (row (show a < m by lia)).2;have:cQ (X.getD a [])=0:=by exact_mod_cast z
   lia
  .exact y
 let Y:List (List Mq.Q2):=(X.take (i+1)).map λr=>r.take (i+1)
 have lY:Y.length=i+1:=by show ((X.take (i+1)).map _).length=_;rw[length_map,length_take];lia
 have gY:∀{a b:Nat},a < i+1->b < i+1->dU Y a b=dU X a b:=λ{a b} ha hb=>by
  show Mq.val ((((X.take (i+1)).map λr=>r.take (i+1)).getD a []).getD b Mq.z0)=Mq.val ((X.getD a []).getD b Mq.z0);have e1:((X.take (i+1)).map λr=>r.take (i+1)).getD a []=(X.getD a []).take (i+1):=by
   rw[getD_eq_getElem?_getD,getElem?_map,getElem?_take_of_lt ha,iK (show a < X.length by lia)];rfl
  rw[e1,getD_eq_getElem?_getD,getElem?_take_of_lt hb,<- getD_eq_getElem?_getD]
 have rY:∀r∈Y,∃q∈X,r=q.take (i+1):=λr h=>by
  obtain⟨q,hq,e⟩:=mem_map.mp h;exists q,mem_of_mem_take hq,e.symm
 have pY:hV Y:=λr h p hp=>by
  obtain⟨q,hq,rfl⟩:=rY r h;exact((hr q hq).2 p (mem_of_mem_take hp)).1
 have wY:∀r∈Y,r.length=Y.length:=λr h=>by
  obtain⟨q,hq,rfl⟩:=rY r h;rw[length_take,(hr q hq).1,lY];lia
 have wg:wgt Y=0:=by
  unfold wgt;rw[lY,<- d2];exact cP λa b ha hb=>gY ha hb
 obtain⟨v,⟨j,hj,vj⟩,hs⟩:=Xy pY wY () wg;rw[lY] at hj hs;refine vj (nn i hi v (λx hx=>?_) j ());rw[<- hs x ()];exact aK λs hs'=>by rw[gY hs' ()]
theorem Ea (nb:sV m ds)(h:∀d∈ds,Fg L M d)(nh:jV ds)(ge:iO m es)(le:lsP (mk m ds) m es=[])(rd:RdC m' (inn m es).length w k X)(hX:∀s x,s < (inn m es).length->x < (inn m es).length->dU X s x=eqM m ds ((inn m es).getD s 0) ((inn m es).getD x 0))(i:Nat)(R':List (List Int))(d:Int)(e:Nat->Nat)(hi:i < (inn m es).length)(B:Bar m' (Mq.at2 (X.map iw)) (Mq.at2 R') i i (d:Rat) e):ent R' i i≠0:=
 Ua rd (λn hn v hv s hs=>Nk nb h nh ge le hn (v:=v) (λj hj=>by
  rw[<- hv j hj];exact aK λa ha=>by rw[hX a j () ()]) hs) i R' d e hi B
structure sW (av:List Addr) (CT:Addr) (K:Frag) (H:Hp) (t:Addr) (es:List Int) (X:List (List Mq.Q2)) (cs:List Mq.Q2):Prop where
 e:∃(dx p l a:Addr) (us ys:List V),H t=some (.ins CT dx (mL p l a))/\H p=some (.lst (es.map V.int))/\H l=some (.lst us)/\LnH K H us X/\H a=some (.lst ys)/\Fqs K H ys cs/\p∉av/\l∉av/\a∉av/\∀x∈us,∀b∈av,x≠.ref b
theorem sW.at (h:sW av CT K H t es X cs):iL CT K H t es X cs:=by
 obtain⟨dx,p,l,a,us,ys,h1,h2,h3,h4,h5,h6,_⟩:=h.e;exists dx,p,l,a,us,ys,h1,SqL.of h2,SqL.of h3,h4.lns,SqL.of h5,h6
theorem sW.sx (h:sW av CT K H t es X cs)(lv:kQ av H)(s:SX av H H'):sW av CT K H' t es X cs:=by
 obtain⟨dx,p,l,a,us,ys,h1,h2,h3,h4,h5,h6,n1,n2,n3,n4⟩:=h.e;exists dx,p,l,a,us,ys,s _ _ h1 (λz=>?_),s _ _ h2 n1,s _ _ h3 n2,⟨h4.l,λi x ps e1 e2=>?_⟩,s _ _ h5 n3,SX.fqs lv s h6,n1,n2,n3,n4
 .obtain⟨_,e⟩:=lv _ z;rw[e] at h1;cases h1
 .obtain⟨b,xs,q1,q2,q3⟩:=h4.r i x ps e1 e2;exists b,xs,q1,s _ _ q2 (λz=>n4 x (mem_of_getElem? e1) b z q1),SX.fqs lv s q3
theorem qj4 (ht:H t=some (.ins C dx fs))(e:cK t H H')(h:LnH K H us X):LnH K H' us X:=⟨h.l,λi x ps h1 h2=>let ⟨a,xs,e1,e2,e3⟩:=h.r i x ps h1 h2;⟨a,xs,e1,e _ _ e2 (λz=>by rw[z,ht] at e2;cases e2),cK.fqsI ht e e3⟩⟩
inductive pO (CT:Addr) (K:Frag) (vs:List V) (H:Hp) (Q:VK) (E:XK):Prop where
 |mk (t dx e g c:Addr) (es:List Int) (us ys:List V) (X:List (List Mq.Q2)) (cs:List Mq.Q2) (_:vs=[.ref t,.ref e,.ref g,.ref c]) (_:H t=some (.ins CT dx [])) (_:SqL K H e (es.map V.int)) (_:SqL K H g us) (_:Lns K H us X) (_:us.length<=100) (_:SqL K H c ys) (_:Fqs K H ys cs) (av:List Addr):kQ av H->(∀H',cK t H H'->sW av CT K H' t es X cs->Q .non H')->pO CT K vs H Q E
inductive Ik (CT:Addr) (K:Frag) (vs:List V) (H:Hp) (Q:VK) (E:XK):Prop where
 |mk (t b:Addr) (m k:Nat) (es:List Nat) (X:List (List Mq.Q2)) (cs:List Mq.Q2) (av:List Addr):vs=[.ref t,.ref b]->iL CT K H t (jO m) X cs->TbC m k X cs->H b=some (.lst ((ups es).map V.int))->es.Nodup->(∀e∈es,e < m)->kQ av H->(∀(i:Nat) (R':List (List Int)) (d:Int) (e:Nat->Nat),i < (inn m es).length->Bar m (Mq.at2 ((znP (inn m es++es) X cs).map iw)) (Mq.at2 R') i i (d:Rat) e->ent R' i i≠0)->(∀(x:Addr) (Y:List (List Mq.Q2)) (R':List (List Int)) (pivot:Int) (e:Nat->Nat) (H':Hp),aP H H'->sW av CT K H' x (ups es) (Y.map λr=>r.take es.length) (Y.map λr=>r.getD es.length Mq.z0)->Y.length=es.length->(∀j,j < es.length->Y.getD j []=YR (znP (inn m es++es) X cs) R' (inn m es).length pivot j)->R'.length=m->(∀i,i < m->(R'.getD i []).length=m+1)->Bar m (Mq.at2 ((znP (inn m es++es) X cs).map iw)) (Mq.at2 R') (inn m es).length (inn m es).length (pivot:Rat) e->BdR (bw (k+k) m) R'->Mq.B (bw (k+k) m) pivot->Q (.ref x) H')->Ik CT K vs H Q E
theorem Iw (h:a.Perm b):jF a=jF b:=by
 induction h with
 |nil=>rfl
 |cons x _ ih=>show _+_=_+_;rw[ih]
 |swap x y l=>show y+(x+jF l)=x+(y+jF l);grind
 |trans _ _ i1 i2=>exact i1.trans i2
theorem Lk (nd:es.Nodup)(lt:∀e∈es,e < m):(inn m es++es).Perm (List.range m):=by
 refine(perm_ext_iff_of_nodup (nodup_append.mpr ⟨uZ m es,nd,λa ha b hb z=>(dI.mp ha).2 (by rw[z];exact hb)⟩) nodup_range).mpr λx=>?_;rw[mem_append,dI,mem_range];exists λh=>h.elim (λa=>a.1) (λa=>lt x a),λh=>?_
 by_cases c:x∈es
 .exact .inr c
 .exact .inl ⟨h,c⟩
theorem qn1 (nd:es.Nodup)(lt:∀e∈es,e < m)(F:Nat->Rat):(Mq.rs m λx=>F ((inn m es++es).getD x 0))=Mq.rs m F:=by
 have p:=Lk nd lt;have l:(inn m es++es).length=m:=by rw[p.length_eq,length_range]
 generalize inn m es++es=od at p l;rw[<- Mq.Gu m F,<- Iw (p.map F),Mq.Ws,length_map,l];refine aK λx hx=>?_;have hx':x < od.length:=by lia
 rw[getD_eq_getElem?_getD,getD_eq_getElem?_getD,getElem?_map,getElem?_eq_getElem hx'];rfl
theorem Jr (hk:k < n)(F:Nat->Rat):(Mq.rs n λi=>F i*(if k=i then 1 else 0))=F k:=by
 have:=Gy n k F;rw[if_pos hk] at this;rw[<- this];refine aK λi _=>?_
 by_cases c:k=i
 .rw[if_pos c,if_pos c,Rat.mul_one]
 .rw[if_neg c,if_neg c,Rat.mul_zero]
structure TbF (m:Nat) (ds:List RD) (es:List Nat) (Z:List (List Mq.Q2)) (zs:List Mq.Q2) (n:Nat):Prop where
 td:TbD n es.length Z zs
 br:∀u:Nat->Rat,(∀p,p < m->p∉es->(Mq.rs m λj=>eqM m ds p j*u j)=eqR m ds p)->∀j,j < es.length->(Mq.rs es.length λx=>dU Z j x*u (es.getD x 0)) - cv zs j=(Mq.rs m λp=>eqM m ds (es.getD j 0) p*u p) - eqR m ds (es.getD j 0)
def nE (m k:Nat)(es:List Nat):Nat:=if inn m es=[] then k else bw (k+k) m+k
theorem Lp (TV:TbV m ds X cs b k)(lo:od.length=m)(om:∀i∈od,i < m)(hi:i < m):(x < m->dU (znP od X cs) i x=eqM m ds (od.getD i 0) (od.getD x 0))/\dU (znP od X cs) i m=eqR m ds (od.getD i 0):=by
 have om':∀{i:Nat},i < m->od.getD i 0 < m:=λ{i} hi=>om _ (by rw[getD_eq_getElem?_getD,getElem?_eq_getElem (show i < od.length by lia)];exact getElem_mem _);have e:(znP od X cs).getD i []=(od.map λj=>Mq.ix2 X (od.getD i 0) j)++[cs.getD (od.getD i 0) Mq.z0]:=by
  rw[getD_eq_getElem?_getD,Rs (show i < od.length by lia)];rfl
 exists λhx=>?_,?_
 .unfold dU;rw[e,getD_eq_getElem?_getD,getElem?_append_left (by rw[length_map];lia),getElem?_map,getElem?_eq_getElem (show x < od.length by lia),TV.vM _ _ (om' hi) (om' hx)];have:od.getD x 0=od[x]:=by rw[getD_eq_getElem?_getD,getElem?_eq_getElem (show x < od.length by lia)];rfl
  rw[this];rfl
 .unfold dU;rw[e,getD_eq_getElem?_getD,getElem?_append_right (by rw[length_map];lia),length_map,lo,Nat.sub_self,TV.vR _ (om' hi)];rfl
theorem qa7 {X Y:List (List Mq.Q2)}(m8:m<=8)(ge:iO m es)(TV:TbV m ds X cs k k)(ly:Y.length=es.length)(yv:∀j,j < es.length->Y.getD j []=YR (znP (inn m es++es) X cs) R' (inn m es).length pivot j)(len:R'.length=m)(wid:∀i,i < m->(R'.getD i []).length=m+1)(B:Bar m (Mq.at2 ((znP (inn m es++es) X cs).map iw)) (Mq.at2 R') (inn m es).length (inn m es).length (pivot:Rat) e)(bE:BdR (bw (k+k) m) R')(bP:Mq.B (bw (k+k) m) pivot):TbF m ds es (Y.map λr=>r.take es.length) (Y.map λr=>r.getD es.length Mq.z0) (nE m k es):=by
 have hl:=zZ ge.nd ge.lt;have lo:(inn m es++es).length=m:=by rw[List.length_append];exact hl
 have om:∀i∈inn m es++es,i < m:=λi hi=>(mem_append.mp hi).elim (λz=>(dI.mp z).1) (λz=>ge.lt i z);have rd:=TV.tc.rd lo om (mY m es);have po:=λF=>qn1 (m:=m) ge.nd ge.lt F;have odi:∀{i:Nat},i < (inn m es).length->(inn m es++es).getD i 0=(inn m es).getD i 0:=λ{i} hi=>by
  rw[getD_eq_getElem?_getD,getElem?_append_left hi,<- getD_eq_getElem?_getD]
 have ode:∀{j:Nat},(inn m es++es).getD ((inn m es).length+j) 0=es.getD j 0:=λ{j}=>by
  rw[getD_eq_getElem?_getD,getElem?_append_right (),Nat.add_sub_cancel_left,<- getD_eq_getElem?_getD]
 have hc0:inn m es=[]↔(inn m es).length=0:=length_eq_zero_iff.symm;have inI:∀{i:Nat},i < (inn m es).length->(inn m es).getD i 0∈inn m es:=λ{i} hi=>by
  rw[getD_eq_getElem?_getD,getElem?_eq_getElem hi];exact getElem_mem _
 generalize hod:inn m es++es=od at *
 have om':∀{i:Nat},i < m->od.getD i 0 < m:=λ{i} hi=>om _ (by rw[getD_eq_getElem?_getD,getElem?_eq_getElem (show i < od.length by lia)];exact getElem_mem _);have zv:=λ{i x:Nat} (hi:i < m)=>Lp TV lo om (i:=i) (x:=x) hi;have yl:∀{j:Nat},j < es.length->(Y.getD j []).length=es.length+1:=λ{j} hj=>by
  rw[yv j hj];unfold YR;rw[length_map,length_drop,wid _ ()];lia
 have lg:∀{j:Nat},j < es.length->1<=cQ ((znP od X cs).getD ((inn m es).length+j) [])/\Mq.B k (cQ ((znP od X cs).getD ((inn m es).length+j) [])):=λ{j} hj=>by
  obtain⟨hm,m31,hmw,w40,hcm,k1,_,_,LL,L1,LB,hr⟩:=rd;obtain⟨a,b⟩:=hr _ (mem_of_getElem? (iK (show (inn m es).length+j < (znP od X cs).length by lia)));exists jU λp hp=>(b p hp).1,Mq.Az (λp hp=>(b p hp).1) (λp hp=>(b p hp).2.2) L1 LB
 have pn:pivot≠0:=λz=>B.dne (by rw[z];simp);have yc:∀{j:Nat},j < es.length->∀p∈Y.getD j [],Low p/\Mq.Bd (bw (k+k) m+k) p:=λ{j} hj p hp=>by
  rw[yv j hj] at hp;unfold YR at hp;obtain⟨t,ht,rfl⟩:=mem_map.mp hp;obtain⟨l1,l2⟩:=lg hj;have ne:=Int.mul_ne_zero pn (show cQ ((znP od X cs).getD ((inn m es).length+j) [])≠0 by lia);have bt:Mq.B (bw (k+k) m+k) t:=by
   obtain⟨x,hx,rfl⟩:=getElem_of_mem (mem_of_mem_drop ht);have:=bE ((inn m es).length+j) x;unfold ent at this;rw[getD_eq_getElem?_getD,getElem?_eq_getElem hx] at this;exact Mq.B.mono this ()
  exists gW ne,⟨bt.le (kT ne).1,(bP.mul l2).le (kT ne).2⟩
 have br:∀g:Nat->Rat,(∀i,i < (inn m es).length->(Mq.rs (m+1) λx=>dU (znP od X cs) i x*g x)=0)->∀j,j < es.length->(Mq.rs (es.length+1) λx=>Mq.val ((Y.getD j []).getD x Mq.z0)*g ((inn m es).length+x))=Mq.rs (m+1) λx=>dU (znP od X cs) ((inn m es).length+j) x*g x:=λg hg j hj=>by
  have:=Jk rd len wid B hg (j:=j) ();rw[show m+1 - (inn m es).length=es.length+1 by lia] at this;rw[<- this,yv j hj]
 have ycE:∀{j:Nat},j < es.length->∀p∈Y.getD j [],Low p/\Mq.Bd (nE m k es) p:=λ{j} hj p hp=>by
  unfold nE
  by_cases c:inn m es=[]
  .rw[if_pos c];have c0:=hc0.mp c;exists (yc hj p hp).1,?_;obtain⟨x,hx,rfl⟩:=getElem_of_mem hp;have hx':=hx;rw[yl hj] at hx';have v:=br (λy=>if x=y then 1 else 0) (λi hi=>by lia) j hj;rw[c0] at v;simp only[Nat.zero_add] at v;have hm:es.length=m:=by lia
   have hjm:j < m:=by lia
   rw[Jr (n:=es.length+1) hx' (λi=>Mq.val ((Y.getD j []).getD i Mq.z0)),Jr (n:=m+1) ()] at v;have e1:(Y.getD j [])[x]=(Y.getD j []).getD x Mq.z0:=by rw[getD_eq_getElem?_getD (l:=Y.getD j []),getElem?_eq_getElem hx];rfl
   have lw:=(yc hj _ (getElem_mem hx)).1;rw[e1] at lw ⊢;have oj:=om' hjm
   by_cases cx:x < m
   .have hr:=TV.sq.rX _ (mem_of_getElem? (iK (show od.getD j 0 < X.length by rw[TV.sq.lX];exact oj)));have hp:=hr.2 _ (mem_of_getElem? (dP (show od.getD x 0 < (X.getD (od.getD j 0) []).length by rw[hr.1];exact om' cx)));rw[(zv hjm).1 cx,TV.vM _ _ oj (om' cx)] at v;rw[qS lw hp.1 v];exact hp.2
   .have xm:x=m:=by lia
    have hp:=TV.sq.rc _ (mem_of_getElem? (dP (show od.getD j 0 < cs.length by rw[TV.sq.lc];exact oj)));rw[xm] at v lw ⊢;rw[(zv (x:=0) hjm).2,TV.vR _ oj] at v;rw[qS lw hp.1 v];exact hp.2
  .rw[if_neg c];exact yc hj p hp
 have rowY:∀r∈Y,∃j,j < es.length/\r=Y.getD j []:=λr hr=>by
  obtain⟨j,hj,rfl⟩:=getElem_of_mem hr;exists j,(),by rw[getD_eq_getElem?_getD,getElem?_eq_getElem hj];rfl
 have zr:∀{j:Nat},j < es.length->(Y.map λr=>r.take es.length).getD j []=(Y.getD j []).take es.length:=λ{j} hj=>by
  rw[getD_eq_getElem?_getD,getElem?_map,iK (show j < Y.length by lia)];rfl
 exists ⟨by rw[length_map,ly],by rw[length_map,ly],(),λrow hr=>?_,λp hp=>?_⟩,λu hu j hj=>?_
 .obtain⟨r,hr',rfl⟩:=mem_map.mp hr;obtain⟨j,hj,rfl⟩:=rowY r hr';exists by rw[length_take,yl hj];lia,λp hp=>ycE hj p (mem_of_mem_take hp)
 .obtain⟨r,hr',rfl⟩:=mem_map.mp hp;obtain⟨j,hj,rfl⟩:=rowY r hr';exact ycE hj _ (mem_of_getElem? (dP (by rw[yl hj];lia)))
 .have sums:∀{i:Nat},i < m->(Mq.rs (m+1) λx=>dU (znP od X cs) i x*(if x < m then u (od.getD x 0) else -1))=(Mq.rs m λp=>eqM m ds (od.getD i 0) p*u p) - eqR m ds (od.getD i 0):=λ{i} hi=>by
   show (Mq.rs m λx=>dU (znP od X cs) i x*(if x < m then u (od.getD x 0) else -1))+dU (znP od X cs) i m*(if m < m then u (od.getD m 0) else -1)=_;rw[if_neg (Nat.lt_irrefl m),(zv (x:=0) hi).2,<- po λp=>eqM m ds (od.getD i 0) p*u p];rw[aK (G:=λx=>eqM m ds (od.getD i 0) (od.getD x 0)*u (od.getD x 0)) λx hx=>by rw[if_pos hx,(zv hi).1 hx]];grind
  have b:=br (λx=>if x < m then u (od.getD x 0) else -1) (λi hi=>by
   have i':=inI hi;rw[sums (by have:=mY m es;lia),odi hi,hu _ (dI.mp i').1 (dI.mp i').2];grind) j hj
  rw[sums (),ode] at b;rw[<- b];show _=(Mq.rs es.length λx=>Mq.val ((Y.getD j []).getD x Mq.z0)*(if (inn m es).length+x < m then u (od.getD ((inn m es).length+x) 0) else -1))+Mq.val ((Y.getD j []).getD es.length Mq.z0)*(if (inn m es).length+es.length < m then u (od.getD ((inn m es).length+es.length) 0) else -1)
  rw[if_neg ()];have e2:cv (Y.map λr=>r.getD es.length Mq.z0) j=Mq.val ((Y.getD j []).getD es.length Mq.z0):=by
   unfold cv;rw[getD_eq_getElem?_getD,getElem?_map,iK (show j < Y.length by lia)];rfl
  rw[e2,aK (G:=λx=>Mq.val ((Y.getD j []).getD x Mq.z0)*(if (inn m es).length+x < m then u (od.getD ((inn m es).length+x) 0) else -1)) λx hx=>by
   rw[if_pos (),ode];unfold dU;rw[zr hj,getD_eq_getElem?_getD (l:=List.take _ _),getElem?_take_of_lt hx,<- getD_eq_getElem?_getD]]
  grind
def Rg (m k h:Nat):Prop:=(m<=3/\k=280/\h=31)\/(m<=6/\k=28/\h=4)
def lvH (m:Nat)(es:List Nat)(hs:List Mq.Q2):Nat->List Mq.Q2
 |0=>replicate m (0,1)
 |i+1=>(lvH m es hs i).set (es.getD i 0) (hs.getD i Mq.z0)
theorem jQ (m:Nat)(es:List Nat)(hs:List Mq.Q2):∀i,(lvH m es hs i).length=m
 |0=>length_replicate
 |i+1=>by unfold lvH;rw[length_set,jQ m es hs i]
theorem LB.set {h:Nat}(a:LB h ps)(b:Low q/\Mq.Bd h q)(i:Nat):LB h (ps.set i q):=⟨λp hp=>by
 rcases mem_or_eq_of_mem_set hp with z | z
 .exact a.h p z
 .rw[z];exact b⟩
theorem Br (lh:LB h hs)(h1:1<=h):∀i,i<=hs.length->LB h (lvH m es hs i)
 |0,_=>⟨λp hp=>by rw[eq_of_mem_replicate hp];exact⟨q01.1,q01.2.mono h1⟩⟩
 |i+1,hi=>(Br lh h1 i ()).set (lh.at ()) _
theorem Bj (nd:es.Nodup)(lt:∀e∈es,e < m)(hj:j < es.length):∀i,i<=es.length->j < i->(lvH m es hs i).getD (es.getD j 0) Mq.z0=hs.getD j Mq.z0
 |0,_,h=>by lia
 |i+1,hi,h=>by
  unfold lvH;have gj:∀{a:Nat},(ha:a < es.length)->es.getD a 0=es[a]:=λ{a} ha=>by rw[getD_eq_getElem?_getD,getElem?_eq_getElem ha];rfl
  have lj:es.getD j 0 < m:=by rw[gj hj];exact lt _ (getElem_mem hj)
  rw[getD_eq_getElem?_getD]
  by_cases c:j=i
  .rw[c,getElem?_set_self (by rw[jQ];rw[<- c];exact lj)];rfl
  .have ne:es.getD i 0≠es.getD j 0:=λz=>c (by
    rw[gj hj,gj (show i < es.length by lia)] at z;have z':=congrArg es.idxOf z;rw[nd.idxOf_getElem i (),nd.idxOf_getElem j hj] at z';exact z'.symm)
   rw[getElem?_set_ne ne,<- getD_eq_getElem?_getD];exact Bj nd lt hj i () ()
theorem Hf (hp:p∉es):∀i,i<=es.length->(lvH m es hs i).getD p Mq.z0=(0,1)
 |0,_=>by unfold lvH;exact oG m p
 |i+1,hi=>by
  unfold lvH;have gj:es.getD i 0=es[i]:=by rw[getD_eq_getElem?_getD,getElem?_eq_getElem (show i < es.length by lia)];rfl
  rw[getD_eq_getElem?_getD,getElem?_set_ne (λz=>hp (by rw[<- z,gj];exact getElem_mem _)),<- getD_eq_getElem?_getD];exact Hf hp i ()
def rtH (m:Nat)(es:List Nat)(hs:List Mq.Q2)(X:List (List Mq.Q2))(cs:List Mq.Q2):List Mq.Q2:=(inn m es).map λi=>fZ (0,1) ((brL X cs (lvH m es hs es.length)).getD i Mq.z0)
structure HtF (m:Nat) (ds:List RD) (es:List Nat) (hs ps:List Mq.Q2):Prop where
 len:ps.length=m
 low:LB 9000 ps
 ends:∀i,i < es.length->ps.getD (es.getD i 0) Mq.z0=hs.getD i Mq.z0
 inner:∀p,p < m->p∉es->(Mq.rs m λj=>eqM m ds p j*cv ps j)=eqR m ds p
theorem qc4 (m8:m<=8)(ge:iO m es)(TV:TbV m ds X cs k k)(lh:LB h hs)(h1:1<=h)(hl:hs.length=es.length)(su:qp3 (dB (inn m es) X) (rtH m es hs X cs) pr)(lp:ps.length=m)(bp:LB 9000 ps)(he:∀i,i < es.length->ps.getD (es.getD i 0) Mq.z0=hs.getD i Mq.z0)(hi:∀i,i < (inn m es).length->ps.getD ((inn m es).getD i 0) Mq.z0=pr.getD i Mq.z0):HtF m ds es hs ps:=by
 exists lp,bp,he,λp hp hpe=>?_;have TD:TbD k m X cs:=⟨TV.sq.lX,TV.sq.lc,m8,TV.sq.rX,TV.sq.rc⟩
 have lv:=Br (m:=m) (es:=es) lh h1 es.length ();obtain⟨v1,_,v3⟩:=wH TD lv (jQ m es hs _) hp;obtain⟨i,hi',ei⟩:=getElem_of_mem (dI.mpr ⟨hp,hpe⟩);have eg:(inn m es).getD i 0=p:=by rw[getD_eq_getElem?_getD,getElem?_eq_getElem hi'];exact ei
 have s:=su.sum i (by rw[iZ];exact hi');rw[iZ] at s;have er:(rtH m es hs X cs).getD i Mq.z0=fZ (0,1) ((brL X cs (lvH m es hs es.length)).getD p Mq.z0):=by
  unfold rtH;rw[getD_eq_getElem?_getD,getElem?_map,getElem?_eq_getElem hi',ei];rfl
 rw[er,oK q01.1.pos v1.pos,v3] at s;have z0:Mq.val (0,1)=0:=by unfold Mq.val;simp;grind
 rw[z0] at s;have eM:∀j,j < m->dU X p j=eqM m ds p j:=λj hj=>(TV.vM p j hp hj).symm;have z0':∀j,j < m->j∉es->cv (lvH m es hs es.length) j=0:=λj hj hje=>by
  unfold cv;rw[Hf hje _ (Nat.le_refl _),z0]
 have ze:∀e∈es,cv (lvH m es hs es.length) e=cv ps e:=λe h=>by
  obtain⟨a,ha,rfl⟩:=getElem_of_mem h;have ea:es.getD a 0=es[a]:=by rw[getD_eq_getElem?_getD,getElem?_eq_getElem ha];rfl
  unfold cv;rw[<- ea,Bj ge.nd ge.lt ha _ (Nat.le_refl _) ha,he a ha]
 have d:(Mq.rs m λj=>eqM m ds p j*(cv ps j - cv (lvH m es hs es.length) j))=Mq.rs (inn m es).length λx=>dU (dB (inn m es) X) i x*Mq.val (pr.getD x Mq.z0):=by
  rw[zH (es:=es) (λe h=>by rw[ze e h];grind) m];refine aK λx hx=>?_;have xm:(inn m es).getD x 0∈inn m es:=by rw[getD_eq_getElem?_getD,getElem?_eq_getElem hx];exact getElem_mem _
  obtain⟨x1,x2⟩:=dI.mp xm;rw[Jv (m:=m) hi' hx,eg,z0' _ x1 x2,<- TV.vM _ _ hp x1];unfold cv;rw[hi x hx];grind
 rw[s] at d;have sp:(Mq.rs m λj=>eqM m ds p j*cv ps j)=(Mq.rs m λj=>dU X p j*cv (lvH m es hs es.length) j)+Mq.rs m λj=>eqM m ds p j*(cv ps j - cv (lvH m es hs es.length) j):=by
  rw[<- eH];exact aK λj hj=>by rw[eM j hj];grind
 rw[sp,d];have er:eqR m ds p=cv cs p:=TV.vR p hp;rw[er];grind
inductive qZ (K:Frag) (vs:List V) (H:Hp) (Q:VK) (E:XK):Prop where
 |mk (g b D:Addr) (H0:Hp) (us bs:List V) (X:List (List Mq.Q2)) (qs:List Mq.Q2) (k n:Nat):vs=[.ref g,.ref b]->SqL K H g us->Fmd K H0 D H us X->SqL K H b bs->Fqs K H bs qs->qs.length=X.length->nB qs->(∀p∈qs,Mq.Bd k p)->hV X->(∀row∈X,(∀p∈row,Mq.Bd k p)/\row.length=X.length)->X.length<=26->10+k+k*(X.length+1)<=8000->BdR n (iD X qs)->1<=n->bw n X.length<=8900->(∀(i:Nat) (R':List (List Int)) (d:Int) (e:Nat->Nat),i < X.length->Bar X.length (Mq.at2 (iD X qs)) (Mq.at2 R') i i (d:Rat) e->ent R' i i≠0)->(∀l zs ps H',aP H H'->H l=none->H' l=some (.lst zs)->Fqs K H' zs ps->qp3 X qs ps->Q (.ref l) H')->qZ K vs H Q E
def gP:List Mq.Q2->Int
 | []=>1
 |p :: r=>p.2*gP r
theorem vB:∀{hs:List Mq.Q2},LB h hs->1<=gP hs/\Mq.B (h*hs.length+1) (gP hs)/\∀p∈hs,p.2 ∣ gP hs
 | [],_=>⟨∅,by show (1:Nat) < 2 ^ (h*0+1);rw[Nat.mul_zero];decide,λp hp=>by cases hp⟩
 |p :: r,l=>by
  obtain⟨a,b,c⟩:=vB (hs:=r) ⟨λq hq=>l.h q (mem_cons_of_mem _ hq)⟩;obtain⟨lp,bp⟩:=l.h p (mem_cons_self ..);have p1:1<=p.2:=lp.pos;exists ?_,?_,λq hq=>?_
  .show 1<=p.2*gP r;have:=Int.mul_le_mul p1 a () ();simpa using this
  .have:=bp.b.mul b;rw[length_cons,Nat.mul_succ];exact Mq.B.mono this ()
  .show q.2 ∣ p.2*gP r;rcases mem_cons.mp hq with z | z
   .rw[z];exact Int.dvd_mul_right _ _
   .exact Int.dvd_trans (c q z) (Int.dvd_mul_left _ _)
theorem Yq:∀n,(∀i,i < n->Mq.Fr L M (F i))->Mq.Fr L (M*n) (Mq.rs n F)
 |0,_=>Mq.Fr.zero.mono (Nat.zero_le _)
 |n+1,h=>by
  have a:=Yq n λi hi=>h i ();exact(a.add (h n ())).mono (by rw[Nat.mul_succ];lia)
structure SvK (m:Nat) (es:List Nat) (hs:List Mq.Q2) (X:List (List Mq.Q2)) (cs:List Mq.Q2) (k n:Nat):Prop where
 ql:nB (rtH m es hs X cs)
 qb:∀p∈rtH m es hs X cs,Mq.Bd k p
 xp:hV (dB (inn m es) X)
 xb:∀row∈dB (inn m es) X,∀p∈row,Mq.Bd k p
 b1:10+k+k*(m+1)<=8000
 bd:BdR n (iD (dB (inn m es) X) (rtH m es hs X cs))
 n1:1<=n
 b2:bw n m<=8900
 pv:∀(i:Nat) (R':List (List Int)) (d:Int) (e:Nat->Nat),i < (dB (inn m es) X).length->Bar (dB (inn m es) X).length (Mq.at2 (iD (dB (inn m es) X) (rtH m es hs X cs))) (Mq.at2 R') i i (d:Rat) e->ent R' i i≠0
theorem qq6 (m8:m<=8)(sz:Szs L M k m ds)(nh:jV ds)(TV:TbV m ds X cs k k)(lh:LB h hs)(h1:1<=h)(hl:hs.length=es.length)(ge:iO m es)(hp:p∈rtH m es hs X cs):Low p/\Mq.Fr (L*gP hs) (M*ds.length*2 ^ h*m+M*ds.length) (Mq.val p):=by
 obtain⟨i,hi,rfl⟩:=mem_map.mp hp;have im:=(dI.mp hi).1;have TD:TbD k m X cs:=⟨TV.sq.lX,TV.sq.lc,m8,TV.sq.rX,TV.sq.rc⟩
 have lv:=Br (m:=m) (es:=es) lh h1 es.length ();obtain⟨v1,_,v3⟩:=wH TD lv (jQ m es hs _) im;obtain⟨B1,_,Bd⟩:=vB lh;have L1:=sz.L1;exists Mq.qW q01.1.pos v1.pos,?_;have hv:∀j,j < m->Mq.Fr (gP hs) (2 ^ h) (cv (lvH m es hs es.length) j):=λj hj=>by
  unfold cv
  by_cases c:j∈es
  .obtain⟨a,ha,rfl⟩:=getElem_of_mem c;have ea:es.getD a 0=es[a]:=by rw[getD_eq_getElem?_getD,getElem?_eq_getElem ha];rfl
   rw[<- ea,Bj ge.nd ge.lt ha _ (Nat.le_refl _) ha];have hm:hs.getD a Mq.z0∈hs:=mem_of_getElem? (dP ());obtain⟨l1,l2⟩:=lh.h _ hm;exact Mq.Fr.of B1 l1.pos (Bd _ hm) (Nat.le_of_lt l2.a)
  .rw[Hf c _ (Nat.le_refl _)];have z0:Mq.val (0,1)=0:=by unfold Mq.val;simp;grind
   rw[z0];exact Mq.Fr.zero.mono (Nat.zero_le _)
 have hs':Mq.Fr (L*gP hs) (M*ds.length*2 ^ h*m) (Mq.rs m λj=>dU X i j*cv (lvH m es hs es.length) j):=Yq m λj hj=>by
  have a:Mq.Fr L (M*ds.length) (dU X i j):=by
   show Mq.Fr L _ (Mq.val (jX X i j));rw[<- TV.vM i j im hj];exact Hx i j m sz.rows nh
  exact a.mul L1 B1 (hv j hj)
 have hc:Mq.Fr (L*gP hs) (M*ds.length) (cv cs i):=by
  have a:Mq.Fr L (M*ds.length) (cv cs i):=by
   show Mq.Fr L _ (Mq.val (cs.getD i (0,1)));rw[<- TV.vR i im];exact Iz i m sz.rows nh
  exact a.lift (K:=gP hs) L1 B1
 rw[oK q01.1.pos v1.pos,v3];have z0:Mq.val (0,1)=0:=by unfold Mq.val;simp;grind
 rw[z0];generalize (Mq.rs m λj=>dU X i j*cv (lvH m es hs es.length) j)=A at hs';generalize cv cs i=B at hc;rw[show (0:Rat) - (A - B)=-A+B by grind];exact hs'.neg.add hc
theorem Jo (r:Rg m k h)(he:e<=m):k+h*(e+1)+5<=600/\10+(k+h*(e+1)+5)+(k+h*(e+1)+5)*(m+1)<=8000/\bw (k+h*(e+1)+5+(k+h*e+1)) m<=8900/\(k+h+1)*(m+1)+8<=9000/\1+(k+h+1)*m+k+2<=8900/\m<=6/\1<=h:=by
 have a:=Nat.mul_le_mul_left h (show e+1<=m+1 by lia);have b:=Nat.mul_le_mul_left h he;rcases r with ⟨hm,rfl,rfl⟩ | ⟨hm,rfl,rfl⟩
 .have c:=Nat.mul_le_mul (show 280+31*(e+1)+5<=409 by lia) (show m+1<=4 by lia);have d:=Nat.mul_le_mul (show 280+31*(e+1)+5+(280+31*e+1)+5<=788 by lia) (show m+1<=4 by lia);exists (),(),?_,(),(),(),();show (280+31*(e+1)+5+(280+31*e+1)+5)*(m+1)+8<=8900;lia
 .have c:=Nat.mul_le_mul (show 28+4*(e+1)+5<=61 by lia) (show m+1<=7 by lia);have d:=Nat.mul_le_mul (show 28+4*(e+1)+5+(28+4*e+1)+5<=119 by lia) (show m+1<=7 by lia);exists (),(),?_,(),(),(),();show (28+4*(e+1)+5+(28+4*e+1)+5)*(m+1)+8<=8900;lia
theorem qc7 (rg:Rg m k h)(nb:sV m ds)(sz:Szs L M k m ds)(nh:jV ds)(ge:iO m es)(le:lsP (mk m ds) m es=[])(TV:TbV m ds X cs k k)(hX:∀row∈X,∀p∈row,p.2 ∣ L)(lh:LB h hs)(hl:hs.length=es.length):SvK m es hs X cs (k+h*(es.length+1)+5) (k+h*(es.length+1)+5+(k+h*es.length+1)):=by
 obtain⟨g1,g2⟩:=iY ge;obtain⟨n0,n1,n2,n3,n4,m6,h1⟩:=Jo rg g2;obtain⟨B1,B2,B3⟩:=vB lh;rw[hl] at B2;have L1:=sz.L1;have LB1:1<=L*gP hs:=by
  have:=Int.mul_le_mul L1 B1 () ();simpa using this
 have LBb:Mq.B (k+h*es.length+1) (L*gP hs):=Mq.B.mono (sz.LB.mul B2) ();have rt:∀p∈rtH m es hs X cs,Low p/\Mq.Bd (k+h*(es.length+1)+5) p/\p.2 ∣ L*gP hs:=λp hp=>by
  obtain⟨lo,a,ea,ab⟩:=qq6 () sz nh TV lh h1 hl ge hp;exists lo,?_;refine Ov lo LB1 (Mq.B.mono LBb (by rw[Nat.mul_succ];lia)) (Nat.lt_of_le_of_lt ab ?_) ea;rw[Int.natAbs_mul];have hk:=sz.hk;have e1:M*ds.length*2 ^ h*m+M*ds.length<=M*ds.length*(2 ^ h*8):=by
   have p1:1<=2 ^ h:=Nat.one_le_two_pow;have:M*ds.length*2 ^ h*m<=M*ds.length*2 ^ h*7:=Nat.mul_le_mul_left _ ();have q:M*ds.length<=M*ds.length*2 ^ h:=Nat.le_mul_of_pos_right _ ();rw[show M*ds.length*(2 ^ h*8)=M*ds.length*2 ^ h*7+M*ds.length*2 ^ h by rw[<- Nat.mul_assoc];lia];lia
  have e2:(M*ds.length*2 ^ h*m+M*ds.length)*(L.natAbs*(gP hs).natAbs)<=(M*ds.length*L.natAbs)*(2 ^ h*8*(gP hs).natAbs):=by
   refine Nat.le_trans (Nat.mul_le_mul_right _ e1) (Nat.le_of_eq ?_);simp only[Nat.mul_assoc,Nat.mul_left_comm,Nat.mul_comm]
  refine Nat.lt_of_le_of_lt e2 ?_;have b2:(gP hs).natAbs < 2 ^ (h*es.length+1):=B2;have e3:(M*ds.length*L.natAbs)*(2 ^ h*8*(gP hs).natAbs)<=2 ^ k*(2 ^ h*2 ^ 3*2 ^ (h*es.length+1)):=Nat.mul_le_mul (Nat.le_of_lt hk) (Nat.mul_le_mul (Nat.le_refl _) (Nat.le_of_lt b2));refine Nat.lt_of_le_of_lt e3 ?_;rw[<- Nat.pow_add,<- Nat.pow_add,<- Nat.pow_add];exact Nat.pow_lt_pow_right ∅ (by rw[Nat.mul_succ];lia)
 have cell:∀row∈dB (inn m es) X,(∀p∈row,1<=p.2/\Mq.Bd (k+h*(es.length+1)+5) p/\p.2 ∣ L*gP hs)/\row.length=(dB (inn m es) X).length:=λrow hr=>by
  obtain⟨i,hi,rfl⟩:=mem_map.mp hr;have im:=(dI.mp hi).1;refine⟨λp hp=>?_,by rw[length_map,iZ]⟩;obtain⟨j,hj,rfl⟩:=mem_map.mp hp;have jm:=(dI.mp hj).1;have hr1:=mem_of_getElem? (iK (show i < X.length by rw[TV.sq.lX];exact im));obtain⟨w1,w2⟩:=TV.sq.rX _ hr1;have hp1:=mem_of_getElem? (dP (show j < (X.getD i []).length by rw[w1];exact jm));have d:=hX _ hr1 _ hp1;exists (w2 _ hp1).1.pos,(w2 _ hp1).2.mono (),Int.dvd_trans d (Int.dvd_mul_right _ _)
 have xp:hV (dB (inn m es) X):=λrow hr p hp=>((cell row hr).1 p hp).1;exists λp hp=>(rt p hp).1,λp hp=>(rt p hp).2.1,xp,λrow hr p hp=>((cell row hr).1 p hp).2.1,n1,?_,(),n2,λi R' d e hi B=>?_
 .exact Ux xp (λp hp=>(rt p hp).1.pos) (by unfold rtH;rw[length_map,iZ]) (λrow hr=>⟨λp hp=>((cell row hr).1 p hp).2,(cell row hr).2⟩) (λp hp=>(rt p hp).2) LB1 LBb
 .have lq:(rtH m es hs X cs).length=(dB (inn m es) X).length:=by unfold rtH;rw[length_map,iZ]
  have lp:=iZ (inn m es) X;have il:=mY m es;rw[lp] at hi B;refine Ea nb sz.rows nh ge le (X:=sP (dB (inn m es) X) (rtH m es hs X cs)) (w:=(inn m es).length+1) (k:=k+h*(es.length+1)+5) ⟨by rw[pV lq,lp],(),(),(),Nat.le_refl _,(),?_,?_,L*gP hs,LB1,Mq.B.mono LBb (by rw[Nat.mul_succ];lia),λrow hr=>?_⟩ (λs x hs' hx=>?_) i R' d e hi B
  .have:=Nat.mul_le_mul_left (k+h*(es.length+1)+5) (show (inn m es).length+1<=m+1 by lia);lia
  .show (k+h*(es.length+1)+5+(k+h*(es.length+1)+5)+5)*((inn m es).length+1)+8+(k+h*(es.length+1)+5)<=8900;have hm:(inn m es).length+1<=m+1:=by lia
   have:=Nat.mul_le_mul_left (k+h*(es.length+1)+5+(k+h*(es.length+1)+5)+5) hm;have n8:(k+h*(es.length+1)+5+(k+h*(es.length+1)+5)+5)*(m+1)+8+(k+h*(es.length+1)+5)<=8900:=by
    rcases rg with ⟨a,rfl,rfl⟩ | ⟨a,rfl,rfl⟩
    .refine Nat.le_trans (Nat.add_le_add (Nat.add_le_add_right (Nat.mul_le_mul (show _<=823 by lia) (show m+1<=4 by lia)) 8) (show _<=409 by lia)) ∅
    .refine Nat.le_trans (Nat.add_le_add (Nat.add_le_add_right (Nat.mul_le_mul (show _<=127 by lia) (show m+1<=7 by lia)) 8) (show _<=61 by lia)) ∅
   lia
  .obtain⟨s,hs',rfl⟩:=getElem_of_mem hr;have hs2:s < (inn m es).length:=by rw[pV lq,lp] at hs';exact hs'
   have e1:=lZ (X:=dB (inn m es) X) (qs:=rtH m es hs X cs) lq (show s < (dB (inn m es) X).length by lia);rw[getD_eq_getElem?_getD,getElem?_eq_getElem hs'] at e1;have e1:(sP (dB (inn m es) X) (rtH m es hs X cs))[s]=_:=e1;rw[e1];have mr:=mem_of_getElem? (iK (show s < (dB (inn m es) X).length by lia));obtain⟨c1,c2⟩:=cell _ mr;exists by rw[List.length_append,c2,lp];rfl,λp hp=>?_;rcases mem_append.mp hp with z | z
   .exact c1 p z
   .rw[mem_singleton.mp z];have:=rt _ (mem_of_getElem? (dP (l:=rtH m es hs X cs) (i:=s) ()));exists this.1.pos,this.2.1,this.2.2
  .have e1:=lZ (X:=dB (inn m es) X) (qs:=rtH m es hs X cs) lq (show s < (dB (inn m es) X).length by lia);have mr:=mem_of_getElem? (iK (show s < (dB (inn m es) X).length by lia));have c2:=(cell _ mr).2;show Mq.val (((sP (dB (inn m es) X) (rtH m es hs X cs)).getD s []).getD x Mq.z0)=_;rw[e1,getD_eq_getElem?_getD,getElem?_append_left (),<- getD_eq_getElem?_getD];have im:∀{y:Nat},y < (inn m es).length->(inn m es).getD y 0 < m:=λ{y} hy=>(dI.mp (by rw[getD_eq_getElem?_getD,getElem?_eq_getElem hy];exact getElem_mem hy)).1;exact(Jv (m:=m) hs' hx).trans (TV.vM _ _ (im hs') (im hx)).symm
inductive Bs (CN CT CP CH CF:Addr) (K:Frag) (vs:List V) (H:Hp) (Q:VK) (E:XK):Prop where
 |mk (n l:Addr) (m:Nat) (ds:List RD) (x:V) (av:List Addr):vs=[.ref n,x]->dR CN K H n l (m:Int) ds->sV m ds->kQ av H->(qf6 CP CH CF K m ds x H E λes b=>∃L M k,Szs L M k m ds/\∀t Z zs H',aP H H'->sW av CT K H' t (ups es) Z zs->TbF m ds es Z zs (nE m k es)->Q (.ref t) H')->Bs CN CT CP CH CF K vs H Q E
inductive Lj (CN CP CH CF:Addr) (K:Frag) (vs:List V) (H:Hp) (Q:VK) (E:XK):Prop where
 |mk (n l hA:Addr) (m:Nat) (ds:List RD) (x:V) (zh:List V):vs=[.ref n,x,.ref hA]->dR CN K H n l (m:Int) ds->sV m ds->SqL K H hA zh->(qf6 CP CH CF K m ds x H E λes b=>∃L M k h hs,Rg m k h/\Szs L M k m ds/\LB h hs/\hs.length=es.length/\Fqs K H zh hs/\∀l' zs ps H',aP H H'->H l'=none->H' l'=some (.lst zs)->Fqs K H' zs ps->HtF m ds es hs ps->Q (.ref l') H')->Lj CN CP CH CF K vs H Q E
theorem rJ:(["point","lacking"]:List Str).Nodup:=by decide +kernel
abbrev sIH:Stmt:=top 67
theorem xK:aQ ["net","ends","heights","inner","levels","point","height","table","lacking","right"] ["net","ends","heights"] (aH sIH):=sK9
inductive rK (vs:List V) (H:Hp) (Q:VK) (E:XK):Prop where
 |mk (t b:Int) (n:Nat):vs=[.int t,.int b]->0 < b->Mq.B n b->n<=9000->xD H Q (red t b)->rK vs H Q E
theorem Ab {t b:Int}(h:0 < b):dvr t b=gc t b:=by unfold dvr;rw[if_neg ()]
inductive Do (K:Frag) (vs:List V) (H:Hp) (Q:VK) (E:XK):Prop where
 |mk (a:Addr) (ns:List Int) (j:Int) (k:Nat):vs=[.ref a,.int j]->j=(k:Int)->SqL K H a (ns.map V.int)->ns.length<=63->k<=63->(∀i H',aP H H'->Q (.int i) H')->Do K vs H Q E
abbrev qg2:Stmt:=top 72
theorem Yo:aQ ["_law_script","_law_k","_law_cell"] ["_law_script","_law_k"] (aH qg2):=sK9
abbrev Zs:Stmt:=top 73
theorem Za:aQ ["_law_one","_law_other"] ["_law_one","_law_other"] (aH Zs):=sK9
abbrev zY:Stmt:=top 74
theorem Du:aQ ["_law_top","_law_bottom","_law_part"] ["_law_top","_law_bottom"] (aH zY):=sK9
inductive Zm (K:Frag) (vs:List V) (H:Hp) (Q:VK) (E:XK):Prop where
 |mk (a:Addr) (p:Mq.Q2):vs=[.ref a]->Fq K H a p->Low p->Q (.bl true) H->Zm K vs H Q E
abbrev sIs:Stmt:=top 75
theorem qj1:aQ ["_law_found","_law_number"] ["_law_found"] (aH sIs):=sK9
inductive Co (K:Frag) (vs:List V) (H:Hp) (Q:VK) (E:XK):Prop where
 |mk (a:Addr) (xs:List V) (ps:List Mq.Q2):vs=[.ref a,.int (ps.length:Int)]->SqL K H a xs->Fqs K H xs ps->nB ps->ps.length<=100->(∀H',aP H H'->Q (.bl true) H')->Co K vs H Q E
theorem Po:(["_law_one"]:List Str).Nodup:=by decide +kernel
abbrev Ft:Stmt:=top 76
theorem Vq:aQ ["_law_found","_law_many"] ["_law_found","_law_many"] (aH Ft):=sK9
theorem tE (x:Int)(h:0 < m):0<=x % m:=Int.emod_nonneg x ()
theorem tJ (x:Int)(h:0 < m):x % m < m:=Int.emod_lt_of_pos x h
def bits (fr:Bool):Nat:=if fr then 30 else 4
inductive As (vs:List V) (H:Hp) (Q:VK) (E:XK):Prop where
 |mk (c:Int) (fr:Bool):vs=[.int c,.bl fr]->(∀p,Ps p->Mq.Bd (bits fr) p->xD H Q p)->As vs H Q E
inductive pT (vs:List V) (H:Hp) (Q:VK) (E:XK):Prop where
 |mk (c:Int) (fr:Bool):vs=[.int c,.bl fr]->(∀p,Low p->Mq.Bd (bits fr) p->xD H Q p)->pT vs H Q E
theorem Ec (q:∀p,Ps p->Mq.Bd (bits fr) p->xD H Q p)(h1:0 < t)(h2:t < 2 ^ bits fr)(h3:0 < b)(h4:b < 2 ^ bits fr):rK [.int t,.int b] H Q E0:=by
 have bT:Mq.B (bits fr) t:=Mu (by have:(0:Int) < 2 ^ bits fr:=Int.pow_pos ∅;lia) h2;have bB:Mq.B (bits fr) b:=Mu (by have:(0:Int) < 2 ^ bits fr:=Int.pow_pos ∅;lia) h4;have le:=kT (t:=t) (show b≠0 by lia);exists t,b,bits fr,rfl,h3,bB,by unfold bits;split<;>lia,q _ (Mq.qa4 h1 h3) ⟨bT.le le.1,bB.le le.2⟩
theorem vH (q:∀p,Low p->Mq.Bd (bits fr) p->xD H Q p)(h1:-(2 ^ bits fr) < t)(h2:t < 2 ^ bits fr)(h3:0 < b)(h4:b < 2 ^ bits fr):rK [.int t,.int b] H Q E0:=by
 have bT:Mq.B (bits fr) t:=Mu h1 h2;have bB:Mq.B (bits fr) b:=Mu (by have:(0:Int) < 2 ^ bits fr:=Int.pow_pos ∅;lia) h4;have le:=kT (t:=t) (show b≠0 by lia);exists t,b,bits fr,rfl,h3,bB,by unfold bits;split<;>lia,q _ (gW ()) ⟨bT.le le.1,bB.le le.2⟩
abbrev Qr:Stmt:=top 80
theorem qi6:aQ ["_law_cell","_law_far"] ["_law_cell","_law_far"] (aH Qr):=sK9
abbrev Bf:Stmt:=top 81
theorem Rh:aQ ["_law_cell","_law_far"] ["_law_cell","_law_far"] (aH Bf):=sK9
inductive An (CN:Addr) (K:Frag) (vs:List V) (H:Hp) (Q:VK) (E:XK):Prop where
 |mk (m:Int) (r:Addr) (us:List V) (ds:List RD):vs=[.int m,.ref r]->1<=m->m<=20->SqL K H r us->Rts K H us ds->(∀d∈ds,xM m d)->ds.length<=40->(∀n l H',aP H H'->H l=none->dR CN K H' n l m ds->Q (.ref n) H')->An CN K vs H Q E
abbrev Go:Stmt:=top 79
theorem Bk:aQ ["_law_many","_law_rows_here","_law_net_here","_law_row"] ["_law_many","_law_rows_here"] (aH Go):=sK9
def mrl (ps:List Mq.Q2)(j:Nat)(t b:Int):List Mq.Q2:=ps.set j ((ps.getD j (0,1)).1*b+t*(ps.getD j (0,1)).2,(ps.getD j (0,1)).2*b)
structure LnR (ps:List Mq.Q2) (w n:Nat):Prop where
 w:ps.length=w
 l:∀p∈ps,1<=p.2/\Mq.Bd n p
theorem LnR.mono {w n n':Nat}(b:LnR R w n)(le:n<=n'):LnR R w n':=⟨b.w,λp hp=>⟨(b.l p hp).1,(b.l p hp).2.mono le⟩⟩
theorem LnR.at {w n j:Nat}(b:LnR R w n)(hj:j < w):R[j]?=some (R.getD j (0,1))/\1<=(R.getD j (0,1)).2/\Mq.Bd n (R.getD j (0,1)):=by
 have hj':j < R.length:=by rw[b.w];exact hj
 have:=Dl hj';exists this,b.l _ (mem_of_getElem? this)
theorem Pz {w n k j:Nat}(l:LnR R w n)(hj:j < w)(hb:1<=b)(bt:Mq.B k t)(bb:Mq.B k b):LnR (mrl R j t b) w (n+k+1)/\∀x,Mq.val ((mrl R j t b).getD x (0,1))=Mq.val (R.getD x (0,1))+if j=x then (t:Rat) / (b:Rat) else 0:=by
 obtain⟨_,p1,bp⟩:=l.at hj;exists ⟨by unfold mrl;rw[length_set];exact l.w,λp hp=>?_⟩,λx=>?_
 .rcases mem_or_eq_of_mem_set hp with z | z
  .exists (l.l p z).1,(l.l p z).2.mono ()
  .rw[z];have h1:Mq.B (n+k) ((R.getD j (0,1)).1*b):=bp.a.mul bb;have h2:Mq.B (n+k) (t*(R.getD j (0,1)).2):=by rw[Nat.add_comm];exact bt.mul bp.b
   have h3:Mq.B (n+k) ((R.getD j (0,1)).2*b):=bp.b.mul bb;exists ?_,?_,h3.mono ()
   .show 1<=(R.getD j (0,1)).2*b;have:=Int.mul_pos (show 0 < (R.getD j (0,1)).2 by lia) (show 0 < b by lia);lia
   .show Mq.B (n+k+1) ((R.getD j (0,1)).1*b+t*(R.getD j (0,1)).2);unfold Mq.B at h1 h2 ⊢;have:(2:Nat) ^ (n+k+1)=2*2 ^ (n+k):=by rw[Nat.pow_succ];lia
    lia
 .unfold mrl;rw[yD (by rw[l.w];exact hj)]
  by_cases e:j=x
  .subst e;rw[if_pos rfl,if_pos rfl];have n1:=cH (show (R.getD j (0,1)).2≠0 by lia);have n2:=cH (show b≠0 by lia);generalize R.getD j (0,1)=p at n1;unfold Mq.val;show (((p.1*b+t*p.2:Int)):Rat) / ((p.2*b:Int):Rat)=_;rw[Rat.intCast_add,Rat.intCast_mul,Rat.intCast_mul,Rat.intCast_mul];grind
  .rw[if_neg e,if_neg e,Rat.add_zero]
inductive Hu (K:Frag) (vs:List V) (H:Hp) (Q:VK) (E:XK):Prop where
 |mk (l:Addr) (j:Nat) (t b:Int) (xs:List V) (ps:List Mq.Q2) (n k:Nat):vs=[.ref l,.int (j:Int),.int t,.int b]->H l=some (.lst xs)->Fqs K H xs ps->j < ps.length->Mq.Bd n (ps.getD j (0,1))->Mq.B k t->Mq.B k b->n+k<=1000000->(∀xs' H',SX [l] H H'->H' l=some (.lst xs')->Fqs K H' xs' (mrl ps j t b)->Q .non H')->Hu K vs H Q E
abbrev Qa:Stmt:=top 85
theorem qd7:aQ ["_law_sums","_law_at","_law_top","_law_bottom"] ["_law_sums","_law_at","_law_top","_law_bottom"] (aH Qa):=sK9
abbrev Gs:Stmt:=top 77
theorem kX:aQ ["_law_some","_law_others","_law_due","_law_top","_law_bottom","_law_one","_law_other"] ["_law_some","_law_others","_law_due"] (aH Gs):=sK9
inductive zM (vs:List V) (H:Hp) (Q:VK) (E:XK):Prop where
 |mk (i:Int):vs=[.int i]->Q (.bl true) H->zM vs H Q E
abbrev Gg:Stmt:=top 78
theorem Vi:aQ ["_law_found"] ["_law_found"] (aH Gg):=sK9
def mB (fr:Bool):Nat:=if fr then 3 else 6
def nRw (fr:Bool):Nat:=if fr then 8 else 17
def nDr (fr:Bool):Nat:=if fr then 6 else 12
structure DrB (fr:Bool) (m:Nat) (d:RD):Prop where
 ok:xM (m:Int) d
 bd:Mq.Bd (bits fr) d.2.2.2
 nh:d.1≠.ho
inductive Be (K:Frag) (vs:List V) (H:Hp) (Q:VK) (E:XK):Prop where
 |mk (a:Addr) (ns:List Int) (m:Nat) (fr:Bool):vs=[.ref a,.int (m:Int),.bl fr]->SqL K H a (ns.map V.int)->ns.length<=63->1<=m->m<=mB fr->(∀r us ds H',aP H H'->H r=none->H' r=some (.lst us)->Rts K H' us ds->(∀d∈ds,DrB fr m d)->ds.length<=nRw fr->Q (.ref r) H')->Be K vs H Q E
theorem Xd (xs:List V)(j:Int){n:Nat}(h0:0<=j)(h:j<=n):(jA xs (some 6) (some (6+j))).length<=n:=by
 obtain⟨k,rfl⟩:∃k:Nat,j=(k:Int):=⟨j.toNat,()⟩
 unfold jA;have h1:HT.sIx xs.length xs.length (some (6+(k:Int)))=min (6+k) xs.length:=by
  have e:(6+(k:Int))=((6+k:Nat):Int):=by lia
  simp only[HT.sIx];split<;>lia
 have h2:HT.sIx xs.length 0 (some 6)=min 6 xs.length:=by simp[HT.sIx]
 rw[h1,h2,length_take,length_drop];lia
theorem Jy {m:Nat}(i0:0<=i)(i1:i < (m:Int))(j0:0<=j)(j1:j < (m:Int))(pp:Ps p)(bp:Mq.Bd (bits fr) p):xM (m:Int) (.pc,i,j,p):=
 ⟨i0,i1,j0,j1,pp.1,λ_=>pp.2,bp.mono (by cases fr<;>decide)⟩
theorem Xk {m:Nat}(i0:0<=i)(i1:i < (m:Int))(j0:0<=j)(j1:j < (m:Int))(pp:Low p)(bp:Mq.Bd (bits fr) p):xM (m:Int) (.pu,i,j,p):=
 ⟨i0,i1,j0,j1,pp,(λz=>by cases z),bp.mono (by cases fr<;>decide)⟩
abbrev Im:Stmt:=top 82
theorem lK:aQ ["_law_script","_law_many","_law_far","_law_rows_here","_law_k","_law_cell","_law_row"] ["_law_script","_law_many","_law_far"] (aH Im):=sK9
theorem qs3:(["_law_k"]:List Str).Nodup:=by decide +kernel
theorem pX:(["_law_mark","_law_other","_law_one"]:List Str).Nodup:=by decide +kernel
theorem Cf:(["_law_end","_law_marks"]:List Str).Nodup:=by decide +kernel
theorem mX:(["_law_point","_law_marks","_law_known"]:List Str).Nodup:=by decide +kernel
inductive zF (K:Frag) (vs:List V) (H:Hp) (Q:VK) (E:XK):Prop where
 |mk (r b:Addr) (us:List V) (m:Nat) (ds:List RD) (es:List Nat):vs=[.int (m:Int),.ref r,.ref b]->SqL K H r us->Rts K H us ds->(∀d∈ds,gQ (m:Int) d.2.1 d.2.2.1)->jV ds->m<=20->SqL K H b ((ups es).map V.int)->(∀e∈es,e < m)->es.length<=20->(∀l H',aP H H'->H l=none->H' l=some (.lst ((ups (lsP (mk m ds) m es)).map V.int))->Q (.ref l) H')->zF K vs H Q E
theorem Dt (F:Nat->Int)(m:Nat)(es:List Nat):lsP F (m+1) es=lsP F m es++if es.all (λe=>decide (F e≠F m))=true then [m] else []:=by
 unfold lsP;rw[range_succ,filter_append];congr 1
 cases c:es.all (λe=>decide (F e≠F m)) with
 |true=>rw[filter_cons_of_pos (by exact c)];rfl
 |false=>rw[filter_cons_of_neg (by show ¬(es.all (λe=>decide (F e≠F m))=true);rw[c];decide)];rfl
theorem Wv (F:Nat->Int)(es:List Nat)(m:Nat):(!decide (F m∈es.map F))=es.all (λe=>decide (F e≠F m)):=by
 cases c:es.all (λe=>decide (F e≠F m)) with
 |true=>
  rw[decide_eq_false (λz=>?_)];rfl;obtain⟨e,he,ee⟩:=mem_map.mp z;exact of_decide_eq_true (all_eq_true.mp c e he) ee
 |false=>
  obtain⟨e,he,ee⟩:=all_eq_false.mp c;rw[decide_eq_true (mem_map.mpr ⟨e,he,?_⟩)];rfl;exact Classical.byContradiction λz=>ee (decide_eq_true z)
theorem On (F:Nat->Int)(m:Nat)(es:List Nat):(lsP F m es).length<=m:=by
 have:=length_filter_le (λp=>es.all λe=>decide (F e≠F p)) (List.range m);rw[length_range] at this;exact this
abbrev Hs:Stmt:=top 84
theorem iI:aQ ["_law_many","_law_rows_here","_law_ends_here","_law_marks","_law_word","_law_start","_law_goal","_law_size_here","_law_one","_law_other","_law_known"] ["_law_many","_law_rows_here","_law_ends_here"] (aH Hs):=sK9
theorem xR:(["_law_point","_law_cell"]:List Str).Nodup:=by decide +kernel
inductive Ip (K:Frag) (vs:List V) (H:Hp) (Q:VK) (E:XK):Prop where
 |mk (a:Addr) (ns:List Int) (m:Nat):vs=[.ref a,.int (m:Int)]->SqL K H a (ns.map V.int)->ns.length<=63->1<=m->m<=6->(∀r es H',aP H H'->H r=none->H' r=some (.lst ((ups es).map V.int))->iO m es->Q (.ref r) H')->Ip K vs H Q E
theorem at6 {i:Nat}(h:i < 6):∃j:Int,1<=j/\j<=32/\atI [V.int 1,.int 2,.int 4,.int 8,.int 16,.int 32] (i:Int)=some (.int j):=by
 have:i=0\/i=1\/i=2\/i=3\/i=4\/i=5:=by lia
 rcases this with rfl | rfl | rfl | rfl | rfl | rfl
 .exists 1,∅,∅,rfl
 .exists 2,∅,∅,rfl
 .exists 4,∅,∅,rfl
 .exists 8,∅,∅,rfl
 .exists 16,∅,∅,rfl
 .exists 32,∅,∅,rfl
abbrev Uo:Stmt:=top 83
theorem mP:aQ ["_law_script","_law_many","_law_cell","_law_ends_here","_law_rest","_law_found","_law_point"] ["_law_script","_law_many"] (aH Uo):=sK9
theorem Qf (m:Nat):LnR (replicate m (0,1)) m 1:=⟨length_replicate,λp hp=>by
 rw[eq_of_mem_replicate hp];exact⟨∅,⟨show (0:Nat) < 2 ^ 1 by decide,show (1:Nat) < 2 ^ 1 by decide⟩⟩⟩
def rR (m:Nat)(ds:List RD)(u:Nat->Rat)(x:Nat):Rat:=(Mq.rs m λp=>eqM m ds x p*u p) - eqR m ds x
def snd (d:RD)(u:Nat->Rat):Rat:=match d.1 with
 | .pc=>(u d.2.1.toNat - u d.2.2.1.toNat) / Mq.val d.2.2.2
 | .pu=>Mq.val d.2.2.2
 | .ho=>0
theorem Pu (m:Nat)(u:Nat->Rat)(x:Nat):rR m [] u x=0:=by
 unfold rR;show (Mq.rs m λp=>(0:Rat)*u p) - 0=0;rw[aK (G:=λ_=>0) (λi _=>Rat.zero_mul _),dQ];grind
theorem Od {m:Nat}(pt:gQ (m:Int) d.2.1 d.2.2.1)(nh:d.1≠.ho)(u:Nat->Rat)(x:Nat):rR m (ds++[d]) u x=rR m ds u x+dl d.2.1.toNat d.2.2.1.toNat x*snd d u:=by
 obtain⟨i0,i1,j0,j1⟩:=pt;unfold rR;rw[wT,aK (G:=λp=>eqM m ds x p*u p+cM d (m+tK ds) x p*u p) (λp _=>by rw[wS];grind),eH];have key:(Mq.rs m λp=>cM d (m+tK ds) x p*u p) - cR d (m+tK ds) x=dl d.2.1.toNat d.2.2.1.toNat x*snd d u:=by
  unfold cM cR snd
  cases e:d.1 with
  |pc=>
   simp only;have:=Pc u (n:=m) (s:=d.2.1.toNat) (g:=d.2.2.1.toNat) () ();rw[aK (G:=λp=>(dl d.2.1.toNat d.2.2.1.toNat x*(1 / Mq.val d.2.2.2))*(u p*dl d.2.1.toNat d.2.2.1.toNat p)) (λp _=>by grind),eQ,this];grind
  |pu=>
   simp only;rw[aK (G:=λ_=>0) (λi _=>Rat.zero_mul _),dQ];grind
  |ho=>exact absurd e nh
 rw[<- key];grind
inductive Jj (K:Frag) (vs:List V) (H:Hp) (Q:VK) (E:XK):Prop where
 |mk (r h:Addr) (m:Nat) (us xs:List V) (ds:List RD) (ps:List Mq.Q2):vs=[.int (m:Int),.ref r,.ref h]->SqL K H r us->Rts K H us ds->(∀d∈ds,xM (m:Int) d/\Mq.Bd 30 d.2.2.2/\d.1≠.ho)->ds.length<=17->1<=m->m<=6->SqL K H h xs->Fqs K H xs ps->ps.length=m->LB 9000 ps->(∀o zs qs H',aP H H'->H o=none->H' o=some (.lst zs)->Fqs K H' zs qs->LnR qs m 620000->(∀x,x < m->Mq.val (qs.getD x Mq.z0)=rR m ds (cv ps) x)->Q (.ref o) H')->Jj K vs H Q E
abbrev Qc:Stmt:=top 86
theorem jE:aQ ["_law_many","_law_rows_here","_law_heights","_law_out","_law_word","_law_start","_law_goal","_law_size_here","_law_top","_law_bottom","_law_one","_law_other"] ["_law_many","_law_rows_here","_law_heights"] (aH Qc):=sK9
theorem kU:(["_law_point","_law_out","_law_ends_here"]:List Str).Nodup:=by decide +kernel
inductive To (CN:Addr) (K:Frag) (vs:List V) (H:Hp) (Q:VK) (E:XK):Prop where
 |mk (n l hA b:Addr) (m:Nat) (ds:List RD) (es:List Nat) (zh:List V) (L:Int) (M k h:Nat) (hs:List Mq.Q2):vs=[.ref n,.ref b,.ref hA]->dR CN K H n l (m:Int) ds->sV m ds->SqL K H hA zh->H b=some (.lst ((ups es).map V.int))->iO m es->jV ds->lsP (mk m ds) m es=[]->Rg m k h->Szs L M k m ds->LB h hs->hs.length=es.length->Fqs K H zh hs->(∀l' zs ps H',aP H H'->H l'=none->H' l'=some (.lst zs)->Fqs K H' zs ps->HtF m ds es hs ps->Q (.ref l') H')->To CN K vs H Q E
theorem Bo (nh:jV ds):EHo CH H E ds:=λi f=>by
 obtain⟨⟨d,e,k⟩,_⟩:=f;exact absurd k (nh d (mem_of_getElem? e))
theorem qn8 (F:aJ P w K mg base (CX1 P w) 9 g gd ["net","ends","heights"] (Lj CN CP CH CF K)):aJ P w K mg base CX0 9 g gd ["net","ends","heights"] (To CN K):=
 F.calm.weak λvs H Q E h=>by
  obtain⟨n,l,hA,b,m,ds,es,zh,L,M,k,h,hs,rfl,nt,nb,hz,hb,ge,nh,le,rg,sz,lh,hl,fh,q⟩:=h;exists n,l,hA,m,ds,.ref b,zh,rfl,nt,nb,hz,.inr ⟨b,es,rfl,hb,ge,Bo nh,λ_ z=>absurd le z,λ_ _=>⟨L,M,k,h,hs,rg,sz,lh,hl,fh,q⟩⟩
inductive zV (CN CT:Addr) (K:Frag) (vs:List V) (H:Hp) (Q:VK) (E:XK):Prop where
 |mk (n l b:Addr) (m:Nat) (ds:List RD) (es:List Nat) (av:List Addr) (L:Int) (M k:Nat):vs=[.ref n,.ref b]->dR CN K H n l (m:Int) ds->sV m ds->kQ av H->H b=some (.lst ((ups es).map V.int))->iO m es->jV ds->lsP (mk m ds) m es=[]->Szs L M k m ds->(∀t Z zs H',aP H H'->sW av CT K H' t (ups es) Z zs->TbF m ds es Z zs (nE m k es)->Q (.ref t) H')->zV CN CT K vs H Q E
theorem Oq (F:aJ P w K mg base (CX1 P w) 9 g gd ["net","ends"] (Bs CN CT CP CH CF K)):aJ P w K mg base CX0 9 g gd ["net","ends"] (zV CN CT K):=
 F.calm.weak λvs H Q E h=>by
  obtain⟨n,l,b,m,ds,es,av,L,M,k,rfl,nt,nb,lav,hb,ge,nh,le,sz,q⟩:=h;exists n,l,m,ds,.ref b,av,rfl,nt,nb,lav,.inr ⟨b,es,rfl,hb,ge,Bo nh,λ_ z=>absurd le z,λ_ _=>⟨L,M,k,sz,q⟩⟩
theorem LB.snoc (h:LB n ps)(l:Low p)(b:Mq.Bd n p):LB n (ps++[p]):=⟨λq hq=>by
 rcases mem_append.mp hq with z | z
 .exact h.h q z
 .rw[mem_singleton.mp z];exact⟨l,b⟩⟩
theorem Jq (h:1<=n):Low (-1,1)/\Mq.Bd n (-1,1):=⟨⟨∅,∅⟩,Mq.Bd.mono (n:=1) ⟨by show (1:Nat) < 2 ^ 1;decide,by show (1:Nat) < 2 ^ 1;decide⟩ h⟩
theorem qk9 {n m w:Nat}(hp:LB n ps)(hh:LB m hs)(lp:ps.length=w)(lh:hs.length=w)(c1:Low c)(c2:Mq.Bd n c)(m1:1<=m):Mq.val (dot (ps++[c]) (hs++[(-1,1)]))=(Mq.rs w λi=>Mq.val (ps.getD i Mq.z0)*cv hs i) - Mq.val c:=by
 have LP:=hp.snoc c1 c2;have LQ:=hh.snoc (Jq m1).1 (Jq m1).2;rw[Ce LP LQ (by rw[List.length_append,List.length_append,lp,lh];rfl),List.length_append,lp];show (Mq.rs w λi=>Mq.val ((ps++[c]).getD i Mq.z0)*Mq.val ((hs++[((-1,1):Mq.Q2)]).getD i Mq.z0))+Mq.val ((ps++[c]).getD w Mq.z0)*Mq.val ((hs++[((-1,1):Mq.Q2)]).getD w Mq.z0)=_;have e1:(ps++[c]).getD w Mq.z0=c:=by
  rw[getD_eq_getElem?_getD,getElem?_append_right (),lp,Nat.sub_self];rfl
 have e2:(hs++[((-1,1):Mq.Q2)]).getD w Mq.z0=(-1,1):=by
  rw[getD_eq_getElem?_getD,getElem?_append_right (),lh,Nat.sub_self];rfl
 have ev:Mq.val (-1,1)=-1:=by unfold Mq.val;simp;grind
 rw[e1,e2,ev,aK (G:=λi=>Mq.val (ps.getD i Mq.z0)*cv hs i) (λi hi=>by
  rw[getD_eq_getElem?_getD,getElem?_append_left (),<- getD_eq_getElem?_getD,getD_eq_getElem?_getD (l:=hs++_),getElem?_append_left (),<- getD_eq_getElem?_getD];rfl)]
 grind
theorem Pk (hp:1<=p.2)(hq:1<=q.2)(h:Mq.val p=Mq.val q):p.1*q.2=q.1*p.2:=by
 have h1:=cH (show p.2≠0 by lia);have h2:=cH (show q.2≠0 by lia);unfold Mq.val at h;apply Rat.intCast_inj.mp;rw[Rat.intCast_mul,Rat.intCast_mul];generalize ((p.1:Int):Rat)=x1 at h ⊢;generalize ((p.2:Int):Rat)=x2 at h h1 ⊢;generalize ((q.1:Int):Rat)=x3 at h ⊢;generalize ((q.2:Int):Rat)=x4 at h h2 ⊢;grind
theorem Uh (hp:1<=p.2)(h:Mq.val p=0):p.1=0:=by
 have h1:=cH (show p.2≠0 by lia);unfold Mq.val at h;apply Rat.intCast_inj.mp;show _=(0:Rat)
 generalize ((p.1:Int):Rat)=x1 at h ⊢;generalize ((p.2:Int):Rat)=x2 at h h1 ⊢;grind
theorem TbD.low {n w:Nat}(h:TbD n w X cs)(hi:i < w):nB (X.getD i []):=λp hp=>((h.lb hi).2.h p hp).1
theorem TbD.lowB {n m w:Nat}(h:TbD n w X cs)(hh:LB m hs)(hl:hs.length=w):nB (brL X cs hs):=λp hp=>by
 obtain⟨i,hi,rfl⟩:=getElem_of_mem hp;rw[lM h hs] at hi;have a:=(wH h hh hl hi).1
 rwa [getD_eq_getElem?_getD,getElem?_eq_getElem (by rw[lM h hs];exact hi)] at a
inductive Uu (CN CT:Addr) (K:Frag) (vs:List V) (H:Hp) (Q:VK) (E:XK):Prop where
 |mk (n l t r e h:Addr) (m hb nz k M:Nat) (L:Int) (us xs:List V) (ds:List RD) (es:List Nat) (hs:List Mq.Q2) (Z:List (List Mq.Q2)) (zs:List Mq.Q2):vs=[.ref n,.ref t,.int (m:Int),.ref r,.ref e,.ref h]->dR CN K H n l (m:Int) ds->sV m ds->iL CT K H t (ups es) Z zs->TbF m ds es Z zs nz->SqL K H r us->Rts K H us ds->(∀d∈ds,xM (m:Int) d/\Mq.Bd 30 d.2.2.2/\d.1≠.ho)->ds.length<=17->H e=some (.lst ((ups es).map V.int))->iO m es->lsP (mk m ds) m es=[]->H h=some (.lst xs)->Fqs K H xs hs->LB hb hs->hs.length=es.length->Rg m k hb->Szs L M k m ds->(nz+hb+1)*(es.length+1)+8<=9000->(∀H',aP H H'->Q (.bl true) H')->Uu CN CT K vs H Q E
abbrev sWk:Stmt:=top 87
theorem Bv:aQ ["_law_net_here","_law_table","_law_many","_law_rows_here","_law_ends_here","_law_heights","_law_handed","_law_every","_law_brought","_law_out","_law_matrix","_law_comes","_law_k","_law_due"] ["_law_net_here","_law_table","_law_many","_law_rows_here","_law_ends_here","_law_heights"] (aH sWk):=sK9
structure FlC (K:Frag) (mg:Str->Option Value) (CF:Addr):Prop where
 mF:mg "Floats"=some (.ref CF)
 xF:Wg K CF
 dF:W.hasDictIn K CF=true
 nF:W.findIn K (.ref CF) "points"=some none
 eF:W.exmOne K (.ref CF) (.ref CF)=some true
inductive Tn (CN:Addr) (K:Frag) (vs:List V) (H:Hp) (Q:VK) (E:XK):Prop where
 |mk (n l b hA:Addr) (m:Nat) (ds:List RD) (es:List Nat) (zh:List V):vs=[.ref n,.ref b,.ref hA]->dR CN K H n l (m:Int) ds->sV m ds->SqL K H hA zh->H b=some (.lst ((ups es).map V.int))->iO m es->jV ds->lsP (mk m ds) m es≠[]->(∀t l1 l2 H',aP H H'->H' l1=some (.lst ((ups (lsP (mk m ds) m es)).map V.int))->H' l2=some (.lst ((ups (lsP (mk m ds) m es)).map V.int))->SqT K H' t [.ref l1,.ref l2]->Q (.ref t) H')->Tn CN K vs H Q E
abbrev Zz:Stmt:=top 88
theorem uY:aQ ["_law_net_here","_law_ends_here","_law_heights","_law_first","_law_second","e"] ["_law_net_here","_law_ends_here","_law_heights"] (aH Zz):=sK9
abbrev sRN:Stmt:=top 42
theorem qq0:aQ ["k","count"] ["k","count"] (aH sRN):=sK9
abbrev Cj:Stmt:=dD (top 39) 4
theorem Dr:aQ ["self","k","size","old"] ["self","k","size"] (aH Cj):=sK9
theorem uP (fr:Bool):bits fr<=30/\4<=bits fr:=by cases fr<;>decide
theorem DrB.mono (h:DrB fr m d)(l:Low p)(po:0 < p.1)(b:Mq.Bd 4 p):DrB fr m (d.1,d.2.1,d.2.2.1,p):=
 ⟨⟨h.ok.1,h.ok.2.1,h.ok.2.2.1,h.ok.2.2.2.1,l,λ_=>po,b.mono ∅⟩,b.mono (uP fr).2,h.nh⟩
theorem Zq (h:ds.map (λd=>(d.1,d.2.1,d.2.2.1))=es.map (λd=>(d.1,d.2.1,d.2.2.1))):mks m ds=mks m es:=by
 have e:∀ds:List RD,mks m ds=(ds.map (λd=>(d.1,d.2.1,d.2.2.1))).foldl (λms x=>iP ms (x.1,x.2.1,x.2.2,(0,1))) (xL m):=λds=>by
  rw[foldl_map];rfl
 rw[e ds,e es,h]
theorem Zo (hd:ds[i]?=some d)(p:Mq.Q2):mk m (ds.set i (d.1,d.2.1,d.2.2.1,p))=mk m ds:=by
 funext x
 unfold mk;rw[Zq (es:=ds) (by
  rw[map_set];refine ext_getElem? λj=>?_;rw[getElem?_set,length_map];split
  .rename_i e
   subst e;rw[getElem?_map,hd];have:=(List.getElem?_eq_some_iff.mp hd).1;rw[if_pos this];rfl
  .rfl)]
theorem Ut (h:0 < p.1)(l:Low p):0 < Mq.val p:=by
 unfold Mq.val;rw[Rat.div_def];exact Rat.mul_pos (by exact_mod_cast h) (Rat.inv_pos.mpr (by have:=l.pos;exact_mod_cast (show (0:Int) < p.2 by lia)))
theorem Vm (h:0 < p.1)(l:Low p):1 / Mq.val p=(p.2:Rat) / (p.1:Rat):=by
 have h1:=cH (show p.1≠0 by lia);have h2:=cH (show p.2≠0 by have:=l.pos;lia);unfold Mq.val;generalize ((p.1:Int):Rat)=x at h1 ⊢;generalize ((p.2:Int):Rat)=y at h2 ⊢;grind
def bt (d:RD):Int:=if d.1=.pc then d.2.2.2.1 else d.2.2.2.2
theorem Ze (h:DrB fr m d):1<=bt d/\Mq.B (bits fr) (bt d):=by
 unfold bt;split
 .next e=>exact⟨by have:=h.ok.2.2.2.2.2.1 e;lia,h.bd.1⟩
 .exists h.ok.2.2.2.2.1.pos,h.bd.2
theorem Lv (h:DrB fr m d)(hL:1<=L)(dv:bt d ∣ L):Fg L (2 ^ bits fr) d:=by
 have l:=h.ok.2.2.2.2.1;exists λe=>?_,λe=>?_
 .have po:=h.ok.2.2.2.2.2.1 e;exists Ut po l,?_;rw[Vm po l];unfold bt at dv;rw[if_pos e] at dv;exact Mq.Fr.of hL () dv (Nat.le_of_lt h.bd.2)
 .unfold bt at dv;rw[if_neg (by rw[e];decide)] at dv;exact Mq.Fr.of hL l.pos dv (Nat.le_of_lt h.bd.1)
def btp:List RD->Int
 | []=>1
 |d :: r=>bt d*btp r
theorem Rn:∀{ds:List RD},(∀d∈ds,DrB fr m d)->1<=btp ds/\(btp ds).natAbs < 2 ^ (bits fr*ds.length+1)/\∀d∈ds,bt d ∣ btp ds
 | [],_=>⟨∅,by show 1 < 2 ^ (_*0+1);rw[Nat.mul_zero];decide,λ_ h=>by cases h⟩
 |d :: r,h=>by
  obtain⟨a,b,c⟩:=Rn (λx hx=>h x (mem_cons_of_mem _ hx));obtain⟨u,v⟩:=Ze (h d (mem_cons_self ..));exists ?_,?_,λx hx=>?_
  .show 1<=bt d*btp r;exact Int.mul_pos () ()
  .show (bt d*btp r).natAbs < _;rw[Int.natAbs_mul,length_cons,show bits fr*(r.length+1)+1=bits fr+(bits fr*r.length+1) by rw[Nat.mul_add];lia,Nat.pow_add];exact Nat.mul_lt_mul'' v b
  .rcases mem_cons.mp hx with z | z
   .rw[z];exact Int.dvd_mul_right _ _
   .exact Int.dvd_trans (c x z) (Int.dvd_mul_left _ _)
theorem Sd {b:Int}(h1:1<=b)(h:b < 16):b ∣ 360360:=by
 have:∀k:Fin 16,1<=k.val->((k.val:Int) ∣ 360360):=by decide +kernel
 have:=this ⟨b.toNat,()⟩ (by show 1<=b.toNat;lia)
 rwa [show ((⟨b.toNat,()⟩:Fin 16).val:Int)=b by show ((b.toNat:Nat):Int)=b;lia] at this
def kN (fr:Bool):Nat:=if fr then 280 else 28
def hN (fr:Bool):Nat:=if fr then 31 else 4
theorem Ts (hm:m<=mB fr)(hl:ds.length<=nRw fr)(h:∀d∈ds,DrB fr m d):∃L,Szs L (2 ^ bits fr) (kN fr) m ds:=by
 cases fr with
 |false=>
  have hm:m<=6:=hm;have hl:ds.length<=17:=hl;exists 360360,∅,by show (360360:Nat) < 2 ^ 28;decide,?_,∅,?_,?_,λd hd=>Lv (h d hd) ∅ ?_
  .show 16*ds.length*360360 < 2 ^ 28;have:16*ds.length*360360<=16*17*360360:=Nat.mul_le_mul_right _ (Nat.mul_le_mul_left _ hl);exact Nat.lt_of_le_of_lt this ∅
  .show 10+28+28*(m+1)<=8000;lia
  .show (56+5)*(m+1)+8+28<=8900;lia
  .obtain⟨u,v⟩:=Ze (h d hd);have v:(bt d).natAbs < 2 ^ 4:=v;exact Sd u ()
 |true=>
  have hm:m<=3:=hm;have hl:ds.length<=8:=hl;obtain⟨a,b,c⟩:=Rn h;have b8:(btp ds).natAbs < 2 ^ 241:=Nat.lt_of_lt_of_le b (Nat.pow_le_pow_right ∅ (by show 30*ds.length+1<=241;lia));exists btp ds,a,?_,?_,∅,?_,?_,λd hd=>Lv (h d hd) a (c d hd)
  .exact Nat.lt_of_lt_of_le b8 (Nat.pow_le_pow_right ∅ ∅)
  .show 2 ^ 30*ds.length*(btp ds).natAbs < 2 ^ 280;have:2 ^ 30*ds.length*(btp ds).natAbs<=2 ^ 30*8*2 ^ 241:=Nat.mul_le_mul (Nat.mul_le_mul_left _ hl) (Nat.le_of_lt b8);exact Nat.lt_of_le_of_lt this ∅
  .show 10+280+280*(m+1)<=8000;lia
  .show (560+5)*(m+1)+8+280<=8900;lia
theorem Os (hm:m<=mB fr):Rg m (kN fr) (hN fr):=by
 cases fr with
 |false=>exact .inr ⟨hm,rfl,rfl⟩
 |true=>exact .inl ⟨hm,rfl,rfl⟩
theorem Ia (hm:m<=mB fr)(ge:iO m es):(nE m (kN fr) es+hN fr+1)*(es.length+1)+8<=9000:=by
 obtain⟨e1,e2⟩:=iY ge;have pl:=(Lk ge.nd ge.lt).length_eq;rw[List.length_append,length_range] at pl;unfold nE
 cases fr with
 |false=>
  have hm:m<=6:=hm;have e7:es.length+1<=7:=by lia
  split
  .exact Nat.le_trans (Nat.add_le_add_right (Nat.mul_le_mul_left _ e7) _) ∅
  .have:(56+5)*(m+1)+8+28+4+1<=468:=by lia
   exact Nat.le_trans (Nat.add_le_add_right (Nat.mul_le_mul this e7) _) ∅
 |true=>
  have hm:m<=3:=hm;split
  .exact Nat.le_trans (Nat.add_le_add_right (Nat.mul_le_mul_left _ (show es.length+1<=4 by lia)) _) ∅
  .next c=>
   have:0 < (inn m es).length:=length_pos_iff.mpr c;have:(560+5)*(m+1)+8+280+31+1<=2580:=by lia
   exact Nat.le_trans (Nat.add_le_add_right (Nat.mul_le_mul this (show es.length+1<=3 by lia)) _) ∅
theorem Zg (h1:1<=m)(hm:m<=mB fr)(hl:ds.length<=nRw fr)(h:∀d∈ds,DrB fr m d):sV m ds:=by
 have:mB fr<=6:=by cases fr<;>decide
 have:nRw fr<=17:=by cases fr<;>decide
 exists (),h1,(),λd hd=>⟨(h d hd).ok,(h d hd).bd.mono (by have:=(uP fr).1;lia)⟩
theorem qh5 (xs:List V)(k:Nat):jA xs none (some (k:Int))=xs.take k:=by
 unfold jA;have h1:HT.sIx xs.length 0 none=0:=rfl;have h2:HT.sIx xs.length xs.length (some (k:Int))=min k xs.length:=by simp[HT.sIx];lia
 rw[h1,h2,drop_zero,Nat.sub_zero,take_eq_take_iff];lia
theorem qe4 (xs:List V)(k:Nat):jA xs (some (k:Int)) none=xs.drop k:=by
 unfold jA;have h1:HT.sIx xs.length xs.length none=xs.length:=rfl;have h2:HT.sIx xs.length 0 (some (k:Int))=min k xs.length:=by simp[HT.sIx];lia
 rw[h1,h2]
 by_cases c:k<=xs.length
 .rw[show min k xs.length=k by lia];exact take_of_length_le (by rw[length_drop];lia)
 .rw[show min k xs.length=xs.length by lia,drop_length,drop_of_length_le ()];simp
theorem Rts.take:∀{xs:List V} {ds:List RD} (n:Nat),Rts K H xs ds->Rts K H (xs.take n) (ds.take n)
 |_,_,0,_=>.nil
 |_,_,_+1,.nil=>.nil
 |_,_,n+1,.cons h f q=>.cons h f (Rts.take n q)
theorem Rts.drop:∀{xs:List V} {ds:List RD} (n:Nat),Rts K H xs ds->Rts K H (xs.drop n) (ds.drop n)
 |_,_,0,h=>h
 |_,_,_+1,.nil=>.nil
 |_,_,n+1,.cons _ _ q=>Rts.drop n q
theorem Rts.cut (h:Rts K H us ds)(i:Nat)(hi:i < ds.length){u w:Int}(ht:SqT K H t [.str k.wd,.int u,.int w,.ref z])(fz:Fq K H z p):Rts K H (us.take i++[.ref t]++us.drop (i+1)) (ds.set i (k,u,w,p)):=by
 have:ds.set i (k,u,w,p)=ds.take i++[(k,u,w,p)]++ds.drop (i+1):=by
  rw[set_eq_take_append_cons_drop,if_pos hi,List.append_assoc];rfl
 rw[this];exact((Rts.take i h).app (.cons ht fz .nil)).app (Rts.drop (i+1) h)
inductive Oh (CN:Addr) (K:Frag) (vs:List V) (H:Hp) (Q:VK) (E:XK):Prop where
 |mk (n l r e h:Addr) (m:Nat) (fr:Bool) (c:Int) (us xs:List V) (ds:List RD) (es:List Nat) (hs:List Mq.Q2):vs=[.ref n,.int (m:Int),.ref r,.ref e,.ref h,.int c]->dR CN K H n l (m:Int) ds->r≠l->e≠l->h≠l->H r=some (.lst us)->Rts K H us ds->(∀d∈ds,DrB fr m d)->ds.length<=nRw fr->0 < ds.length->1<=m->m<=mB fr->H e=some (.lst ((ups es).map V.int))->iO m es->lsP (mk m ds) m es=[]->H h=some (.lst xs)->Fqs K H xs hs->LB (hN fr) hs->hs.length=es.length->(∀H',SX [l] H H'->Q (.bl true) H')->Oh CN K vs H Q E
abbrev Zu:Stmt:=top 89
theorem Ka:aQ ["_law_net_here","_law_many","_law_rows_here","_law_ends_here","_law_heights","_law_cell","_law_at","_law_size_here"] ["_law_net_here","_law_many","_law_rows_here","_law_ends_here","_law_heights","_law_cell"] (aH Zu):=sK9
def lqd (ps:List Mq.Q2):PyData:=.list (ps.map qd)
theorem Dw:∀X:List (List Mq.Q2),PyData.canLayAll0 (X.map lqd)=true
 | []=>rfl
 |r :: X=>by
  show (PyData.canLayAll0 (r.map qd) && PyData.canLayAll0 (X.map lqd))=true;rw[Dw X,pQ];rfl
theorem xC:∀X:List (List Mq.Q2),PyData.depthAll (X.map lqd)<=2
 | []=>by simp[PyData.depthAll]
 |r :: X=>by
  have h:=xC X;have h1:=rE r;simp only[map_cons,PyData.depthAll];have:(lqd r).depth<=2:=by simp only[lqd,PyData.depth];lia
  lia
theorem Ah:∀{us:List V} {X:List (List Mq.Q2)},Lns K H us X->pP K H us (X.map lqd)
 | [],[],_=>.nil
 | [],_ :: _,h=>by have:=h.l;simp at this
 |_ :: _,[],h=>by have:=h.l;simp at this
 |x :: us,ps :: X,h=>by
  obtain⟨a,xs,rfl,h1,h2⟩:=h.r 0 x ps rfl rfl;exact .cons (.lst h1 h2.dat) (Ah ⟨by have:=h.l;simpa using this,λi y qs e1 e2=>h.r (i+1) y qs (by simpa using e1) (by simpa using e2)⟩)
theorem qe9 (h1:SqL K H a us)(h2:SqL K H b vs)(f1:Lns K H us X)(f2:Lns K H vs X)(z:Q (.bl (!neg)) H):zI K neg (.ref a) (.ref b) H Q:=
 Ib (d:=.list (X.map lqd)) (.lst h1 (Ah f1)) (.lst h2 (Ah f2)) (Dw X) (by have:=xC X;simp only[PyData.depth];lia) z
inductive uE (CT:Addr) (K:Frag) (vs:List V) (H:Hp) (Q:VK) (E:XK):Prop where
 |mk (t:Addr) (es:List Int) (X:List (List Mq.Q2)) (cs:List Mq.Q2):vs=[.ref t]->iL CT K H t es X cs->X.length<=100->(∀a us H',aP H H'->H a=none->H' a=some (.lst us)->LnH K H' us X->(∀x∈us,x≠.ref a/\∃b,x=.ref b/\H b=none)->Q (.ref a) H')->uE CT K vs H Q E
inductive oJ (CT:Addr) (K:Frag) (vs:List V) (H:Hp) (Q:VK) (E:XK):Prop where
 |mk (t:Addr) (es:List Int) (X:List (List Mq.Q2)) (cs:List Mq.Q2):vs=[.ref t]->iL CT K H t es X cs->(∀a ys H',aP H H'->H a=none->H' a=some (.lst ys)->Fqs K H' ys cs->Q (.ref a) H')->oJ CT K vs H Q E
theorem Xg (F:aJ P w K mg base CX0 k g gd ["self"] (uE CT K)):aJ P w K mg base CX0 k g gd ["self"] (Ir CT K):=
 F.weak λvs H Q E h=>by
  obtain⟨t,es,X,cs,rfl,a,b,q⟩:=h;exists t,es,X,cs,rfl,a,b,λa us H' s _ e f _=>q a us H' s e f
theorem Mp (F:aJ P w K mg base CX0 k g gd ["self"] (oJ CT K)):aJ P w K mg base CX0 k g gd ["self"] (vQ CT K):=
 F.weak λvs H Q E h=>by
  obtain⟨t,es,X,cs,rfl,a,q⟩:=h;exists t,es,X,cs,rfl,a,λa us H' s _ e f=>q a us H' s e f
theorem tN:(["_law_k","_law_script","_law_far"]:List Str).Nodup:=by decide +kernel
theorem Xv:(["_law_row"]:List Str).Nodup:=by decide +kernel
theorem Xp:(["_law_k","_law_at"]:List Str).Nodup:=by decide +kernel
theorem qe0:(["_law_end"]:List Str).Nodup:=by decide +kernel
inductive Cy (K:Frag) (vs:List V) (H:Hp) (Q:VK) (E:XK):Prop where
 |mk (a:Addr) (ns:List Int):vs=[.ref a]->SqL K H a (ns.map V.int)->ns.length<=63->(∀H',Q (.bl true) H')->Cy K vs H Q E
theorem qs5 (fr:Bool):atI [V.int 6,.int 3] (if fr then 1 else 0)=some (.int (mB fr:Int)):=by cases fr<;>rfl
theorem sW.same (s:aP H H')(h:sW av CT K H t es X cs):sW av CT K H' t es X cs:=by
 obtain⟨dx,p,l,a,us,ys,h1,h2,h3,h4,h5,h6,n⟩:=h.e;exists dx,p,l,a,us,ys,s _ _ h1,s _ _ h2,s _ _ h3,h4.same s,s _ _ h5,h6.same s,n
theorem Lc (n:Nat):(replicate n true).all id=true:=by simp
abbrev Aa:Stmt:=top 90
theorem iV:aQ ["_law_script","_law_far","_law_many","_law_rows_here","_law_net_here","_law_ends_here","_law_heights","_law_due","_law_handed","_law_first","_law_second","_law_table","_law_kept","_law_at","_law_unit","_law_cell"] ["_law_script"] (aH Aa):=sK9
theorem Xn (F:aJ P w K mg base CX0 2 g gd ["thing","bound"] (Kl K)):aJ P w K mg base CX0 2 g gd ["thing","bound"] Zp:=
 F.weak λvs H Q E h=>by
  obtain⟨i,b,rfl,a,c,q⟩:=h;exists .int i,b,rfl,.inl ⟨i,rfl⟩,by rw[show tT b (.int i)=true from decide_eq_true ⟨a,c⟩];exact q
theorem Sn (F:aJ P w K mg base CX0 1 g gd ["self","ends","matrix","comes"] (pO CT K)):aJ P w K mg base CX0 1 g gd ["self","ends","matrix","comes"] (Af CT K):=
 F.weak λvs H Q E h=>by
  obtain⟨t,dx,e,g,c,es,us,ys,X,cs,rfl,h1,h2,h3,h4,h5,h6,h7,q⟩:=h;exists t,dx,e,g,c,es,us,ys,X,cs,rfl,h1,h2,h3,h4,h5,h6,h7,[],(λ_ z=>by simp at z),λH' s TA=>q H' s TA.at
theorem qm4 (F:aJ P w K mg base (CX1 P w) 3 g gd ["some","many"] (Kx K CP)):aJ P w K mg base CX0 3 g gd ["some","many"] (qf2 K):=
 F.calm.weak λvs H Q E h=>by
  obtain⟨l,i,j,m,rfl,hl,i0,i1,j0,j1,q⟩:=h;have e:[V.int i,V.int j].all (tT m)=true:=by
   show (decide (0<=i/\i < m) && (decide (0<=j/\j < m) && true))=true;rw[decide_eq_true ⟨i0,i1⟩,decide_eq_true ⟨j0,j1⟩];rfl
  exists l,_,m,rfl,hl,⋯,λx hx=>by rcases mem_cons.mp hx with z | z;exact .inl ⟨i,z⟩;exact .inl ⟨j,mem_singleton.mp z⟩,λ_=>q,λz=>by rw[e] at z;cases z
instance:Inhabited World:=⟨⟨λ_ _=>0,{strHash:=λ_=>0,shareClass:=id,mergeTok:=id,idOf:=λ_=>0,idOfShared:=λ_ _=>0,followText:=λ_=>true,idOfImm:=λ_=>0}⟩⟩
set_option genInjectivity false in
structure CZ where
 P:Program
 w:World
 K:Frag
 mg:Str->Option Value
 (c_Row c_Piece c_Push c_Hold c_Net c_Table c_OhmError c_NoPoint c_Floats c_Held f1 f2 f3 f4 f5 f6 f7 f8 f9 f10 f11 f12 f13 f14 f15 f16 f17 f18 f19 f20 f21 f22 f23 f24 f25 f26 f27 f28 f29 f30 f31 f32 f33 f34 f35 f36 f37 f38 f39 f40 f41 f42 f43 f44 f45 f46 f47 f48 f49 f50 f51 f52 f53 f54 f55 f56 f57 f58 f59 f60 f61 f62 f63 f64 f65 f66 f67 f68 f69 f70 f71 f72 f73 f74 f75 f76 f77 f78 f79 f80:Addr)
 (d1 d2 d3 d4 d5 d7 d8 d9 d10 d11 d12 d13 d14 d15 d16 d17 d18 d19 d20 d21 d22 d23 d24 d25 d26 d27 d28 d29 d30 d31 d32 d33 d34 d35 d36 d37 d38 d39 d40 d41 d42 d43 d44 d45 d46 d47 d48 d49 d50 d51 d52 d53 d54 d55 d56 d57 d58 d59 d60 d61 d62 d63 d64 d65 d66 d67 d68 d69 d70 d71 d72 d73 d74 d75 d76 d77 d78 d79:FuncData)
 (od6 an6:Option Addr)
 sl6:Array (Option Value)
 (oc6 kV6 dc6 pm6 cd6 ct6:Value)
 T6:Addr
 oT6:Value
 dT6:Option Addr
 nT6:Nat
 sT6:Array (Option Value)
 tk6:Tok
 (od80 an80:Option Addr)
 sl80:Array (Option Value)
 (oc80 kV80 dc80 pm80 cd80 ct80:Value)
 (aO aN:Addr)
 dN:Option Addr
 nN:Nat
 sN:Array (Option Value)
 (t0 t1 tM tR:Tok)
 (nE qE:Str)
 NE:Addr
 bsE:List Value
 snE:List Str
 suE:List Value
 abE:Bool
 coE:Option Bool
 ddE:Option Addr
 (k0E k1E k2E k3E k5E:Option Value)
 hdE:Bool
noncomputable instance:Inhabited CZ:=⟨by constructor<;>exact default⟩
class GZ (c:outParam CZ):Prop where
 mc_OhmError:mI9 c.mg "OhmError" c.c_OhmError
 mc_NoPoint:mI9 c.mg "NoPoint" c.c_NoPoint
 mc_Floats:mI9 c.mg "Floats" c.c_Floats
 mc_Held:mI9 c.mg "Held" c.c_Held
 i1:W.isFn c.K (.ref c.f1)=true
 F1:aX c.K "__init__" "Floats.__init__" Gc .none c.f1 c.d1
 F2:aX c.K "__init__" "Held.__init__" Hm .none c.f2 c.d2
 m3:mI9 c.mg "is_whole" c.f3
 F3:aX c.K "is_whole" "is_whole" Fu .none c.f3 c.d3
 m4:mI9 c.mg "greatest_common" c.f4
 F4:aX c.K "greatest_common" "greatest_common" sGc .none c.f4 c.d4
 m5:mI9 c.mg "under" c.f5
 F5:aX c.K "under" "under" Jc .none c.f5 c.d5
 m6:mI9 c.mg "fraction" c.f6
 l6:c.K.lookup c.f6=some ⟨c.oc6,c.od6,.func (W.fnOf "fraction" "fraction" (fM lQ) (eK lQ) (aH lQ) (.ref c.T6) c.kV6 c.dc6 c.pm6 c.an6 c.cd6 c.ct6),c.sl6⟩
 c6:W.codeIn c.K c.cd6 "fraction"=true
 k6:kI9 c.K c.f6
 lt6:c.K.lookup c.T6=some ⟨c.oT6,c.dT6,.seq #[.int 1 c.tk6] c.nT6,c.sT6⟩
 m7:mI9 c.mg "minus" c.f7
 F7:aX c.K "minus" "minus" Io .none c.f7 c.d7
 m8:mI9 c.mg "plus" c.f8
 F8:aX c.K "plus" "plus" Pn .none c.f8 c.d8
 F9:aX c.K "__init__" "Row.__init__" Jg .none c.f9 c.d9
 m10:mI9 c.mg "times" c.f10
 F10:aX c.K "times" "times" Gf .none c.f10 c.d10
 m11:mI9 c.mg "over" c.f11
 F11:aX c.K "over" "over" Sj .none c.f11 c.d11
 m12:mI9 c.mg "total" c.f12
 F12:aX c.K "total" "total" Ix .none c.f12 c.d12
 m13:mI9 c.mg "is_fraction" c.f13
 F13:aX c.K "is_fraction" "is_fraction" qf9 .none c.f13 c.d13
 a14_0:W.findIn c.K (.ref c.c_Piece) "word"=some (some (.ref c.f14))
 i14:W.isFn c.K (.ref c.f14)=true
 F14:aX c.K "word" "Piece.word" wQ .none c.f14 c.d14
 a15_0:W.findIn c.K (.ref c.c_Push) "word"=some (some (.ref c.f15))
 i15:W.isFn c.K (.ref c.f15)=true
 F15:aX c.K "word" "Push.word" wW .none c.f15 c.d15
 a16_0:W.findIn c.K (.ref c.c_Hold) "word"=some (some (.ref c.f16))
 i16:W.isFn c.K (.ref c.f16)=true
 F16:aX c.K "word" "Hold.word" uQ .none c.f16 c.d16
 a17_0:W.findIn c.K (.ref c.c_Piece) "joins"=some (some (.ref c.f17))
 i17:W.isFn c.K (.ref c.f17)=true
 F17:aX c.K "joins" "Piece.joins" rC .none c.f17 c.d17
 a18_0:W.findIn c.K (.ref c.c_Push) "joins"=some (some (.ref c.f18))
 i18:W.isFn c.K (.ref c.f18)=true
 F18:aX c.K "joins" "Push.joins" rW .none c.f18 c.d18
 a19_0:W.findIn c.K (.ref c.c_Hold) "joins"=some (some (.ref c.f19))
 i19:W.isFn c.K (.ref c.f19)=true
 F19:aX c.K "joins" "Hold.joins" rH .none c.f19 c.d19
 a20_0:W.findIn c.K (.ref c.c_Piece) "told"=some (some (.ref c.f20))
 a20_1:W.findIn c.K (.ref c.c_Push) "told"=some (some (.ref c.f20))
 a20_2:W.findIn c.K (.ref c.c_Hold) "told"=some (some (.ref c.f20))
 i20:W.isFn c.K (.ref c.f20)=true
 F20:aX c.K "told" "Row.told" Iy .none c.f20 c.d20
 m21:mI9 c.mg "row_of" c.f21
 F21:aX c.K "row_of" "row_of" Iv .none c.f21 c.d21
 m22:mI9 c.mg "is_piece_size" c.f22
 F22:aX c.K "is_piece_size" "is_piece_size" sPS .none c.f22 c.d22
 m23:mI9 c.mg "is_number_below" c.f23
 F23:aX c.K "is_number_below" "is_number_below" sNB .none c.f23 c.d23
 m24:mI9 c.mg "refuse_size" c.f24
 F24:aX c.K "refuse_size" "refuse_size" sRS .none c.f24 c.d24
 m25:mI9 c.mg "refuse_number" c.f25
 F25:aX c.K "refuse_number" "refuse_number" sRN .none c.f25 c.d25
 m26:mI9 c.mg "refuse_points" c.f26
 F26:aX c.K "refuse_points" "refuse_points" sRP .none c.f26 c.d26
 F27:aX c.K "__init__" "Net.__init__" Gv .none c.f27 c.d27
 a28_0:W.findIn c.K (.ref c.c_Net) "many"=some (some (.ref c.f28))
 i28:W.isFn c.K (.ref c.f28)=true
 F28:aX c.K "many" "Net.many" Pa .none c.f28 c.d28
 a29_0:W.findIn c.K (.ref c.c_Net) "told"=some (some (.ref c.f29))
 i29:W.isFn c.K (.ref c.f29)=true
 F29:aX c.K "told" "Net.told" Iq .none c.f29 c.d29
 a30_0:W.findIn c.K (.ref c.c_Net) "add"=some (some (.ref c.f30))
 i30:W.isFn c.K (.ref c.f30)=true
 F30:aX c.K "add" "Net.add" qh8 .none c.f30 c.d30
 a31_0:W.findIn c.K (.ref c.c_Net) "change"=some (some (.ref c.f31))
 i31:W.isFn c.K (.ref c.f31)=true
 F31:aX c.K "change" "Net.change" Cj .none c.f31 c.d31
 a32_0:W.findIn c.K (.ref c.c_Net) "rows"=some (some (.ref c.f32))
 i32:W.isFn c.K (.ref c.f32)=true
 F32:aX c.K "rows" "Net.rows" So .none c.f32 c.d32
 m33:mI9 c.mg "joined" c.f33
 F33:aX c.K "joined" "joined" By .none c.f33 c.d33
 m34:mI9 c.mg "marks_of" c.f34
 F34:aX c.K "marks_of" "marks_of" Hj .none c.f34 c.d34
 m35:mI9 c.mg "groups" c.f35
 F35:aX c.K "groups" "groups" Bp .none c.f35 c.d35
 m36:mI9 c.mg "refuse_holds" c.f36
 F36:aX c.K "refuse_holds" "refuse_holds" qh0 .none c.f36 c.d36
 m37:mI9 c.mg "in_wholes" c.f37
 F37:aX c.K "in_wholes" "in_wholes" sIW .none c.f37 c.d37
 m38:mI9 c.mg "over_pivot" c.f38
 F38:aX c.K "over_pivot" "over_pivot" Ho .none c.f38 c.d38
 m39:mI9 c.mg "pivot_place" c.f39
 F39:aX c.K "pivot_place" "pivot_place" qa5 .none c.f39 c.d39
 m40:mI9 c.mg "cleared" c.f40
 F40:aX c.K "cleared" "cleared" qb4 .none c.f40 c.d40
 m41:mI9 c.mg "cleared_rows" c.f41
 F41:aX c.K "cleared_rows" "cleared_rows" uS .none c.f41 c.d41
 m42:mI9 c.mg "eliminated" c.f42
 F42:aX c.K "eliminated" "eliminated" Sh .none c.f42 c.d42
 m43:mI9 c.mg "solved" c.f43
 F43:aX c.K "solved" "solved" Ca .none c.f43 c.d43
 m44:mI9 c.mg "reduced" c.f44
 F44:aX c.K "reduced" "reduced" qd8 .none c.f44 c.d44
 m45:mI9 c.mg "raise_at" c.f45
 F45:aX c.K "raise_at" "raise_at" Hq .none c.f45 c.d45
 m46:mI9 c.mg "enter_stream" c.f46
 F46:aX c.K "enter_stream" "enter_stream" Il .none c.f46 c.d46
 m47:mI9 c.mg "enter_piece" c.f47
 F47:aX c.K "enter_piece" "enter_piece" Ax .none c.f47 c.d47
 m48:mI9 c.mg "enter_push" c.f48
 F48:aX c.K "enter_push" "enter_push" Bh .none c.f48 c.d48
 F49:aX c.K "__init__" "Table.__init__" Ga .none c.f49 c.d49
 a50_0:W.findIn c.K (.ref c.c_Table) "matrix"=some (some (.ref c.f50))
 i50:W.isFn c.K (.ref c.f50)=true
 F50:aX c.K "matrix" "Table.matrix" Uq .none c.f50 c.d50
 a51_0:W.findIn c.K (.ref c.c_Table) "comes"=some (some (.ref c.f51))
 i51:W.isFn c.K (.ref c.f51)=true
 F51:aX c.K "comes" "Table.comes" Cd .none c.f51 c.d51
 a52_0:W.findIn c.K (.ref c.c_Table) "ends"=some (some (.ref c.f52))
 i52:W.isFn c.K (.ref c.f52)=true
 F52:aX c.K "ends" "Table.ends" Gj .none c.f52 c.d52
 m53:mI9 c.mg "along" c.f53
 F53:aX c.K "along" "along" Hr .none c.f53 c.d53
 a54_0:W.findIn c.K (.ref c.c_Table) "brought"=some (some (.ref c.f54))
 i54:W.isFn c.K (.ref c.f54)=true
 F54:aX c.K "brought" "Table.brought" vK .none c.f54 c.d54
 m55:mI9 c.mg "picked" c.f55
 F55:aX c.K "picked" "picked" Ud .none c.f55 c.d55
 m56:mI9 c.mg "narrowed" c.f56
 F56:aX c.K "narrowed" "narrowed" qi7 .none c.f56 c.d56
 m57:mI9 c.mg "loose_points" c.f57
 F57:aX c.K "loose_points" "loose_points" Fs .none c.f57 c.d57
 m58:mI9 c.mg "refuse_ends" c.f58
 F58:aX c.K "refuse_ends" "refuse_ends" Hg .none c.f58 c.d58
 m59:mI9 c.mg "table_of_all" c.f59
 F59:aX c.K "table_of_all" "table_of_all" Qq .none c.f59 c.d59
 m60:mI9 c.mg "table_of" c.f60
 F60:aX c.K "table_of" "table_of" qi4 .none c.f60 c.d60
 m61:mI9 c.mg "inner_heights" c.f61
 F61:aX c.K "inner_heights" "inner_heights" sIH .none c.f61 c.d61
 m62:mI9 c.mg "_law_nth" c.f62
 F62:aX c.K "_law_nth" "_law_nth" qg2 .none c.f62 c.d62
 m63:mI9 c.mg "_law_divisor" c.f63
 F63:aX c.K "_law_divisor" "_law_divisor" Zs .none c.f63 c.d63
 m64:mI9 c.mg "_law_lowest" c.f64
 F64:aX c.K "_law_lowest" "_law_lowest" zY .none c.f64 c.d64
 m65:mI9 c.mg "_law_is" c.f65
 F65:aX c.K "_law_is" "_law_is" sIs .none c.f65 c.d65
 m66:mI9 c.mg "_law_list" c.f66
 F66:aX c.K "_law_list" "_law_list" Ft .none c.f66 c.d66
 m67:mI9 c.mg "_law_meets" c.f67
 F67:aX c.K "_law_meets" "_law_meets" Gs .none c.f67 c.d67
 m68:mI9 c.mg "_law_an_int" c.f68
 F68:aX c.K "_law_an_int" "_law_an_int" Gg .none c.f68 c.d68
 m69:mI9 c.mg "_law_net" c.f69
 F69:aX c.K "_law_net" "_law_net" Go .none c.f69 c.d69
 m70:mI9 c.mg "_law_size" c.f70
 F70:aX c.K "_law_size" "_law_size" Qr .none c.f70 c.d70
 m71:mI9 c.mg "_law_amount" c.f71
 F71:aX c.K "_law_amount" "_law_amount" Bf .none c.f71 c.d71
 m72:mI9 c.mg "_law_rows" c.f72
 F72:aX c.K "_law_rows" "_law_rows" Im .none c.f72 c.d72
 m73:mI9 c.mg "_law_ends" c.f73
 F73:aX c.K "_law_ends" "_law_ends" Uo .none c.f73 c.d73
 m74:mI9 c.mg "_law_apart" c.f74
 F74:aX c.K "_law_apart" "_law_apart" Hs .none c.f74 c.d74
 m75:mI9 c.mg "_law_more" c.f75
 F75:aX c.K "_law_more" "_law_more" Qa .none c.f75 c.d75
 m76:mI9 c.mg "_law_sent" c.f76
 F76:aX c.K "_law_sent" "_law_sent" Qc .none c.f76 c.d76
 m77:mI9 c.mg "_law_walked" c.f77
 F77:aX c.K "_law_walked" "_law_walked" sWk .none c.f77 c.d77
 m78:mI9 c.mg "_law_floats" c.f78
 F78:aX c.K "_law_floats" "_law_floats" Zz .none c.f78 c.d78
 m79:mI9 c.mg "_law_changed" c.f79
 F79:aX c.K "_law_changed" "_law_changed" Zu .none c.f79 c.d79
 m80:mI9 c.mg "law" c.f80
 l80:c.K.lookup c.f80=some ⟨c.oc80,c.od80,.func (W.fnOf "law" "law" (fM Aa) (eK Aa) (aH Aa) .none c.kV80 c.dc80 c.pm80 c.an80 c.cd80 c.ct80),c.sl80⟩
 c80:W.codeIn c.K c.cd80 "law"=true
 k80:kI9 c.K c.f80
 mv_ONE:mI9 c.mg "ONE" c.aO
 mv_NOUGHT:mI9 c.mg "NOUGHT" c.aN
 mv_MOST_POINTS:c.mg "MOST_POINTS"=some (.int 20 c.tM)
 mv_MOST_ROWS:c.mg "MOST_ROWS"=some (.int 40 c.tR)
 lN:c.K.lookup c.aN=some ⟨.type "tuple",c.dN,.seq #[.int 0 c.t0,.int 1 c.t1] c.nN,c.sN⟩
 lE:c.K.lookup c.c_OhmError=some (excClassObj c.nE c.qE c.c_OhmError c.NE c.bsE tQ c.hdE c.snE c.suE c.abE c.coE c.ddE c.k0E c.k1E c.k2E c.k3E c.k5E "ValueError.__new__")
 x1_NoPoint:W.excIn c.K c.c_NoPoint tQ "ValueError.__new__"=true
 n_len:c.mg "len"=none
 n_range:c.mg "range"=none
 n_str:c.mg "str"=none
 n_tuple:c.mg "tuple"=none
 n_list:c.mg "list"=none
 n_all:c.mg "all"=none
 n_any:c.mg "any"=none
 n_sorted:c.mg "sorted"=none
 n_set:c.mg "set"=none
 n_zip:c.mg "zip"=none
 n_enumerate:c.mg "enumerate"=none
 bl:Bl c.mg
 T:RT c.K c.mg c.c_Row (kd3 c.c_Piece c.c_Push c.c_Hold)
 fN:∀H:Hp,Fq c.K H c.aN (0,1)
 fO:∀H:Hp,Fq c.K H c.aO (1,1)
 NTx:NT c.K c.mg c.c_Net
 TBx:TB c.K c.mg c.c_Table
 cF:FlC c.K c.mg c.c_Floats
 qIF:oX c.K c.c_Floats c.c_OhmError c.f1
 qIH:oX c.K c.c_Held c.c_OhmError c.f2
 cI:Xt c.K c.c_OhmError
 qFF:Ui c.K c.c_Floats ("points")
 qFH:Ui c.K c.c_Held ("number")
 MK:∀k:Kd,Mk c.K (kd3 c.c_Piece c.c_Push c.c_Hold k) c.f9
 MN:Mk c.K c.c_Net c.f27
 MT:Mk c.K c.c_Table c.f49
def OZ (c:CZ)(b:Heap):Prop:=aJ c.P c.w c.K c.mg b CX0 12 c.f80 (W.fnOf ("law") ("law") (fM Aa) (eK Aa) (aH Aa) .none c.kV80 c.dc80 c.pm80 c.an80 c.cd80 c.ct80) ["_law_script"] (Cy c.K)
noncomputable def TZ:CZ×Heap:=Classical.epsilon λx=>GZ x.1/\¬OZ x.1 x.2
@[irreducible] noncomputable def Z:CZ:=TZ.1
@[irreducible] noncomputable def ZB:Heap:=TZ.2
abbrev FZ:=aJ Z.P Z.w Z.K Z.mg ZB
abbrev DZ:=D9 Z.P Z.w Z.K Z.mg ZB
section
open Shp
open GZ hiding mk
variable [GZ Z]
theorem b1:aL Z.K Z.d1 ["self","points"] []:=F1.b2 "self" "points" (by intros;rfl)
theorem b2:aL Z.K Z.d2 ["self","number"] []:=F2.b2 "self" "number" (by intros;rfl)
theorem F6:aX Z.K ("fraction") ("fraction") lQ (.ref Z.T6) Z.f6 (W.fnOf ("fraction") ("fraction") (fM lQ) (eK lQ) (aH lQ) (.ref Z.T6) Z.kV6 Z.dc6 Z.pm6 Z.an6 Z.cd6 Z.ct6):=zS (st:=lQ) l6 c6 k6
theorem b6:aL Z.K (W.fnOf ("fraction") ("fraction") (fM lQ) (eK lQ) (aH lQ) (.ref Z.T6) Z.kV6 Z.dc6 Z.pm6 Z.an6 Z.cd6 Z.ct6) ["top","bottom"] []:=λs us XX hl=>match us,hl with | [_,_],_=>W.binds_K (fd:=W.fnOf "fraction" "fraction" (fM lQ) (eK lQ) (aH lQ) (.ref Z.T6) Z.kV6 Z.dc6 Z.pm6 Z.an6 Z.cd6 Z.ct6) XX rfl lt6 rfl rfl rfl
theorem bd6:aL Z.K (W.fnOf ("fraction") ("fraction") (fM lQ) (eK lQ) (aH lQ) (.ref Z.T6) Z.kV6 Z.dc6 Z.pm6 Z.an6 Z.cd6 Z.ct6) ["top","bottom"] [.int 1 Z.tk6]:=λs us XX hl=>match us,(show us.length=1 by simp at hl;lia) with | [_],_=>W.binds_K (fd:=W.fnOf "fraction" "fraction" (fM lQ) (eK lQ) (aH lQ) (.ref Z.T6) Z.kV6 Z.dc6 Z.pm6 Z.an6 Z.cd6 Z.ct6) XX rfl lt6 rfl rfl rfl
theorem b9:aL Z.K Z.d9 ["self","start","goal","size"] []:=F9.b4 "self" "start" "goal" "size" (by intros;rfl)
theorem b14:aL Z.K Z.d14 ["self"] []:=F14.b1 "self" (by intros;rfl)
theorem b15:aL Z.K Z.d15 ["self"] []:=F15.b1 "self" (by intros;rfl)
theorem b16:aL Z.K Z.d16 ["self"] []:=F16.b1 "self" (by intros;rfl)
theorem b17:aL Z.K Z.d17 ["self"] []:=F17.b1 "self" (by intros;rfl)
theorem b18:aL Z.K Z.d18 ["self"] []:=F18.b1 "self" (by intros;rfl)
theorem b19:aL Z.K Z.d19 ["self"] []:=F19.b1 "self" (by intros;rfl)
theorem b20:aL Z.K Z.d20 ["self"] []:=F20.b1 "self" (by intros;rfl)
theorem b26:aL Z.K Z.d26 ["some","many"] []:=F26.b2 "some" "many" (by intros;rfl)
theorem b27:aL Z.K Z.d27 ["self","many"] []:=F27.b2 "self" "many" (by intros;rfl)
theorem b28:aL Z.K Z.d28 ["self"] []:=F28.b1 "self" (by intros;rfl)
theorem b29:aL Z.K Z.d29 ["self"] []:=F29.b1 "self" (by intros;rfl)
theorem b30:aL Z.K Z.d30 ["self","row"] []:=F30.b2 "self" "row" (by intros;rfl)
theorem b31:aL Z.K Z.d31 ["self","k","size"] []:=F31.b3 "self" "k" "size" (by intros;rfl)
theorem b32:aL Z.K Z.d32 ["self"] []:=F32.b1 "self" (by intros;rfl)
theorem b36:aL Z.K Z.d36 ["net"] []:=F36.b1 "net" (by intros;rfl)
theorem b49:aL Z.K Z.d49 ["self","ends","matrix","comes"] []:=F49.b4 "self" "ends" "matrix" "comes" (by intros;rfl)
theorem b50:aL Z.K Z.d50 ["self"] []:=F50.b1 "self" (by intros;rfl)
theorem b51:aL Z.K Z.d51 ["self"] []:=F51.b1 "self" (by intros;rfl)
theorem b52:aL Z.K Z.d52 ["self"] []:=F52.b1 "self" (by intros;rfl)
theorem b54:aL Z.K Z.d54 ["self","heights"] []:=F54.b2 "self" "heights" (by intros;rfl)
theorem b58:aL Z.K Z.d58 ["net","ends"] []:=F58.b2 "net" "ends" (by intros;rfl)
theorem b60:aL Z.K Z.d60 ["net","ends"] []:=F60.b2 "net" "ends" (by intros;rfl)
theorem b61:aL Z.K Z.d61 ["net","ends","heights"] []:=F61.b3 "net" "ends" "heights" (by intros;rfl)
theorem F80:aX Z.K ("law") ("law") Aa .none Z.f80 (W.fnOf ("law") ("law") (fM Aa) (eK Aa) (aH Aa) .none Z.kV80 Z.dc80 Z.pm80 Z.an80 Z.cd80 Z.ct80):=zS (st:=Aa) l80 c80 k80
theorem R1:FZ CX0 1 Z.f1 Z.d1 ["self","points"] (Bg Z.K Z.c_Floats):=by
 refine F1.ok9 Xw λ_ _ _ s H _ Q E hr h=>?_;obtain⟨x,l,xs,rfl,hx,hS,h1000,q⟩:=h;exists _,(aD (cD (vE rfl mc_OhmError cI (aA (pv 0) (aA (cS xI rfl n_tuple PyProof.Rows.boot_tuple (aA (pv 1) aC)) aC)))) (aG (Kt (pv 0) (cS cO rfl n_list PyProof.Rows.boot_list (aA (pv 1) aC)) rfl))),?_;exists _,rfl,_,rfl,l,xs,rfl,.inl ⟨hS,λt ht=>?_⟩;have s1:=aE ht (.tup xs);have nt:t≠x:=λz=>by rw[z,hx] at ht;cases ht
 generalize upd H t (.tup xs)=H1 at s1 ⊢;exists x,Z.c_Floats,Z.c_OhmError,Z.f1,none,_,rfl,s1 _ _ hx,qIF,?_;exists _,rfl,l,xs,rfl,.inl (s1.seq hS),λl2 hl2=>?_;have s2:=aE hl2 (.lst xs);have e2:upd H1 l2 (.lst xs) l2=some (.lst xs):=aB;have x1:=s1 _ _ hx;have n2:l2≠x:=λz=>by rw[z,x1] at hl2;cases hl2
 generalize upd H1 l2 (.lst xs)=H2 at s2 e2 ⊢;have x2:=s2 _ _ x1;exists _,rfl,x,Z.c_Floats,Z.c_OhmError,Z.f1,rfl,x2,qIF,qFF,λdx hdx=>?_;have nx:dx≠x:=λz=>by rw[z,x2] at hdx;cases hdx
 have nl:l2≠dx:=λz=>by rw[z] at e2;rw[e2] at hdx;cases hdx
 have s02:=s1.trans s2;refine q dx l2 _ (s02.free hdx) (s1.free hl2) nx n2 (λb' o e nb=>?_) aB ?_ ?_
 .rw[aU nb,aU (λz=>by rw[z,s02.free hdx] at e;cases e)];exact s02 _ _ e
 .rw[aU nx,aB]
 .rw[aU n2,aU nl];exact e2
theorem R2:FZ CX0 1 Z.f2 Z.d2 ["self","number"] (Bq Z.c_Held):=by
 refine F2.ok9 Yh λcdv A outer s H vs Q E hr h=>?_;obtain⟨x,i,rfl,hx,q⟩:=h;exists _,(aD (cD (vE rfl mc_OhmError cI (aA (pv 0) (aA (pv 1) aC)))) (aG (Kt (pv 0) (pv 1) rfl))),?_;exists _,rfl,_,rfl,x,Z.c_Held,Z.c_OhmError,Z.f2,none,_,rfl,hx,qIH,?_;exists _,rfl,_,rfl,x,Z.c_Held,Z.c_OhmError,Z.f2,rfl,hx,qIH,qFH,λdx hdx=>?_;have nx:dx≠x:=λz=>by rw[z,hx] at hdx;cases hdx
 refine q dx _ hdx nx (λb' o e nb=>?_) aB ?_
 .rw[aU nb,aU (λz=>by rw[z,hdx] at e;cases e)];exact e
 .rw[aU nx,aB]
theorem Y3:DZ 1 Z.f3 Z.d3 ["thing"] (nX Z.K) "is_whole":=by
 exists ?_,F3.b1 _ (by intros;rfl),F3.kp,m3
 refine F3.ok9 Xz λ_ _ _ s H _ Q E hr h=>?_;obtain⟨x,rfl,h⟩:=h;exists _,aG (aY (jW (fH (i:=0) rfl (Or.inl rfl) bl.isi bl.int rfl rfl PyProof.Rows.boot_int) (oV (qg4 (fH (i:=0) rfl (Or.inl rfl) bl.isi bl.bool rfl rfl PyProof.Rows.boot_bool))))),?_;rcases h with ⟨i,rfl,q⟩ | ⟨t,ty,nw,q⟩
 .exists _,_,_,rfl,.of (.int i),rfl,_,rfl,dA ⟨_,_,false,rfl,.of (.int i),(by with_unfolding_all rfl),_,rfl,q⟩
 .rcases nw with rfl | rfl | rfl | rfl | rfl
  .exists _,_,true,rfl,.of ty,(by with_unfolding_all rfl),_,rfl,dA ⟨_,_,_,rfl,.of ty,rfl,_,rfl,q⟩
  all_goals exact⟨_,_,false,rfl,.of ty,(by with_unfolding_all rfl),_,rfl,dE q⟩
theorem Y4:DZ 1 Z.f4 Z.d4 ["one","other"] Dh "greatest_common":=by
 exists ?_,F4.b2 _ _ (by intros;rfl),F4.kp,m4
 refine F4.ok9 Xf λ_ _ _ s H _ Q E hr h=>?_;obtain⟨x,y,rfl,q⟩:=h;refine⟨_,aD (Dz PassesOwn.never (bG qV (pv 1) aF (bK _)) (aD (qQ1 (i:=2) Xf.nd (aT nJ (pv 0) (pv 1)))
  (aD (qQ1 (i:=0) Xf.nd (pv 1)) (aG (qQ1 (i:=1) Xf.nd (pv 2))))))
  (aG (aY (bM Es rfl bl.abs PyProof.Rows.boot_abs (aA (pv 0) aC)))),?_⟩
 refine Dm (λσ H'=>H'=H/\∃u v z,σ=[some (.int u),some (.int v),z]/\gc u v=gc x y) (λσ _=>match σ with | [_,some (.int v),_]=>v.natAbs | _=>0) ⟨rfl,x,y,none,rfl,rfl⟩ ?_ ?_
 .rintro σ H' ⟨rfl,u,v,z,rfl,e⟩;exists _,rfl,rfl,_,rfl,?_;refine rS (λc=>?_) (λc=>?_)
  .have hv:v≠0:=by intro q;subst q;simp at c
   exists _,rfl,_,rfl,_,_,rfl,rfl,hv,_,rfl,_,rfl,⟨rfl,v,Int.fmod u v,_,rfl,(Kv u v).trans e⟩,yO hv
  .have hv:v=0:=by
    simp at c;exact c
   subst hv;exists _,rfl,_,rfl,?_;rw[<- Kz,e];exact q
 .rintro σ H Q Q' m ⟨v,h1,h2,k,h3,h4⟩;exists v,h1,h2,k,h3,m _ _ h4
theorem Y5:DZ 1 Z.f5 Z.d5 ["one","other"] (Bu Z.K) "under":=by
 exists ?_,F5.b2 _ _ (by intros;rfl),F5.kp,m5
 refine F5.ok9 Wm λ_ _ _ s H _ Q E hr h=>?_;obtain⟨a,b,p,q,n,m,rfl,ha,hb,bp,bq,hn,z⟩:=h;exists _,aG (aY (eP yX (aT bX (aS aZ (pv 0) aF (λ_ _=>rfl)) (aS aZ (pv 1) aF (λ_ _=>rfl))) (aT bX (aS aZ (pv 1) aF (λ_ _=>rfl)) (aS aZ (pv 0) aF (λ_ _=>rfl))) (bK _))),?_;exact eS rfl ha (cW rfl hb (bV bp.a bq.b () () (eS rfl hb (cW rfl ha (bV bq.a bp.b () () ⟨_,_,rfl,rfl,z⟩)))))
theorem Y6:DZ 2 Z.f6 (W.fnOf ("fraction") ("fraction") (fM lQ) (eK lQ) (aH lQ) (.ref Z.T6) Z.kV6 Z.dc6 Z.pm6 Z.an6 Z.cd6 Z.ct6) ["top","bottom"] nI "fraction":=by
 exists ?_,b6,F6.kp,m6
 refine F6.ok9 Gh λ_ _ _ s H _ Q E hr h=>?_;obtain⟨t,b,n,rfl,hb,hB,hn,q⟩:=h;refine⟨_,aD (cN (PW.pt (gM (dJ (cV (d9 Y3 hr rfl (aA (pv 0) aC)))) (gM (dJ (cV (d9 Y3 hr rfl (aA (pv 1) aC)))) (gV (bG fK (pv 1) aF (bK _)))))) Nh bH)
  (aD (qQ1 (i:=2) Gh.nd (d9 Y4 hr rfl (aA (pv 0) (aA (pv 1) aC))))
  (aD (cN (bG yX (pv 1) aF (bK _)) (aG (qQ1 (i:=2) Gh.nd (Cs uR (pv 2)))) bH)
  (aG (aY (gD (aA (aT gU (pv 0) (pv 2)) (aA (aT gU (pv 1) (pv 2)) aC))))))),?_⟩
 have hd:=rA (t:=t) hb;have hdB:Mq.B n (dvr t b):=hB.le (Gw hb);have c0:decide (V.int b=V.int 0)=false:=decide_eq_false (λz=>hb (by cases z;rfl));exists _,rfl,_,rfl,.inl ⟨t,rfl,_,rfl,dE ⟨_,rfl,_,rfl,.inl ⟨b,rfl,_,rfl,dE ⟨_,rfl,rfl,_,rfl,?_⟩⟩⟩⟩;rw[c0];refine dE ⟨_,rfl,_,rfl,t,b,rfl,?_⟩;exists _,rfl,_,_,rfl,rfl,_,rfl,?_;refine rS (λc=>?_) (λc=>?_)
 .have hlt:b < 0:=of_decide_eq_true c;have e:dvr t b=-gc t b:=by unfold dvr;rw[if_pos hlt]
  rw[e] at hd hdB;have q':xD H Q (t.fdiv (-gc t b),b.fdiv (-gc t b)):=by
   have z:=q;unfold red at z;rw[e] at z;exact z
  exists _,rfl,_,rfl,?_;exists _,rfl,_,rfl,?_;refine hZ hd hdB hn ⟨_,rfl,_,rfl,hZ hd hdB hn ⟨zl9 2,λp hp=>?_⟩⟩;exact q' p _ (aE hp _) aB
 .have hlt:¬b < 0:=λz=>c (decide_eq_true z);have e:dvr t b=gc t b:=by unfold dvr;rw[if_neg hlt]
  rw[e] at hd hdB;have q':xD H Q (t.fdiv (gc t b),b.fdiv (gc t b)):=by
   have z:=q;unfold red at z;rw[e] at z;exact z
  exists _,rfl,_,rfl,?_;refine hZ hd hdB hn ⟨_,rfl,_,rfl,hZ hd hdB hn ⟨zl9 2,λp hp=>?_⟩⟩;exact q' p _ (aE hp _) aB
theorem Y7:DZ 3 Z.f7 Z.d7 ["one","other"] (lP Z.K Mq.fZ) "minus":=by
 exists ?_,F7.b2 _ _ (by intros;rfl),F7.kp,m7
 refine F7.ok9 Wq λ_ _ _ s H _ Q E hr h=>?_;obtain⟨a,b,p,q,n,m,rfl,ha,hb,lp,lq,bp,bq,hn,z⟩:=h;refine⟨_,aG (aY (d9 Y6 hr rfl (aA
  (aT oW (aT bX (aS aZ (pv 0) aF (λ_ _=>rfl)) (aS aZ (pv 1) aF (λ_ _=>rfl))) (aT bX (aS aZ (pv 1) aF (λ_ _=>rfl)) (aS aZ (pv 0) aF (λ_ _=>rfl))))
  (aA (aT bX (aS aZ (pv 0) aF (λ_ _=>rfl)) (aS aZ (pv 1) aF (λ_ _=>rfl))) aC)))),?_⟩
 refine eS rfl ha (cW rfl hb (bV bp.a bq.b () () (eS rfl hb (cW rfl ha (bV bq.a bp.b () () ⟨_,_,rfl,rfl,?_⟩)))));refine cW rfl ha (cW rfl hb (bV bp.b bq.b () () ⟨_,_,n+m,rfl,iE lp lq,bp.b.mul bq.b,(),z⟩))
theorem Y8:DZ 3 Z.f8 Z.d8 ["one","other"] (lP Z.K Mq.gS) "plus":=by
 exists ?_,F8.b2 _ _ (by intros;rfl),F8.kp,m8
 refine F8.ok9 qg8 λ_ _ _ s H _ Q E hr h=>?_;obtain⟨a,b,p,q,n,m,rfl,ha,hb,lp,lq,bp,bq,hn,z⟩:=h;refine⟨_,aG (aY (d9 Y6 hr rfl (aA
  (aT gE (aT bX (aS aZ (pv 0) aF (λ_ _=>rfl)) (aS aZ (pv 1) aF (λ_ _=>rfl))) (aT bX (aS aZ (pv 1) aF (λ_ _=>rfl)) (aS aZ (pv 0) aF (λ_ _=>rfl))))
  (aA (aT bX (aS aZ (pv 0) aF (λ_ _=>rfl)) (aS aZ (pv 1) aF (λ_ _=>rfl))) aC)))),?_⟩
 refine eS rfl ha (cW rfl hb (bV bp.a bq.b () () (eS rfl hb (cW rfl ha (bV bq.a bp.b () () ⟨_,_,rfl,rfl,?_⟩)))));refine cW rfl ha (cW rfl hb (bV bp.b bq.b () () ⟨_,_,n+m,rfl,iE lp lq,bp.b.mul bq.b,(),z⟩))
theorem R9:FZ CX0 1 Z.f9 Z.d9 ["self","start","goal","size"] (Av (kd3 Z.c_Piece Z.c_Push Z.c_Hold)):=by
 refine F9.ok9 Vz λ_ _ _ s H _ Q E hr h=>?_;obtain⟨x,dx,k,s,g,z,rfl,hx,q⟩:=h;exists _,(aD (mV (pv 0) (pv 1) rfl) (aD (mV (pv 0) (pv 2) rfl) (aG (mV (pv 0) (pv 3) rfl)))),?_;have l1:=fR ("start":Str) s [];have l2:=fR ("goal":Str) g (dZ "start" s []);simp only[length_nil] at l1;exists _,rfl,_,rfl,x,(kd3 Z.c_Piece Z.c_Push Z.c_Hold) k,dx,[],rfl,hx,T.cl k,T.nS k,(by show 0 < 1000;decide),?_;exists _,rfl,_,rfl,x,(kd3 Z.c_Piece Z.c_Push Z.c_Hold) k,dx,_,rfl,aB,T.cl k,T.nG k,(),?_;exists _,rfl,_,rfl,x,(kd3 Z.c_Piece Z.c_Push Z.c_Hold) k,dx,_,rfl,aB,T.cl k,T.nZ k,(),?_;rw[qG,qG];exact q
theorem Y10:DZ 3 Z.f10 Z.d10 ["one","other"] (lP Z.K Mq.tH) "times":=by
 exists ?_,F10.b2 _ _ (by intros;rfl),F10.kp,m10
 refine F10.ok9 Wc λ_ _ _ s H _ Q E hr h=>?_;obtain⟨a,b,p,q,n,m,rfl,ha,hb,lp,lq,bp,bq,hn,z⟩:=h;refine⟨_,aG (aY (d9 Y6 hr rfl (aA
  (aT bX (aS aZ (pv 0) aF (λ_ _=>rfl)) (aS aZ (pv 1) aF (λ_ _=>rfl)))
  (aA (aT bX (aS aZ (pv 0) aF (λ_ _=>rfl)) (aS aZ (pv 1) aF (λ_ _=>rfl))) aC)))),?_⟩
 refine eS rfl ha (eS rfl hb (bV bp.a bq.a () () ?_));refine cW rfl ha (cW rfl hb (bV bp.b bq.b () () ⟨_,_,n+m,rfl,iE lp lq,bp.b.mul bq.b,(),z⟩))
theorem Y11:DZ 3 Z.f11 Z.d11 ["one","other"] (Gm Z.K) "over":=by
 exists ?_,F11.b2 _ _ (by intros;rfl),F11.kp,m11
 refine F11.ok9 qh3 λ_ _ _ s H _ Q E hr h=>?_;obtain⟨a,b,p,q,n,m,rfl,ha,hb,lp,lq,h0,bp,bq,hn,z⟩:=h;refine⟨_,(aD (cN (bG fK (aS aZ (pv 1) aF (λ_ _=>rfl)) aF (bK _)) (aG iN) bH)
  (aG (aY (d9 Y6 hr rfl (aA (aT bX (aS aZ (pv 0) aF (λ_ _=>rfl)) (aS aZ (pv 1) aF (λ_ _=>rfl))) (aA (aT bX (aS aZ (pv 0) aF (λ_ _=>rfl)) (aS aZ (pv 1) aF (λ_ _=>rfl))) aC)))))),?_⟩
 refine eS rfl hb ⟨rfl,_,rfl,?_⟩;rw[decide_eq_false (λe=>absurd (show q.1=0 by injection e) ())];refine dE ?_;refine eS rfl ha (cW rfl hb (bV bp.a bq.b () () ?_));exact cW rfl ha (eS rfl hb (bV bp.b bq.a () () ⟨_,_,n+m,rfl,Mq.uM lp (),bp.b.mul bq.a,(),z⟩))
theorem Y12:DZ 4 Z.f12 Z.d12 ["some"] (Ie Z.K) "total":=by
 exists ?_,F12.b1 _ (by intros;rfl),F12.kp,m12
 refine F12.ok9 uJ λ_ _ _ s H _ Q E hr h=>?_;obtain⟨a,xs,ps,w0,rfl,hS,hF,hP,hW,hn,z⟩:=h;refine⟨_,aD (qQ1 (i:=1) uJ.nd (gK (v:=.ref Z.aN) rfl mv_NOUGHT rfl))
  (aD (dY PassesOwn.never rfl (bZ (pv 0)) (qQ0 (i:=2) uJ.nd) (aG (qQ1 (i:=1) uJ.nd (d9 Y8 hr rfl (aA (pv 1) (aA (pv 2) aC))))))
  (aG (aY (pv 1)))),?_⟩
 have hl:=hF.length;exists _,rfl,a,rfl,⟨_,hS⟩,?_;refine fQ (xs:=xs) (λi σ H'=>aP H H'/\∃r y,σ=[some (.ref a),some (.ref r),y]/\Fq Z.K H' r (tot (ps.take i))) ⟨aP.refl H,Z.aN,none,rfl,fN H⟩ (λi σ H' _ h=>h.1.seq hS) ?_ ?_
 .rintro i x σ H' hx ⟨sH,r,y,rfl,er⟩;obtain⟨ap,p,rfl,hp,fp⟩:=hF.get hx;have hi:i < ps.length:=(List.getElem?_eq_some_iff.mp hp).1;have mem:p∈ps:=mem_of_getElem? hp;have pt:Mq.Pos (ps.take i):=λf hf=>hP f (mem_of_mem_take hf);obtain⟨w',n,hw',bn,hle⟩:=hW.at hp;have bt:=hw'.tot pt;exists _,rfl,_,rfl,r,ap,tot (ps.take i),p,_,n,rfl,er,sH.fq fp,(zU pt).pos,hP p mem,bt,bn,(),λa1 H1 s1 e1=>?_;exists sH.trans s1,a1,_,rfl,?_;have ee:ps.take (i+1)=ps.take i++[p]:=by rw[take_add_one,hp];rfl
  have et:tot (ps.take (i+1))=gS (tot (ps.take i)) p:=by
   rw[ee];unfold tot;rw[foldl_append];rfl
  rw[et];exact Fq.of e1
 .rintro σ H' ⟨sH,r,y,rfl,er⟩;exists _,rfl,?_;refine z r H' sH ?_;rw[hl,take_length] at er;exact er
theorem Y13:DZ 2 Z.f13 Z.d13 ["thing"] (Jl Z.K) "is_fraction":=by
 exists ?_,F13.b1 _ (by intros;rfl),F13.kp,m13
 refine F13.ok9 qk3 λ_ _ _ s H _ Q E hr h=>?_;obtain⟨v,o,rfl,hz,q⟩:=h;refine⟨_,(aD (cN (PW.pt (gM (dJ (cV (fH (i:=0) rfl (Or.inl rfl) bl.isi n_tuple rfl rfl PyProof.Rows.boot_tuple))) (gV (bG qV (bM bC rfl n_len PySem.boot_len (aA (pv 0) aC)) aF (bK _))))) (aG (aY gO)) bH)
  (aD (cN (PW.pt (gM (dJ (cV (d9 Y3 hr rfl (aA (aS aZ (pv 0) aF (λ_ _=>rfl)) aC)))) (gV (dJ (cV (d9 Y3 hr rfl (aA (aS aZ (pv 0) aF (λ_ _=>rfl)) aC))))))) (aG (aY gO)) bH)
  (aG (aY (jW (eP Sz (aS aZ (pv 0) aF (λ_ _=>rfl)) aF (bK _)) (oV (eP fK (d9 Y4 hr rfl (aA (aS aZ (pv 0) aF (λ_ _=>rfl)) (aA (aS aZ (pv 0) aF (λ_ _=>rfl)) aC))) aF (bK _)))))))),?_⟩
 cases hz with
 |fr fa hp=>
  exists _,_,true,rfl,.tup fa,rfl,_,rfl,dE ⟨_,rfl,_,_,rfl,.inr fa,rfl,_,rfl,dE ?_⟩;refine eS rfl fa ⟨_,rfl,.inl ⟨_,rfl,_,rfl,dE (cW rfl fa ⟨_,rfl,.inl ⟨_,rfl,_,rfl,dE ?_⟩⟩)⟩⟩;have h1:=hp.pos;refine cW rfl fa ⟨_,_,rfl,rfl,_,rfl,ifT (decide_eq_true ()) (eS rfl fa (cW rfl fa ⟨_,_,rfl,rfl,?_⟩))⟩;rw[hp.one];exact q
 |ty h n=>exact⟨_,_,false,rfl,h,n,_,rfl,dA q⟩
 |len h=>exact⟨_,_,true,rfl,.tup h,rfl,_,rfl,dE ⟨_,rfl,_,_,rfl,.inr h,rfl,_,rfl,dA q⟩⟩
 |n0 h ty n=>
  exists _,_,true,rfl,.tup h,rfl,_,rfl,dE ⟨_,rfl,_,_,rfl,.inr h,rfl,_,rfl,dE ?_⟩;exists _,rfl,_,_,0,_,rfl,rfl,h,rfl,_,rfl,.inr ⟨_,ty,n,_,rfl,dA q⟩
 |n1 h ty n=>
  exists _,_,true,rfl,.tup h,rfl,_,rfl,dE ⟨_,rfl,_,_,rfl,.inr h,rfl,_,rfl,dE ?_⟩;exists _,rfl,_,_,0,_,rfl,rfl,h,rfl,_,rfl,.inl ⟨_,rfl,_,rfl,dE ⟨_,rfl,_,_,1,_,rfl,rfl,h,rfl,_,rfl,.inr ⟨_,ty,n,_,rfl,dA q⟩⟩⟩
 |fb fa c=>
  exists _,_,true,rfl,.tup fa,rfl,_,rfl,dE ⟨_,rfl,_,_,rfl,.inr fa,rfl,_,rfl,dE ?_⟩;refine eS rfl fa ⟨_,rfl,.inl ⟨_,rfl,_,rfl,dE (cW rfl fa ⟨_,rfl,.inl ⟨_,rfl,_,rfl,dE ?_⟩⟩)⟩⟩;rcases c with c | ⟨c,d⟩
  .exact cW rfl fa ⟨_,_,rfl,rfl,_,rfl,ifF (decide_eq_false ()) q⟩
  .refine cW rfl fa ⟨_,_,rfl,rfl,_,rfl,ifT (decide_eq_true c) (eS rfl fa (cW rfl fa ⟨_,_,rfl,rfl,?_⟩))⟩;rw[decide_eq_false (λe=>d (by injection e))];exact q
theorem R14:FZ CX0 1 Z.f14 Z.d14 ["self"] (kY Kd.pc):=by
 refine F14.ok9 Lw λ_ _ _ s H _ Q E hr h=>?_;obtain⟨x,rfl,q⟩:=h;exists _,(aG (aY dH)),q
theorem R15:FZ CX0 1 Z.f15 Z.d15 ["self"] (kY Kd.pu):=by
 refine F15.ok9 Ly λ_ _ _ s H _ Q E hr h=>?_;obtain⟨x,rfl,q⟩:=h;exists _,(aG (aY dH)),q
theorem R16:FZ CX0 1 Z.f16 Z.d16 ["self"] (kY Kd.ho):=by
 refine F16.ok9 Nz λ_ _ _ s H _ Q E hr h=>?_;obtain⟨x,rfl,q⟩:=h;exists _,(aG (aY dH)),q
theorem GW:∀k:Kd,aJ Z.P Z.w Z.K Z.mg ZB CX0 1 (kd3 Z.f14 Z.f15 Z.f16 k) (kd3 Z.d14 Z.d15 Z.d16 k) ["self"] (kY k):=kA (R14) (R15) (R16)
theorem bW:∀k:Kd,aL Z.K (kd3 Z.d14 Z.d15 Z.d16 k) ["self"] []:=kA (b14) (b15) (b16)
theorem mW:∀k:Kd,gZ Z.K (kd3 Z.c_Piece Z.c_Push Z.c_Hold k) ("word") (kd3 Z.f14 Z.f15 Z.f16 k):=kA (⟨a14_0,i14,F14.kp⟩) (⟨a15_0,i15,F15.kp⟩) (⟨a16_0,i16,F16.kp⟩)
theorem R17:FZ CX0 1 Z.f17 Z.d17 ["self"] (oI Kd.pc):=by
 refine F17.ok9 Hb λ_ _ _ s H _ Q E hr h=>?_;obtain⟨x,rfl,q⟩:=h;exists _,(aG (aY gO)),q
theorem R18:FZ CX0 1 Z.f18 Z.d18 ["self"] (oI Kd.pu):=by
 refine F18.ok9 Fw λ_ _ _ s H _ Q E hr h=>?_;obtain⟨x,rfl,q⟩:=h;exists _,(aG (aY gO)),q
theorem R19:FZ CX0 1 Z.f19 Z.d19 ["self"] (oI Kd.ho):=by
 refine F19.ok9 Je λ_ _ _ s H _ Q E hr h=>?_;obtain⟨x,rfl,q⟩:=h;exists _,(aG (aY gO)),q
theorem GJ:∀k:Kd,aJ Z.P Z.w Z.K Z.mg ZB CX0 1 (kd3 Z.f17 Z.f18 Z.f19 k) (kd3 Z.d17 Z.d18 Z.d19 k) ["self"] (oI k):=kA (R17) (R18) (R19)
theorem bJ:∀k:Kd,aL Z.K (kd3 Z.d17 Z.d18 Z.d19 k) ["self"] []:=kA (b17) (b18) (b19)
theorem mJ:∀k:Kd,gZ Z.K (kd3 Z.c_Piece Z.c_Push Z.c_Hold k) ("joins") (kd3 Z.f17 Z.f18 Z.f19 k):=kA (⟨a17_0,i17,F17.kp⟩) (⟨a18_0,i18,F18.kp⟩) (⟨a19_0,i19,F19.kp⟩)
theorem R20:FZ CX0 2 Z.f20 Z.d20 ["self"] (uB (kd3 Z.c_Piece Z.c_Push Z.c_Hold)):=by
 refine F20.ok9 Xo λ_ _ _ s H _ Q E hr h=>?_;obtain⟨x,k,s,g,z,rfl,⟨dx,hx⟩,q⟩:=h;exists _,(aG (aY (gD (aA (kH (pv 0) T.cl mW GW hr bW .nil aM) (aA (cT (pv 0) rfl) (aA (cT (pv 0) rfl) (aA (cT (pv 0) rfl) aC))))))),?_;exists _,rfl,k,x,dx,_,rfl,hx,(kG _ _ _ ∅ ∅ ∅),_,rfl,?_;exists _,rfl,x,(kd3 Z.c_Piece Z.c_Push Z.c_Hold) k,dx,_,_,rfl,hx,T.cl k,T.nS k,iM _ _ _,?_;exists _,rfl,x,(kd3 Z.c_Piece Z.c_Push Z.c_Hold) k,dx,_,_,rfl,hx,T.cl k,T.nG k,jH _ _ _,?_;exists _,rfl,x,(kd3 Z.c_Piece Z.c_Push Z.c_Hold) k,dx,_,_,rfl,hx,T.cl k,T.nZ k,lB _ _ _,?_;exists zl9 4,q
theorem mT:∀k:Kd,gZ Z.K (kd3 Z.c_Piece Z.c_Push Z.c_Hold k) ("told") Z.f20:=kA (⟨a20_0,i20,F20.kp⟩) (⟨a20_1,i20,F20.kp⟩) (⟨a20_2,i20,F20.kp⟩)
theorem Y21:DZ 3 Z.f21 Z.d21 ["told"] (pI Z.K (kd3 Z.c_Piece Z.c_Push Z.c_Hold)) "row_of":=by
 exists ?_,F21.b1 _ (by intros;rfl),F21.kp,m21
 refine F21.ok9 Kh λ_ _ _ s H _ Q E hr h=>?_;obtain⟨t,v,s,g,z,rfl,hT,k,rfl,q⟩:=h;refine⟨_,(aD (qQ1 (i:=1) Kh.nd (aS aZ (pv 0) aF (λ_ _=>rfl)))
  (aD (cN (PW.pt (zJ (cV (fH (i:=1) rfl (Or.inl rfl) bl.isi n_str rfl rfl PyProof.Rows.boot_str)) (uI (bG fK (pv 1) dH (bK _))))) (aG (aY (oC (MK .pc) R9 hr rfl (T.mK .pc) b9 .nil aM (aA (aS aZ (pv 0) aF (λ_ _=>rfl)) (aA (aS aZ (pv 0) aF (λ_ _=>rfl)) (aA (aS aZ (pv 0) aF (λ_ _=>rfl)) aC)))))) bH)
  (aD (cN (PW.pt (zJ (cV (fH (i:=1) rfl (Or.inl rfl) bl.isi n_str rfl rfl PyProof.Rows.boot_str)) (uI (bG fK (pv 1) dH (bK _))))) (aG (aY (oC (MK .pu) R9 hr rfl (T.mK .pu) b9 .nil aM (aA (aS aZ (pv 0) aF (λ_ _=>rfl)) (aA (aS aZ (pv 0) aF (λ_ _=>rfl)) (aA (aS aZ (pv 0) aF (λ_ _=>rfl)) aC)))))) bH)
  (aD (cN (PW.pt (zJ (cV (fH (i:=1) rfl (Or.inl rfl) bl.isi n_str rfl rfl PyProof.Rows.boot_str)) (uI (bG fK (pv 1) dH (bK _))))) (aG (aY (oC (MK .ho) R9 hr rfl (T.mK .ho) b9 .nil aM (aA (aS aZ (pv 0) aF (λ_ _=>rfl)) (aA (aS aZ (pv 0) aF (λ_ _=>rfl)) (aA (aS aZ (pv 0) aF (λ_ _=>rfl)) aC)))))) bH)
  (aG iN))))),?_⟩
 cases k
 .refine qf1 (λ_ _=>False) (λX _=>?_) (λ_ _ h=>h.elim);exists _,rfl,t,_,0,_,rfl,rfl,hT,rfl,?_;exists _,_,true,rfl,.of (.str _),rfl,_,rfl,dA ⟨_,rfl,rfl,_,rfl,ifT (gL .pc .pc) ⟨_,rfl,t,_,1,s,rfl,rfl,hT,rfl,_,rfl,t,_,2,g,rfl,rfl,hT,rfl,_,rfl,t,_,3,z,rfl,rfl,hT,rfl,λx dx h1 h2 ne=>⟨x,dx,.pc,s,g,z,rfl,aB,rfl,by rw[qG];exact q x _ (Rw.new h1 h2 ne) h1 ⟨dx,aB⟩⟩⟩⟩
 .refine Oa (λ_ _=>False) (λX _=>?_) (λ_ _ h=>h.elim);exists _,rfl,t,_,0,_,rfl,rfl,hT,rfl,?_;exists _,_,true,rfl,.of (.str _),rfl,_,rfl,dA ⟨_,rfl,rfl,_,rfl,ifF (gL .pu .pc) (⟨_,_,true,rfl,.of (.str _),rfl,_,rfl,dA ⟨_,rfl,rfl,_,rfl,ifT (gL .pu .pu) ⟨_,rfl,t,_,1,s,rfl,rfl,hT,rfl,_,rfl,t,_,2,g,rfl,rfl,hT,rfl,_,rfl,t,_,3,z,rfl,rfl,hT,rfl,λx dx h1 h2 ne=>⟨x,dx,.pu,s,g,z,rfl,aB,rfl,by rw[qG];exact q x _ (Rw.new h1 h2 ne) h1 ⟨dx,aB⟩⟩⟩⟩⟩)⟩
 .refine qs7 (λ_ _=>False) (λX _=>?_) (λ_ _ h=>h.elim);exists _,rfl,t,_,0,_,rfl,rfl,hT,rfl,?_;exists _,_,true,rfl,.of (.str _),rfl,_,rfl,dA ⟨_,rfl,rfl,_,rfl,ifF (gL .ho .pc) (⟨_,_,true,rfl,.of (.str _),rfl,_,rfl,dA ⟨_,rfl,rfl,_,rfl,ifF (gL .ho .pu) (⟨_,_,true,rfl,.of (.str _),rfl,_,rfl,dA ⟨_,rfl,rfl,_,rfl,ifT (gL .ho .ho) ⟨_,rfl,t,_,1,s,rfl,rfl,hT,rfl,_,rfl,t,_,2,g,rfl,rfl,hT,rfl,_,rfl,t,_,3,z,rfl,rfl,hT,rfl,λx dx h1 h2 ne=>⟨x,dx,.ho,s,g,z,rfl,aB,rfl,by rw[qG];exact q x _ (Rw.new h1 h2 ne) h1 ⟨dx,aB⟩⟩⟩⟩⟩)⟩⟩)⟩
theorem X1:D9 Z.P Z.w Z.K Z.mg ZB 2 Z.f13 Z.d13 ["thing"] (Km Z.K) "is_fraction":=⟨Er Y13.G,Y13.b,F13.kp,m13⟩
theorem Y22:DZ 3 Z.f22 Z.d22 ["thing"] (qf4 Z.K) "is_piece_size":=by
 exists ?_,F22.b1 _ (by intros;rfl),F22.kp,m22
 refine F22.ok9 qr7 λ_ _ _ s H _ Q E hr h=>?_;obtain⟨a,p,n,rfl,fa,hp,h0,hb,hn,q⟩:=h;have r1:=hr.mono (show 1<=2 by lia);exists _,(aG (aY (jW (d9 X1 hr rfl (aA (pv 0) aC)) (oV (d9 Y5 r1 rfl (aA (gK (v:=.ref Z.aN) rfl mv_NOUGHT rfl) (aA (pv 0) aC))))))),?_;exists _,rfl,a,p,rfl,fa,hp,_,rfl,dA ⟨_,rfl,Z.aN,a,_,p,1,n,rfl,fN _,fa,⟨show (0:Nat) < 2 ^ 1 by decide,show (1:Nat) < 2 ^ 1 by decide⟩,hb,(),?_⟩;rw[decide_eq_true (show (0:Int)*p.2 < p.1*1 by lia)];exact q
theorem Y23:DZ 2 Z.f23 Z.d23 ["thing","bound"] (Kl Z.K) "is_number_below":=by
 exists ?_,F23.b2 _ _ (by intros;rfl),F23.kp,m23
 refine F23.ok9 qq7 λ_ _ _ s H _ Q E hr h=>?_;obtain⟨x,b',rfl,hx,q⟩:=h;exists _,(aG (aY (jW (d9 Y3 hr rfl (aA (pv 0) aC)) (jW (eP Sz (pv 0) aF (bK _)) (oV (eP yX (pv 0) (pv 1) (bK _))))))),?_;rcases hx with ⟨i,rfl⟩ | hw
 .have q:Q (.bl (decide (0<=i/\i < b'))) H:=q;exists _,rfl,_,rfl,.inl ⟨i,rfl,_,rfl,dA ⟨_,rfl,_,_,rfl,rfl,_,rfl,?_⟩⟩
  by_cases h0:0<=i
  .refine L2.ifT (decide_eq_true h0) ⟨_,rfl,_,rfl,_,_,rfl,rfl,?_⟩;show Q (.bl (decide (i < b'))) H;have e:decide (0<=i/\i < b')=decide (i < b'):=by simp[h0]
   rw[<- e];exact q
  .have e:decide (0<=i/\i < b')=false:=decide_eq_false λz=>h0 z.1;rw[e] at q;exact L2.ifF (decide_eq_false h0) q
 .rw[qm8 hw] at q;obtain⟨t,h1,h2⟩:=hw;exists _,rfl,_,rfl,.inr ⟨t,h1,h2,_,rfl,dE q⟩
theorem Y24:DZ 4 Z.f24 Z.d24 ["word","size"] (Uy Z.K) "refuse_size":=by
 exists ?_,F24.b2 _ _ (by intros;rfl),F24.kp,m24
 refine F24.ok9 qs0 λ_ _ _ s H _ Q E hr h=>?_;obtain⟨k,z,p,rfl,fz,hp,h0,hb,q⟩:=h;have r2:=hr.mono (show 2<=3 by lia);refine⟨_,(aD (cN (dJ (cV (d9 X1 r2 rfl (aA (pv 1) aC)))) (aG iN) bH)
  (aG (cN (PW.pt (zJ (bG fK (pv 0) dH (bK _)) (uI (dJ (cV (d9 Y22 hr rfl (aA (pv 1) aC))))))) (aG iN) bH))),?_⟩
 exists _,rfl,z,p,rfl,fz,hp,_,rfl,dE ?_
 cases k
 .exists _,rfl,rfl,_,rfl,ifT (gL .pc .pc) ⟨_,rfl,z,p,_,rfl,fz,hp,h0 rfl,hb,(),_,rfl,dE q⟩
 .exists _,rfl,rfl,_,rfl,ifF (gL .pu .pc) (dE q)
 .exists _,rfl,rfl,_,rfl,ifF (gL .ho .pc) (dE q)
theorem X2:D9 Z.P Z.w Z.K Z.mg ZB 2 Z.f23 Z.d23 ["thing","bound"] Zp "is_number_below":=⟨Xn Y23.G,Y23.b,F23.kp,m23⟩
theorem Y25:DZ 3 Z.f25 Z.d25 ["k","count"] qh2 "refuse_number":=by
 exists ?_,F25.b2 _ _ (by intros;rfl),F25.kp,m25
 refine F25.ok9 qq0 λ_ _ _ s H _ Q E hr h=>?_;obtain⟨k,c,rfl,u0,u1,q⟩:=h;exists _,(aG (cN (dJ (cV (d9 X2 hr rfl (aA (pv 0) (aA (pv 1) aC))))) (aG iN) bH)),?_;exists _,rfl,_,rfl,k,c,rfl,u0,u1,_,rfl,dE q
theorem R26:FZ (CX1 Z.P Z.w) 3 Z.f26 Z.d26 ["some","many"] (Kx Z.K Z.c_NoPoint):=by
 refine F26.okX qr4 (λvs H Q E h=>?_) λcdv A outer s H vs Q E hr h=>?_
 .obtain⟨_,_,_,rfl,_⟩:=h;rfl
 obtain⟨l,xs,m,rfl,hl,h100,hA,q,qE⟩:=h;refine⟨_,(aG (cN (dJ (cV (bM (mM rfl) rfl n_all PyProof.Rows.boot_all (aA (cU (nl:=1) (fr:=[1]) (Nc:=["point","many"]) (cl:=[("many",s.heap.objs.size+1)]) rfl ⟨rfl,rfl,∅,∅,λx c h=>h,cG rfl,rfl,λi n h=>match i,h with | 0,h=>by cases h;exact⟨1,rfl,rfl,rfl,rfl,.inl rfl⟩ | k+1,h=>by rw[show 1+(k+1)=k+2 by lia] at h;cases h⟩
    (bZ (pv 0)) (λ_ _ _ _ _=>(qQ0 (i:=0) oM)) (λ_ _ _ _ _=>cC)
    (λ_ _ _ _ _=>(d9 Y23 hr rfl (aA (pv 0) (aA (pv 1) aC))))) aC)))) (aG (wZ gH iW rfl rfl mc_NoPoint x1_NoPoint (aA dH aC))) bH)),?_⟩
 exists _,rfl,l,rfl,⟨_,hl⟩,λD hD=>?_;have sD:=aE hD (.lst []);refine cB (xs:=xs) (λk zs H'=>aP H H'/\H' D=some (.lst zs)/\zs=((xs.take k).map (tT m)).map V.bl) ⟨sD,aB,rfl⟩ (λk zs H' h=>h.2.1) (λk zs H' _ h=>h.1.seq hl) ?_ ?_
 .rintro k zs x H1 hx ⟨s1,e1,rfl⟩ C hC;have hk:k < xs.length:=(List.getElem?_eq_some_iff.mp hx).1;exists bU.1,bU.2,dA ?_;exists _,rfl,_,rfl,x,m,rfl,(hA x (mem_of_getElem? hx)).same s1,e1,aV (by rw[length_map,length_map,length_take];lia),hC _ _ ⟨s1.change hD,aB,?_⟩;rw[take_add_one,hx,map_append,map_append];rfl
 .rintro zs H1 ⟨s1,e1,rfl⟩;rw[take_length] at e1;have ea:(xs.map (tT m)).all id=xs.all (tT m):=by rw[all_map];rfl
  exists D,_,rfl,SqL.of e1,_,rfl,?_;rw[ea]
  cases c:xs.all (tT m) with
  |true=>exact L2.ifF rfl (q c _ s1)
  |false=>exact L2.ifT rfl ⟨zl9 1,qE c _ s1⟩
theorem R27:FZ CX0 2 Z.f27 Z.d27 ["self","many"] (Am Z.c_Net):=by
 refine F27.ok9 Xa λ_ _ _ s H _ Q E hr h=>?_;obtain⟨n,dx,m,rfl,hn,h1,h20,q⟩:=h;refine⟨_,(aD (cN (PW.pt (gM (dJ (cV (d9 Y3 hr rfl (aA (pv 1) aC)))) (gM (bG yX (pv 1) aF (bK _)) (gV (bG Cz (pv 1) (gK (v:=.int 20) rfl mv_MOST_POINTS ⟨_,rfl⟩) (bK _)))))) (aG iN) bH)
  (aD (mV (pv 0) (pv 1) rfl)
  (aG (mV (pv 0) (eU aC) rfl)))),?_⟩
 exists _,rfl,_,rfl,.inl ⟨m,rfl,_,rfl,dE ⟨_,rfl,_,_,rfl,rfl,_,rfl,ifF (decide_eq_false ()) ⟨_,rfl,_,_,rfl,rfl,_,rfl,ifF (decide_eq_false ()) ?_⟩⟩⟩;exists _,rfl,_,rfl,n,Z.c_Net,dx,[],rfl,hn,NTx.cl,NTx.nP,(by show 0 < 1000;decide),?_;exists zl9 0,λl hl=>?_;have nl:n≠l:=λz=>by subst z;rw[aB] at hl;cases hl
 have hl0:H l=none:=by rw[aU (Ne.symm nl)] at hl;exact hl
 have l1:=fR ("point_count":Str) (.int m) [];simp only[length_nil] at l1;exists _,rfl,n,Z.c_Net,dx,dZ "point_count" (.int m) [],rfl,by rw[aU nl];exact aB,NTx.cl,NTx.nK,(),?_;refine q l _ hl0 (λb o e hb=>?_) aB (by rw[aU (Ne.symm nl)];exact aB);rw[aU hb,aU (bA e hl0),aU hb];exact e
theorem R28:FZ CX0 1 Z.f28 Z.d28 ["self"] (sK Z.c_Net Z.K):=by
 refine F28.ok9 qb1 λ_ _ _ s H _ Q E hr h=>?_;obtain⟨n,l,m,ds,rfl,⟨⟨dx,hn⟩,ts,hl,hr'⟩,q⟩:=h;exists _,(aG (aY (cT (pv 0) rfl))),_,rfl,n,Z.c_Net,dx,_,_,rfl,hn,NTx.cl,NTx.nP,Db _ _,q
theorem R29:FZ CX0 1 Z.f29 Z.d29 ["self"] (Bz Z.c_Net Z.K):=by
 refine F29.ok9 Vc λ_ _ _ s H _ Q E hr h=>?_;obtain⟨n,l,m,ds,rfl,⟨⟨dx,hn⟩,ts,hl,hr'⟩,q⟩:=h;exists _,(aG (aY (cS cO rfl n_list PyProof.Rows.boot_list (aA (cT (pv 0) rfl) aC)))),_,rfl,n,Z.c_Net,dx,_,_,rfl,hn,NTx.cl,NTx.nK,fU _ _,l,ts,rfl,.inl (SqL.of hl),λa ha=>?_;have sa:=aE ha (.lst ts);exact q a ts _ sa ha aB (hr'.same sa)
theorem X3:D9 Z.P Z.w Z.K Z.mg ZB 3 Z.f26 Z.d26 ["some","many"] (qf2 Z.K) "refuse_points":=⟨qm4 R26,b26,F26.kp,m26⟩
theorem R30:FZ CX0 5 Z.f30 Z.d30 ["self","row"] (Tc Z.c_Net Z.K (kd3 Z.c_Piece Z.c_Push Z.c_Hold)):=by
 refine F30.ok9 Zi λ_ _ _ s H _ Q E hr h=>?_;obtain⟨n,l,x,z,m,ds,k,i,j,p,rfl,⟨⟨dx,hn⟩,ts,hl,hR⟩,rw,fz,⟨i0,i1,j0,j1,lp,h0,bp⟩,h40,q⟩:=h;have r2:=hr.mono (show 2<=4 by lia);have r3:=hr.mono (show 3<=4 by lia);refine⟨_,(aD (qQ1 (i:=2) Zi.nd (kH (f:=λ_=>Z.f20) (fd:=λ_=>Z.d20) (sp:=λ_=>uB (kd3 Z.c_Piece Z.c_Push Z.c_Hold)) (pv 1) T.cl mT (λ_=>R20) r2 (λ_=>b20) .nil aM))
  (aD (cD (d9 X3 r3 rfl (aA (eU (aA (aS aZ (pv 2) aF (λ_ _=>rfl)) (aA (aS aZ (pv 2) aF (λ_ _=>rfl)) aC))) (aA (cT (pv 0) rfl) aC))))
  (aD (cD (d9 Y24 hr rfl (aA (aS aZ (pv 2) aF (λ_ _=>rfl)) (aA (aS aZ (pv 2) aF (λ_ _=>rfl)) aC))))
  (aD (cN (bG Sz (bM bC rfl n_len PySem.boot_len (aA (cT (pv 0) rfl) aC)) (gK (v:=.int 40) rfl mv_MOST_ROWS ⟨_,rfl⟩) (bK _)) (aG iN) bH)
  (aD (cD (oQ PySem.F.plainAttrs_list PySem.F.slot_list_append PySem.F.type_list_append gB (cT (pv 0) rfl) (aA (pv 2) aC)))
  (aG (aY (aT oW (bM bC rfl n_len PySem.boot_len (aA (cT (pv 0) rfl) aC)) aF)))))))),?_⟩
 obtain⟨dr,hx⟩:=id rw;have len:=hR.length;exists _,rfl,k,x,dr,_,rfl,hx,(kG _ _ _ ∅ ∅ ∅),x,k,_,_,_,rfl,rw,λt ht=>?_;have st:=aE ht (.tup [.str k.wd,.int i,.int j,.ref z]);have et:SqT Z.K (upd H t (.tup [.str k.wd,.int i,.int j,.ref z])) t [.str k.wd,.int i,.int j,.ref z]:=SqT.of aB;generalize upd H t (.tup [.str k.wd,.int i,.int j,.ref z])=H1a at st et ⊢;have hn1:=st _ _ hn;have hl1:=st _ _ hl;exists _,rfl,t,_,1,_,rfl,rfl,et,rfl,_,rfl,t,_,2,_,rfl,rfl,et,rfl,zl9 2,λlq hlq=>?_;obtain⟨H1b,q,sq,eq⟩:=nw hlq (.lst [.int i,.int j]);rw[q];clear q;have hnb:=sq _ _ hn1;exists _,rfl,n,Z.c_Net,dx,_,_,rfl,hnb,NTx.cl,NTx.nP,Db _ _,lq,i,j,m,rfl,SqL.of eq,i0,i1,j0,j1,λH1 sc=>?_;have sqc:=sq.trans sc;have st:=st.trans sqc;have et:=sqc.seqT et;have hn1:=sqc _ _ hn1;have hl1:=sqc _ _ hl1;exists _,rfl,t,_,0,_,rfl,rfl,et,rfl,_,rfl,t,_,3,_,rfl,rfl,et,rfl,k,z,p,rfl,st.fq fz,lp,h0,bp,?_;exists _,rfl,n,Z.c_Net,dx,_,_,rfl,hn1,NTx.cl,NTx.nK,fU _ _,l,ts,rfl,.inl (SqL.of hl1),_,_,rfl,rfl,_,rfl,ifF (decide_eq_false ()) ?_;exists _,rfl,n,Z.c_Net,dx,_,_,rfl,hn1,NTx.cl,NTx.nK,fU _ _,.inl ⟨rfl,_,SqL.of hl1⟩,_,rfl,l,ts,.ref t,rfl,rfl,hl1,aV (),?_;have nn:n≠l:=jG hn1 hl1 (λz=>by cases z);have hn2:upd H1 l (.lst (ts++[.ref t])) n=some (.ins Z.c_Net dx (pL m l)):=by rw[aU nn];exact hn1
 have hl2:upd H1 l (.lst (ts++[.ref t])) l=some (.lst (ts++[.ref t])):=aB;exists _,rfl,n,Z.c_Net,dx,_,_,rfl,hn2,NTx.cl,NTx.nK,fU _ _,l,_,rfl,.inl (SqL.of hl2),_,_,rfl,rfl,?_;show Q (.int (((ts++[V.ref t]).length:Int) - 1)) _;rw[List.length_append,length_singleton,len,show (((ds.length+1:Nat):Int) - 1)=(ds.length:Int) by lia];refine q _ (st.x.write) ⟨⟨dx,hn2⟩,_,hl2,Rts.upd hl1 ((hR.same st).app (.cons et (st.fq fz) .nil))⟩
theorem R31:FZ CX0 5 Z.f31 Z.d31 ["self","k","size"] (vW Z.c_Net Z.K):=by
 refine F31.ok9 Dr λ_ _ _ s H _ Q E hr h=>?_;obtain⟨n,l,z,m,q',ds,k,i,j,p0,p,rfl,⟨⟨dx,hn⟩,ts,hl,hR⟩,q0,hq,fz,lp,h0,bp,q⟩:=h;have r2:=hr.mono (show 3<=4 by lia);refine⟨_,(aD (cD (d9 Y25 r2 rfl (aA (pv 1) (aA (bM bC rfl n_len PySem.boot_len (aA (cT (pv 0) rfl) aC)) aC))))
  (aD (qQ1 (i:=3) Dr.nd (aS bS (cT (pv 0) rfl) (pv 1) (λ_ _=>rfl)))
  (aD (cD (d9 Y24 hr rfl (aA (aS aZ (pv 3) aF (λ_ _=>rfl)) (aA (pv 2) aC))))
  (aG (kW (gD (aA (aS aZ (pv 3) aF (λ_ _=>rfl)) (aA (aS aZ (pv 3) aF (λ_ _=>rfl)) (aA (aS aZ (pv 3) aF (λ_ _=>rfl)) (aA (pv 2) aC))))) (pE (cT (pv 0) rfl) (pv 1) jD)))))),?_⟩
 have len:=hR.length;have lt:q'.toNat < ds.length:=(List.getElem?_eq_some_iff.mp hq).1;obtain⟨t,z0,et,ht,_⟩:=hR.at hq;have at_:atI ts q'=some (.ref t):=by
  have:=bY et
  rwa [show ((q'.toNat:Nat):Int)=q' by lia] at this
 have ix_:ixN ts.length q'=some q'.toNat:=by
  have:=qC (n:=ts.length) (k:=q'.toNat) ()
  rwa [show ((q'.toNat:Nat):Int)=q' by lia] at this
 exists _,rfl,_,rfl,n,Z.c_Net,dx,_,_,rfl,hn,NTx.cl,NTx.nK,fU _ _,l,ts,rfl,.inl (SqL.of hl),q',_,rfl,q0,(),?_;exists _,rfl,n,Z.c_Net,dx,_,_,rfl,hn,NTx.cl,NTx.nK,fU _ _,_,rfl,l,ts,q',_,rfl,rfl,SqL.of hl,at_,?_;exists _,rfl,t,_,0,_,rfl,rfl,ht,rfl,_,rfl,k,z,p,rfl,fz,lp,h0,bp,?_;exists _,rfl,t,_,0,_,rfl,rfl,ht,rfl,_,rfl,t,_,1,_,rfl,rfl,ht,rfl,_,rfl,t,_,2,_,rfl,rfl,ht,rfl,_,rfl,zl9 4,λu hu=>?_;have su:=aE hu (.tup [.str k.wd,.int i,.int j,.ref z]);have eu:SqT Z.K (upd H u (.tup [.str k.wd,.int i,.int j,.ref z])) u [.str k.wd,.int i,.int j,.ref z]:=SqT.of aB;generalize upd H u (.tup [.str k.wd,.int i,.int j,.ref z])=H1 at su eu ⊢;have hn1:=su _ _ hn;have hl1:=su _ _ hl;exists _,rfl,n,Z.c_Net,dx,_,_,rfl,hn1,NTx.cl,NTx.nK,fU _ _,_,rfl,l,ts,q',q'.toNat,rfl,rfl,hl1,ix_,?_;have nn:n≠l:=jG hn1 hl1 (λz=>by cases z);refine q _ (su.x.write) ⟨⟨dx,by rw[aU nn];exact hn1⟩,_,aB,Rts.upd hl1 (Rts.set eu (su.fq fz) _ (hR.same su))⟩
theorem R32:FZ CX0 4 Z.f32 Z.d32 ["self"] (wB Z.c_Net Z.K (kd3 Z.c_Piece Z.c_Push Z.c_Hold)):=by
 refine F32.ok9 Zt λ_ _ _ s H _ Q E hr h=>?_;obtain⟨n,l,m,ds,rfl,⟨⟨dx,hn⟩,ts,hl,hR⟩,h100,q⟩:=h;refine⟨_,(aG (aY (cU (nl:=1) (fr:=[]) (Nc:=["told"]) (cl:=[]) rfl ⟨rfl,rfl,∅,∅,λx c h=>(by cases h),cG rfl,rfl,λi n h=>(by simp at h)⟩
    (bZ (cT (pv 0) rfl)) (λ_ _ _ _ _=>(qQ0 (i:=0) Wi)) (λ_ _ _ _ _=>cC)
    (λ_ _ _ _ _=>(d9 Y21 hr rfl (aA (pv 0) aC)))))),?_⟩
 have len:=hR.length;exists _,rfl,n,Z.c_Net,dx,_,_,rfl,hn,NTx.cl,NTx.nK,fU _ _,l,rfl,⟨_,SqL.of hl⟩,λD hD=>?_;have sD:=aE hD (.lst []);refine cB (xs:=ts) (λi zs H'=>aP H H'/\H' D=some (.lst zs)/\iR (kd3 Z.c_Piece Z.c_Push Z.c_Hold) Z.K H' zs (ds.take i)) ⟨sD,aB,.nil⟩ (λi zs H' h=>h.2.1) (λi zs H' _ h=>h.1.seq (SqL.of hl)) ?_ ?_
 .rintro i zs x H1 hx ⟨s1,e1,R1⟩ C hC;have hi:i < ds.length:=by
   have:=(List.getElem?_eq_some_iff.mp hx).1;lia
  obtain⟨⟨k,u,v,p⟩,hd⟩:∃d,ds[i]?=some d:=⟨_,getElem?_eq_getElem hi⟩
  obtain⟨t,z,et,ht,fz⟩:=hR.at hd;have ex:x=.ref t:=by rw[et] at hx;exact(Option.some.inj hx).symm
  subst ex;have lz:=R1.length;rw[length_take] at lz;exists bU.1,bU.2,dA ?_;exists _,rfl,t,_,_,_,_,rfl,s1.seqT ht,k,rfl,λy H2 s2 ny rw=>?_;have e2:=s2 _ _ e1;exists e2,aV (),hC _ _ ⟨(s1.trans s2).change hD,aB,?_⟩;rw[take_add_one,hd];exact iR.upd e2 ((R1.same s2).app (.cons rw ((s1.trans s2).fq fz) .nil))
 .rintro zs H1 ⟨s1,e1,R1⟩;rw[len,take_length] at R1;exact q D zs H1 s1 hD e1 R1
theorem Y33:DZ 1 Z.f33 Z.d33 ["marks","row"] (wU Z.K (kd3 Z.c_Piece Z.c_Push Z.c_Hold)) "joined":=by
 exists ?_,F33.b2 _ _ (by intros;rfl),F33.kp,m33
 refine F33.ok9 wG λ_ _ _ s H _ Q E hr h=>?_;obtain⟨a,x,ms,k,s0,g0,z,rfl,hS,rw,hs,hg,h100,q⟩:=h;refine⟨_,(aD (aW (i:=2) wG.nd rfl (Or.inr rfl) (aS bS (pv 0) (cT (pv 1) rfl) (λ_ _=>rfl)))
  (aD (aW (i:=3) wG.nd rfl (Or.inr rfl) (aS bS (pv 0) (cT (pv 1) rfl) (λ_ _=>rfl)))
  (aG (aY (cU (nl:=1) (fr:=[3,2]) (Nc:=["mark","lost","kept"]) (cl:=[("lost",s.heap.objs.size+2),("kept",s.heap.objs.size+1)]) rfl ⟨rfl,rfl,∅,∅,(bQ rfl (bQ rfl (dM))),cG rfl,rfl,λi n h=>match i,h with | 0,h=>by cases h;exact⟨3,rfl,rfl,rfl,rfl,.inl rfl⟩ | 1,h=>by cases h;exact⟨2,rfl,rfl,rfl,rfl,.inl rfl⟩ | k+2,h=>by rw[show 1+(k+2)=k+3 by lia] at h;cases h⟩
    (bZ (pv 0)) (λ_ _ _ _ _=>(qQ0 (i:=0) qJ)) (λ_ _ _ _ _=>cC)
    (λ_ _ _ _ _=>(vJ (bG fK (pv 0) (pv 1) (bK _)) (pv 2) (pv 0)))))))),?_⟩
 obtain⟨dx,hx⟩:=id rw;have gi:∀{j:Nat},j < ms.length->atI (ms.map V.int) (j:Int)=some (.int (ms.getD j 0)):=λh=>bY (by rw[getElem?_map,getElem?_eq_getElem h,getD_eq_getElem?_getD,getElem?_eq_getElem h];rfl);exists _,rfl,_,rfl,x,(kd3 Z.c_Piece Z.c_Push Z.c_Hold) _,_,_,_,rfl,hx,T.cl _,T.nS _,iM _ _ _,a,_,_,_,rfl,rfl,hS,gi hs,?_;exists _,rfl,_,rfl,x,(kd3 Z.c_Piece Z.c_Push Z.c_Hold) _,_,_,_,rfl,hx,T.cl _,T.nG _,jH _ _ _,a,_,_,_,rfl,rfl,hS,gi hg,?_;exists _,rfl,a,rfl,⟨_,hS⟩,λD hD=>?_;have sD:=aE hD (.lst []);refine cB (xs:=ms.map V.int) (λi zs H'=>aP H H'/\H' D=some (.lst zs)/\zs=((jn ms s0 g0).take i).map V.int) ⟨sD,aB,rfl⟩ (λi zs H' h=>h.2.1) (λi zs H' _ h=>h.1.seq hS) ?_ ?_
 .rintro i zs x H1 hx' ⟨s1,e1,rfl⟩ C hC;rw[getElem?_map] at hx';obtain⟨c,hc,rfl⟩:=Option.map_eq_some_iff.mp hx';have hi:i < ms.length:=(List.getElem?_eq_some_iff.mp hc).1;have ej:(jn ms s0 g0)[i]?=some (if c=ms.getD g0 0 then ms.getD s0 0 else c):=by unfold jn;rw[getElem?_map,hc];rfl
  have lj:(jn ms s0 g0).length=ms.length:=by unfold jn;rw[length_map]
  exists bU.1,bU.2,dA ?_;exists _,rfl,_,rfl,rfl,_,rfl,?_
  by_cases h:c=ms.getD g0 0
  .rw[if_pos h] at ej;refine ifT (decide_eq_true (by rw[h])) ⟨_,rfl,e1,aV (by rw[length_map,length_take];lia),hC _ _ ⟨s1.change hD,aB,?_⟩⟩;rw[take_add_one,ej,map_append];rfl
  .rw[if_neg h] at ej;refine ifF (decide_eq_false (λz=>h (by injection z))) ⟨_,rfl,e1,aV (by rw[length_map,length_take];lia),hC _ _ ⟨s1.change hD,aB,?_⟩⟩;rw[take_add_one,ej,map_append];rfl
 .rintro zs H1 ⟨s1,e1,rfl⟩;have lj:(jn ms s0 g0).length=ms.length:=by unfold jn;rw[length_map]
  rw[length_map,<- lj,take_length] at e1;exact q D H1 s1 hD e1
theorem X4:gZ Z.K Z.c_Net "many" Z.f28:=⟨a28_0,i28,F28.kp⟩
theorem X5:gZ Z.K Z.c_Net "rows" Z.f32:=⟨a32_0,i32,F32.kp⟩
theorem Y34:DZ 5 Z.f34 Z.d34 ["net"] (zG Z.c_Net Z.K) "marks_of":=by
 exists ?_,F34.b1 _ (by intros;rfl),F34.kp,m34
 refine F34.ok9 uL λ_ _ _ s H _ Q E hr h=>?_;obtain⟨n,l,m,ds,rfl,nt,pt,hm,h100,q⟩:=h;have r1:=hr.mono (show 1<=4 by lia);refine⟨_,(aD (qQ1 (i:=1) uL.nd (pS rfl rfl n_list rfl n_range (aA (cZ (pv 0) NTx.cl X4 R28 r1 b28 .nil aM) aC)))
  (aD (dY PassesOwn.never rfl (bZ (cZ (pv 0) NTx.cl X5 R32 hr b32 .nil aM)) (qQ0 (i:=2) uL.nd)
   (aG (cN (cV (kH (pv 2) T.cl mJ GJ r1 bJ .nil aM)) (aG (qQ1 (i:=1) uL.nd (d9 Y33 r1 rfl (aA (pv 1) (aA (pv 2) aC))))) bH)))
  (aG (aY (pv 1))))),?_⟩
 obtain⟨dx,hn⟩:=nt.ob;exists _,rfl,n,dx,_,rfl,hn,fD _ _ ∅ ∅,n,l,_,ds,rfl,nt,m,rfl,(),λD hD=>?_;have sD:=aE hD (.lst ((List.range m).map λ(i:Nat)=>V.int (i:Int)));have eD:upd H D (.lst ((List.range m).map λ(i:Nat)=>V.int (i:Int))) D=some (.lst ((mks m (ds.take 0)).map V.int)):=by
  rw[aB];show some (HO.lst _)=some (HO.lst ((xL m).map V.int));unfold xL;rw[map_map];rfl
 generalize upd H D (.lst ((List.range m).map λ(i:Nat)=>V.int (i:Int)))=H1 at sD eD ⊢;exists _,rfl,n,dx,_,rfl,sD _ _ hn,fD _ _ ∅ ∅,n,l,_,ds,rfl,nt.same sD,h100,λa xs H2 s2 na ea Rb=>?_;have lxs:=Rb.length;exists a,rfl,⟨_,SqL.of ea⟩,?_;refine fQ (xs:=xs) (λi σ H'=>aP H2 H'/\∃(c:Addr) (z:Option V),σ=[some (.ref n),some (.ref c),z]/\H c=none/\H' c=some (.lst ((mks m (ds.take i)).map V.int))) ⟨aP.refl _,D,none,rfl,hD,s2 _ _ eD⟩ (λi σ H' _ h=>h.1.seq (SqL.of ea)) ?_ ?_
 .rintro i x σ H3 hx ⟨s3,c,z,rfl,nc,ec⟩;have hi:i < ds.length:=by
   have:=(List.getElem?_eq_some_iff.mp hx).1;lia
  obtain⟨⟨k,u,v,p⟩,hd⟩:∃d,ds[i]?=some d:=⟨_,getElem?_eq_getElem hi⟩
  obtain⟨y,z',ey,rw,fz⟩:=Rb.at hd;have ex:x=.ref y:=by rw[ey] at hx;exact(Option.some.inj hx).symm
  subst ex;have rw3:=rw.same s3;obtain⟨dr,hy⟩:=id rw3;have et:ds.take (i+1)=ds.take i++[(k,u,v,p)]:=by rw[take_add_one,hd];rfl
  obtain⟨u0,u1,v0,v1⟩:gQ (m:Int) u v:=pt _ (mem_of_getElem? hd);exists _,rfl,k,y,dr,_,rfl,hy,(kG _ _ _ ∅ ∅ ∅),_,rfl,_,rfl,?_
  by_cases hk:k=.pu
  .refine ifF (decide_eq_false (λz=>z hk)) ⟨s3,c,_,rfl,nc,?_⟩;rw[et,mG];unfold iP;rw[if_pos hk];exact ec
  .refine ifT (decide_eq_true hk) ⟨_,rfl,_,rfl,c,y,mks m (ds.take i),k,u.toNat,v.toNat,.ref z',rfl,SqL.of ec,?_,by rw[kM];lia,by rw[kM];lia,by rw[kM];lia,λc' H4 s4 nc' ec'=>⟨s3.trans s4,c',_,rfl,?_,?_⟩⟩
   .rw[show ((u.toNat:Nat):Int)=u by lia,show ((v.toNat:Nat):Int)=v by lia];exact rw3
   .exact((sD.trans s2).trans s3).free nc'
   .rw[et,mG];unfold iP;rw[if_neg hk];exact ec'
 .rintro σ H3 ⟨s3,c,z,rfl,nc,ec⟩;rw[show ds.take xs.length=ds by rw[lxs,take_length]] at ec;exists _,rfl,q c H3 ((sD.trans s2).trans s3) nc ec
theorem Y35:DZ 6 Z.f35 Z.d35 ["net"] (uW Z.c_Net Z.K) "groups":=by
 exists ?_,F35.b1 _ (by intros;rfl),F35.kp,m35
 refine F35.ok9 qQ λ_ _ _ s H _ Q E hr h=>?_;obtain⟨n,l,m,ds,rfl,nt,pt,h1,hm,h100,q⟩:=h;refine⟨_,(aD (qQ1 (i:=1) qQ.nd Uc)
  (aD (dY PassesOwn.never rfl (zQ rfl n_enumerate rfl (aA (d9 Y34 hr rfl (aA (pv 0) aC)) aC)) (gC rfl (bO (qQ0 (i:=2) qQ.nd) (bO (qQ0 (i:=3) qQ.nd) eO)))
   (aG (cD (oQ PySem.F.plainAttrs_list PySem.F.slot_list_append PySem.F.type_list_append gB (Rl (pv 1) (pv 3) (eU aC) ⟨rfl,rfl,rfl,rfl⟩) (aA (pv 2) aC)))))
  (aG (aY (Dy rfl rfl n_list (pv 1)))))),?_⟩
 refine λF35 hF=>?_;obtain⟨H1,q,sF,eF⟩:=nw hF (.dK []);rw[q];clear q;exists _,rfl,n,l,m,ds,rfl,nt.same sF,pt,hm,h100,λM H2 s2 nM eM=>?_;have mlen:=kM m ds;have hS:SqL Z.K H2 M ((mks m ds).map V.int):=SqL.of eM;have e2F:=s2 _ _ eF;have neM:M≠F35:=λz=>by rw[z,eF] at nM;cases nM
 exists M,rfl,⟨_,hS⟩,?_;refine Eu (xs:=(mks m ds).map V.int) (λi σ H'=>cK F35 H2 H'/\∃(kvs:List (Key × V)) (as:List Addr) (z1 z2:Option V),σ=[some (.ref n),some (.ref F35),z1,z2]/\H' F35=some (.dK kvs)/\Gd H2 H' kvs (grp (mk m ds) i) as/\as.Nodup) ⟨λb o h _=>h,[],[],none,none,rfl,e2F,.nil,nodup_nil⟩ (λi σ H' _ h=>SqL.of (h.1 _ _ eM neM)) ?_ ?_
 .rintro i x σ H3 T3 hx ⟨s3,kvs,as,z1,z2,rfl,e3,g3,nd3⟩ hT;rw[getElem?_map] at hx;obtain⟨c,hc,rfl⟩:=Option.map_eq_some_iff.mp hx;have hi:i < m:=by have:=(List.getElem?_eq_some_iff.mp hc).1;lia
  have ec:c=mk m ds i:=by unfold mk;rw[getD_eq_getElem?_getD,hc];rfl
  subst ec;have sT:=aE hT (.tup [.int (i:Int),.int (mk m ds i)]);exists T3,_,rfl,SqT.of aB,rfl,_,_,rfl,_,_,rfl,rfl,?_;generalize upd H3 T3 (.tup [.int (i:Int),.int (mk m ds i)])=H4 at sT ⊢;have g4:Gd H2 H4 kvs (grp (mk m ds) i) as:=g3.out λa ha=>by
   obtain⟨_,xs,hx⟩:=g3.new a ha;rw[hx,sT _ _ hx]
  have s4:cK F35 H2 H4:=λb o h ne=>sT _ _ (s3 b o h ne);have e4:=sT _ _ e3;exists _,rfl,F35,rfl,.inl ⟨kvs,.inl e4⟩,?_;exists _,rfl,by show 0<=sizeLine;exact Nat.zero_le _,λL hL=>?_;have sL:=aE hL (.lst []);have eL:upd H4 L (.lst []) L=some (.lst []):=aB;have neLF:L≠F35:=λz=>by rw[z,e4] at hL;cases hL
  have nL2:H2 L=none:=by
   cases q2:H2 L with
   |none=>rfl
   |some o=>rw[s4 L o q2 neLF] at hL;cases hL
  have nLa:∀a∈as,a≠L:=λa ha z=>by
   obtain⟨_,xs,hx⟩:=g4.new a ha;rw[z,hL] at hx;cases hx
  generalize upd H4 L (.lst [])=H5 at sL eL ⊢;have g5:Gd H2 H5 kvs (grp (mk m ds) i) as:=g4.out λa ha=>by
   obtain⟨_,xs,hx⟩:=g4.new a ha;rw[hx,sL _ _ hx]
  have s5:cK F35 H2 H5:=λb o h ne=>sL _ _ (s4 b o h ne);have e5:=sL _ _ e4;have lk:kvs.length<=20:=by
   have:=g5.lens;have:=Li (mk m ds) i;lia
  have lt20:∀{n:Nat},n<=20->n < sizeLine:=λh=>by rw[sizeLine_eq];lia
  have nF:∀a,H2 a=none->a≠F35:=λa h z=>by rw[z,e2F] at h;cases h
  exists kvs,Sum.inl (mk m ds i),e5,rfl,lt20 lk,λv hv=>?_,λhv=>?_
  .obtain⟨a,ps,rfl,ma,na,ea,hany,⟨e,he,hp⟩,gq⟩:=g5.find nd3 (wI _ _) hv;have sm:=yM (mk m ds) i e he;rw[hp] at sm;exists .inl ⟨rfl,_,SqL.of ea⟩,_,rfl,a,_,_,rfl,rfl,ea,lt20 (by rw[length_map];lia),?_;exists λb o h ne=>?_,kvs,as,_,_,rfl,?_,?_,nd3
   .have nb:b≠a:=λz=>by rw[z,na] at h;cases h
    rw[aU nb];exact s5 b o h ne
   .rw[aU (nF a na).symm];exact e5
   .show Gd _ _ _ (pU (grp (mk m ds) i) (mk m ds i) (i:Int)) _;unfold pU;rw[if_pos hany];exact gq i
  .have ha:=Nx (κ:=Key) hv;have pk:tO kvs (Sum.inl (mk m ds i)) (.ref L)=kvs++[(Sum.inl (mk m ds i),.ref L)]:=by unfold tO;rw[if_neg (by rw[ha];simp)]
   rw[pk];have e6:upd H5 F35 (.dK (kvs++[(Sum.inl (mk m ds i),.ref L)])) L=some (.lst []):=by rw[aU neLF];exact eL
   exists .inl ⟨rfl,_,SqL.of e6⟩,_,rfl,L,_,_,rfl,rfl,e6,lt20 (Nat.zero_le _),?_;exists λb o h ne=>?_,_,as++[L],_,_,rfl,by rw[aU neLF.symm,aB],?_,?_
   .have nb:b≠L:=λz=>by rw[z,nL2] at h;cases h
    rw[aU nb,aU ne];exact s5 b o h ne
   .show Gd _ _ _ (pU (grp (mk m ds) i) (mk m ds i) (i:Int)) _;unfold pU;rw[if_neg (by rw[<- g5.keys,ha];simp)];refine Gd.app (ps:=[(i:Int)]) (g5.out λa ha'=>?_) nL2 aB;rw[aU (nLa a ha'),aU (nF a (g5.new a ha').1)]
   .refine nodup_append.mpr ⟨nd3,⋯,λx hx y hy z=>?_⟩;rw[mem_singleton] at hy;exact nLa x hx (z.trans hy)
 .rintro σ H3 ⟨s3,kvs,as,z1,z2,rfl,e3,g3,nd3⟩;rw[length_map,mlen] at g3;exists _,rfl,F35,kvs,rfl,e3,λL hL=>?_;have sL:=aE hL (.lst (kvs.map (·.2)));have s0:aP H H3:=λb o h=>s3 b o (s2 _ _ (sF _ _ h)) (λz=>by rw[z,hF] at h;cases h);have g4:Gd H2 (upd H3 L (.lst (kvs.map (·.2)))) kvs (grp (mk m ds) m) as:=g3.out λa ha=>by
   obtain⟨_,xs,hx⟩:=g3.new a ha;rw[hx,sL _ _ hx]
  refine q L _ _ (s0.trans sL) (s0.free hL) aB (g4.ils.from0 (λa h=>(sF.trans s2).free h)) ?_;intro x hx z;obtain⟨a,ha,e⟩:=g3.vals x hx;obtain⟨_,xs,h⟩:=g3.new a ha;rw[z] at e
  cases e
  rw[hL] at h;cases h
theorem R36:FZ (CX1 Z.P Z.w) 5 Z.f36 Z.d36 ["net"] (Tj Z.c_Net Z.c_Held Z.K):=by
 refine F36.okX Oz (λvs H Q E h=>?_) λcdv A outer s H vs Q E hr h=>?_
 .obtain⟨_,_,_,_,rfl,_⟩:=h;rfl
 obtain⟨n,l,m,ds,rfl,nt,h100,q,qH⟩:=h;have r1:=hr.mono (show 1<=4 by lia);have r2:=hr.mono (show 2<=4 by lia);refine⟨_,(aG (dY PassesOwn.leaving rfl (zQ rfl n_enumerate rfl (aA (cZ (pv 0) NTx.cl X5 R32 hr b32 .nil aM) aC)) (gC rfl (bO (qQ0 (i:=1) Oz.nd) (bO (qQ0 (i:=2) Oz.nd) eO)))
   (aG (cN (bG fK (kH (f:=(kd3 Z.f14 Z.f15 Z.f16)) (fd:=(kd3 Z.d14 Z.d15 Z.d16)) (sp:=kY) (pv 2) T.cl mW GW r1 bW .nil aM) dH (bK _)) (aG (yB gH iW rfl rfl mc_Held qIH R2 r2 b2 (aA (pv 1) aC))) bH)))),?_⟩
 obtain⟨dn,hn⟩:=nt.ob;exists _,rfl,n,dn,_,rfl,hn,fD _ _ ∅ ∅,n,l,m,ds,rfl,nt,h100,λa xs H1 s1 na e1 hR=>?_;exists a,rfl,⟨_,SqL.of e1⟩,?_;refine Eu (xs:=xs) (λi σ H'=>aP H1 H'/\(∀j d,j < i->ds[j]?=some d->d.1≠.ho)/\∃z1 z2,σ=[some (.ref n),z1,z2]) ⟨aP.refl _,(λj d hj=>by lia),_,_,rfl⟩ (λi σ H' _ h=>h.1.seq (SqL.of e1)) ?_ ?_
 .rintro i x σ H2 T2 hx ⟨s2,ah,z1,z2,rfl⟩ hT;have hi:i < ds.length:=by have:=(List.getElem?_eq_some_iff.mp hx).1;rw[hR.length] at this;exact this
  obtain⟨r,z,hx',_,_⟩:=hR.at (getElem?_eq_getElem hi);rw[hx] at hx'
  cases hx'
  have sT:=aE hT (.tup [.int (i:Int),.ref r]);exists T2,_,rfl,SqT.of aB,rfl,_,_,rfl,_,_,rfl,rfl,?_;generalize upd H2 T2 (.tup [.int (i:Int),.ref r])=H3 at sT ⊢;obtain⟨r',z',hx'',rw3,_⟩:=(hR.same (s2.trans sT)).at (getElem?_eq_getElem hi);rw[hx] at hx''
  cases hx''
  have hd:=getElem?_eq_getElem hi;generalize ds[i]=d at rw3 hd;obtain⟨dx,hx3⟩:=id rw3;exists _,rfl,d.1,r,dx,_,rfl,hx3,(kG _ _ _ ∅ ∅ ∅),_,rfl,rfl,_,rfl,?_;have s03:=s1.trans (s2.trans sT)
  by_cases nk:d.1=.ho
  .refine L2.ifT (by show decide (V.str d.1.wd=V.str Kd.ho.wd)=true;rw[gL];exact decide_eq_true nk) ?_;exists _,rfl,zl9 1,λx hx=>?_;exists x,_,rfl,aB,λdx' H4 ndx ne keep ex ed=>⟨rfl,some dx',ex,?_⟩;exact qH i ⟨⟨d,hd,nk⟩,ah⟩ dx' _ (yF s03 hx keep) (by rw[kE ne];exact ed)
  .refine L2.ifF (by show decide (V.str d.1.wd=V.str Kd.ho.wd)=false;rw[gL];exact decide_eq_false nk) ⟨s2.trans sT,λj d' hj hd'=>?_,_,_,rfl⟩
   by_cases c:j < i
   .exact ah j d' c hd'
   .have:j=i:=by lia
    subst this;rw[hd] at hd'
    cases hd'
    exact nk
 .rintro σ H2 ⟨s2,ah,_⟩;refine q (λd hd=>?_) H2 (s1.trans s2);obtain⟨i,hi⟩:=getElem?_of_mem hd;exact ah i d (by have:=(List.getElem?_eq_some_iff.mp hi).1;rw[hR.length];exact this) hi
theorem Y37:DZ 2 Z.f37 Z.d37 ["some"] (Shp.Kw Z.K) "in_wholes":=by
 exists ?_,F37.b1 _ (by intros;rfl),F37.kp,m37
 refine F37.ok9 Ya λ_ _ _ s H _ Q E hr h=>?_;obtain⟨a,xs,ps,n,rfl,hS,hF,hP,hB,h100,hn,q⟩:=h;refine⟨_,(aD (aW (i:=1) Ya.nd rfl (Or.inr rfl) aF)
  (aD (dY PassesOwn.never rfl (bZ (pv 0)) (qQ0 (i:=2) Ya.nd)
   (aG (aW (i:=1) Ya.nd rfl (Or.inr rfl) (aT bX (aT gU (pv 1) (d9 Y4 hr rfl (aA (pv 1) (aA (aS aZ (pv 2) aF (λ_ _=>rfl)) aC)))) (aS aZ (pv 2) aF (λ_ _=>rfl))))))
  (aG (aY (gD (aA (cU (nl:=1) (fr:=[1]) (Nc:=["one","bottom"]) (cl:=[("bottom",s.heap.objs.size+1)]) rfl ⟨rfl,rfl,∅,∅,λx c h=>h,cG rfl,rfl,λi n h=>match i,h with | 0,h=>by cases h;exact⟨1,rfl,rfl,rfl,rfl,.inl rfl⟩ | k+1,h=>by rw[show 1+(k+1)=k+2 by lia] at h;cases h⟩
    (bZ (pv 0)) (λ_ _ _ _ _=>(qQ0 (i:=0) xT)) (λ_ _ _ _ _=>cC)
    (λ_ _ _ _ _=>(aT bX (aS (oF (K:=Z.K) rfl) (pv 0) aF (λ_ _=>rfl)) (aT gU (pv 1) (aS (oF (K:=Z.K) rfl) (pv 0) aF (λ_ _=>rfl)))))) (aA (pv 1) aC))))))),?_⟩
 have lx:=hF.length;exists _,rfl,a,rfl,⟨_,hS⟩,?_;refine fQ (xs:=xs) (λi σ H'=>H'=H/\i<=ps.length/\∃z,σ=[some (.ref a),some (.int (cQ (ps.take i))),z]) ⟨rfl,Nat.zero_le _,none,rfl⟩ (λi σ H' _ h=>by rw[h.1];exact hS) ?_ ?_
 .rintro i x σ H' hx ⟨rfl,hi,z,rfl⟩;obtain⟨u,p,rfl,ep,fu⟩:=hF.get hx;have hi':i < ps.length:=(List.getElem?_eq_some_iff.mp ep).1;obtain⟨f1,f2,_⟩:=oZ hP hB i hi;have mono:=Nat.mul_le_mul_left n hi;have hp:=hP p (mem_of_getElem? ep);have pb:=(hB p (mem_of_getElem? ep)).b;have g0:gc (cQ (ps.take i)) p.2≠0:=by have:=Mq.wO (a:=cQ (ps.take i)) (show p.2≠0 by lia);lia
  have gb:Mq.B n (gc (cQ (ps.take i)) p.2):=by
   have:=Gw (t:=cQ (ps.take i)) (show p.2≠0 by lia);rw[Shp.Ab ()] at this;exact pb.le this
  have qb:Mq.B (1+n*i) (Int.fdiv (cQ (ps.take i)) (gc (cQ (ps.take i)) p.2)):=by
   have d1:gc (cQ (ps.take i)) p.2 ∣ cQ (ps.take i):=by unfold gc;exact Int.gcd_dvd_left ..
   obtain⟨k,hk⟩:=d1;have:=Mq.jJ g0 hk;rw[fA g0 hk];exact f2.le this
  exists _,rfl,_,rfl,cW rfl fu ⟨_,_,rfl,hZ g0 gb () (cW rfl fu (bV qb pb () () ?_))⟩;exists rfl,hi',some (.ref u),?_;rw[Mq.oA ep];rfl
 rintro σ H' ⟨rfl,_,z,rfl⟩;rw[lx,take_length];obtain⟨f1,f2,f3⟩:=oZ hP hB ps.length (Nat.le_refl _);rw[take_length] at f1 f2 f3;exists _,rfl,a,rfl,⟨_,hS⟩,λD hD=>?_;have sD:=aE hD (.lst []);refine cB (xs:=xs) (λi zs H1=>aP H' H1/\H1 D=some (.lst zs)/\zs=((ps.take i).map (Gb (cQ ps))).map V.int) ⟨sD,aB,rfl⟩ (λi zs H1 h=>h.2.1) (λi zs H1 _ h=>h.1.seq hS) ?_ ?_
 .rintro i zs x H1 hx ⟨s1,e1,rfl⟩ C hC;obtain⟨u,p,rfl,ep,fu⟩:=hF.get hx;have hi':i < ps.length:=(List.getElem?_eq_some_iff.mp ep).1;have mem:=mem_of_getElem? ep;have hp:=hP p mem;obtain⟨k,hk⟩:=f3 p mem;have fu1:=s1.fq fu;have kb:Mq.B (1+n*ps.length) (Int.fdiv (cQ ps) p.2):=by
   have e:=fA (show p.2≠0 by lia) (show cQ ps=p.2*k by rw[hk,Int.mul_comm]);rw[e];refine f2.le ?_;rw[hk,Int.natAbs_mul];exact Nat.le_mul_of_pos_right _ ()
  exists bU.1,bU.2,dA ?_;refine eS rfl fu1 ⟨_,rfl,cW rfl fu1 (hZ (show p.2≠0 by lia) (hB p mem).b () (bV (hB p mem).a kb () () ?_))⟩;exists e1,aV (by rw[length_map,length_map,length_take];lia),hC _ _ ⟨s1.change hD,aB,?_⟩;rw[take_add_one,ep,map_append,map_append];rfl
 rintro zs H1 ⟨s1,e1,rfl⟩;rw[lx,take_length] at e1;exists _,rfl,zl9 2,λt ht=>?_;have s2:=aE ht (.tup [.ref D,.int (cQ ps)]);exact q t D _ (s1.trans s2) hD (SqT.of aB) (s2 _ _ e1)
theorem Y38:DZ 3 Z.f38 Z.d38 ["tops","pivot"] (Shp.Ht Z.K) "over_pivot":=by
 exists ?_,F38.b2 _ _ (by intros;rfl),F38.kp,m38
 refine F38.ok9 Uw λ_ _ _ s H _ Q E hr h=>?_;obtain⟨l,ts,pq,n,rfl,hS,h100,h0,bP,hn,q⟩:=h;refine⟨_,(aG (aY (cU (nl:=1) (fr:=[1]) (Nc:=["top","pivot"]) (cl:=[("pivot",s.heap.objs.size+1)]) rfl ⟨rfl,rfl,∅,∅,λx c h=>h,cG rfl,rfl,λi n h=>match i,h with | 0,h=>by cases h;exact⟨1,rfl,rfl,rfl,rfl,.inl rfl⟩ | k+1,h=>by rw[show 1+(k+1)=k+2 by lia] at h;cases h⟩
    (bZ (pv 0)) (λ_ _ _ _ _=>(qQ0 (i:=0) Ba)) (λ_ _ _ _ _=>cC)
    (λ_ _ _ _ _=>(d9 Y6 hr rfl (aA (pv 0) (aA (pv 1) aC))))))),?_⟩
 exists _,rfl,l,rfl,⟨_,hS⟩,λD hD=>?_;have sD:=aE hD (.lst []);refine cB (xs:=ts.map V.int) (λi zs H'=>aP H H'/\H' D=some (.lst zs)/\Fqs Z.K H' zs ((ts.map λt=>red t pq).take i)) ⟨sD,aB,.nil⟩ (λi zs H' h=>h.2.1) (λi zs H' _ h=>h.1.seq hS) ?_ ?_
 .rintro i zs x H1 hx ⟨s1,e1,F1⟩ C hC;have hi:i < ts.length:=by have:=(List.getElem?_eq_some_iff.mp hx).1;simpa using this
  have ex:x=.int (ts.getD i 0):=by rw[jT hi] at hx;cases hx;rfl
  subst ex;have lz:=F1.length;rw[length_take,length_map] at lz;exists bU.1,bU.2,dA ?_;exists _,rfl,_,rfl,_,_,n,rfl,h0,bP,(),λr H2 s2 e2=>?_;have eA:=s2 _ _ e1;exists eA,aV (),hC _ _ ⟨(s1.trans s2).change hD,aB,?_⟩;rw[take_add_one,getElem?_map,kC hi];exact((F1.same s2).app (.cons (Fq.of e2) .nil)).upd eA
 rintro zs H1 ⟨s1,e1,F1⟩;rw[length_map,take_of_length_le ⋯] at F1;exact q D zs H1 s1 hD e1 F1
theorem Y39:DZ 1 Z.f39 Z.d39 ["rows","rank","column"] (Hn Z.K) "pivot_place":=by
 exists ?_,F39.b3 _ _ _ (by intros;rfl),F39.kp,m39
 refine F39.ok9 Zd λcdv A outer s H vs Q E hr h=>?_;obtain⟨l,D,zs,R,r,c,m,w',rfl,hS,hI,hm,hw,hc,hr',h100,hne,q⟩:=h;refine⟨_,(aD (dY PassesOwn.never rfl (yP rfl n_range (aA (pv 1) (aA (bM bC rfl n_len PySem.boot_len (aA (pv 0) aC)) aC))) (qQ0 (i:=3) Zd.nd)
   (aG (cN (bG qV (aS bS (aS bS (pv 0) (pv 3) (λ_ _=>rfl)) (pv 2) (λ_ _=>rfl)) aF (bK _)) (aG (aY (pv 3))) bH)))
  (aG (aY Hl))),?_⟩
 have lz:=hI.length;obtain⟨k,hk⟩:∃k,m=r+k:=⟨m - r,()⟩
 exists _,rfl,_,rfl,l,zs,rfl,.inl hS,(r:Int),(zs.length:Int),rfl,⟨(),(),(),()⟩,?_;rw[show ((zs.length:Int) - (r:Int)).toNat=k by lia];refine oE (lo:=(r:Int)) (n:=k) (λi σ H'=>H'=H/\i=0/\∃z,σ=[some (.ref l),some (.int (r:Int)),some (.int (c:Int)),z]) ⟨rfl,rfl,none,rfl⟩ ?_ ?_
 .rintro i σ H' hi ⟨rfl,rfl,z,rfl⟩;obtain⟨u,eu,nu,hu⟩:=hI.at (i:=r) ();have eu':atI zs ((r:Int)+((0:Nat):Int))=some (.ref u):=by have:=bY eu;rw[show (r:Int)+((0:Nat):Int)=(r:Int) by lia];exact this
  have ec:=bY (jT (l:=R.getD r []) (i:=c) (by rw[hw _ ()];exact hc));exists _,rfl,_,rfl,l,zs,_,_,rfl,rfl,hS,eu',_,rfl,u,_,_,_,rfl,rfl,SqL.of hu,ec,rfl,_,rfl,rS (λe=>?_) (λe=>?_)
  .exists _,rfl,?_;rw[show (r:Int)+((0:Nat):Int)=(r:Int) by lia];exact q
  .exfalso
   have e':(R.getD r []).getD c 0=0:=by simpa using e
   exact hne e'
 .rintro σ H' ⟨rfl,hk0,z,rfl⟩;lia
theorem Y40:DZ 1 Z.f40 Z.d40 ["row","upper","column","divisor"] (Shp.rQ Z.K) "cleared":=by
 exists ?_,F40.b4 _ _ _ _ (by intros;rfl),F40.kp,m40
 refine F40.ok9 Sa λ_ _ _ s H _ Q E hr h=>?_;obtain⟨u,v,row,upper,c,n,dv,rfl,hu,hv,hl,h100,hc,hd,b1,b2,bd,hn,q⟩:=h;refine⟨_,(aD (aW (i:=4) Sa.nd rfl (Or.inr rfl) (aS bS (pv 1) (pv 2) (λ_ _=>rfl)))
  (aD (aW (i:=5) Sa.nd rfl (Or.inr rfl) (aS bS (pv 0) (pv 2) (λ_ _=>rfl)))
  (aG (aY (cU (nl:=2) (fr:=[4,5,3]) (Nc:=["here","above","own","other","divisor"]) (cl:=[("own",s.heap.objs.size+2),("other",s.heap.objs.size+3),("divisor",s.heap.objs.size+1)]) (g:=(Ez Z.K 2 (jK (iB 0) (jK (iB 1) Di)))) rfl ⟨rfl,rfl,∅,∅,(Shp.bQ rfl (Shp.bQ rfl (Shp.bQ rfl (Shp.dM)))),cG rfl,rfl,λi n h=>match i,h with | 0,h=>by cases h;exact⟨4,rfl,rfl,rfl,rfl,.inl rfl⟩ | 1,h=>by cases h;exact⟨5,rfl,rfl,rfl,rfl,.inl rfl⟩ | 2,h=>by cases h;exact⟨3,rfl,rfl,rfl,rfl,.inl rfl⟩ | k+3,h=>by rw[show 2+(k+3)=k+5 by lia] at h;cases h⟩
    (lD rfl n_zip rfl (aA (pv 0) (aA (pv 1) aC))) (λ_ _ _ _ _=>(gC rfl (bO (qQ0 (i:=0) eJ) (bO (qQ0 (i:=1) eJ) eO)))) (λ_ _ _ _ _=>cC)
    (λ_ _ _ _ _=>(aT gU (aT oW (aT bX (pv 2) (pv 0)) (aT bX (pv 3) (pv 1))) (pv 4)))))))),?_⟩
 have e1:=bY (jT (l:=upper) (i:=c) ());have e2:=bY (jT (l:=row) (i:=c) ());exists _,rfl,_,rfl,v,_,_,_,rfl,rfl,hv,e1,?_;exists _,rfl,_,rfl,u,_,_,_,rfl,rfl,hu,e2,?_;exists _,rfl,_,rfl,u,v,rfl,⟨_,hu⟩,⟨_,hv⟩,λD hD=>?_;have sD:=aE hD (.lst []);refine kF (xs:=row.map V.int) (ys:=upper.map V.int) (λi zs H'=>aP H H'/\H' D=some (.lst zs)/\zs=((hG upper row c dv).take i).map V.int) ⟨sD,aB,rfl⟩ (λi zs H' h=>h.2.1) (λi zs H' _ h=>⟨h.1.seq hu,h.1.seq hv⟩) ?_ ?_
 .rintro i zs x y H1 T1 ex ey ⟨s1,e1',rfl⟩ hT C hC;have hi:i < row.length:=by have:=(List.getElem?_eq_some_iff.mp ex).1;simpa using this
  have ex':x=.int (row.getD i 0):=by rw[jT hi] at ex;cases ex;rfl
  have ey':y=.int (upper.getD i 0):=by rw[jT ()] at ey;cases ey;rfl
  subst ex' ey';have sT:=aE hT (.tup [.int (row.getD i 0),.int (upper.getD i 0)]);exists T1,_,rfl,SqT.of aB,rfl,_,_,rfl,_,_,rfl,rfl,jR.1,jR.2,dA ?_;have mm:Mq.B (n+n+1) (upper.getD c 0*row.getD i 0 - row.getD c 0*upper.getD i 0):=Mq.B.sub ((b2 c).mul (b1 i)) ((b1 c).mul (b2 i));exists _,rfl,_,rfl,bV (b2 c) (b1 i) () () ⟨_,rfl,_,rfl,bV (b1 c) (b2 i) () () ⟨_,_,rfl,rfl,_,rfl,hZ hd bd () ?_⟩⟩;have ll:(hG upper row c dv).length=row.length:=by unfold hG;rw[length_zipWith];lia
  have eA:=sT _ _ e1';exists eA,aV (by rw[length_map,length_take];lia),hC _ _ ⟨(s1.trans sT).change hD,aB,?_⟩;have eg:(hG upper row c dv)[i]?=some (Int.fdiv (upper.getD c 0*row.getD i 0 - row.getD c 0*upper.getD i 0) dv):=by
   unfold hG;rw[getElem?_zipWith,kC hi,kC (show i < upper.length by lia)]
  rw[take_add_one,eg,map_append];rfl
 rintro zs H1 ⟨s1,e1',rfl⟩;have ll:(hG upper row c dv).length=row.length:=by unfold hG;rw[length_zipWith];lia
 rw[length_map,length_map,take_of_length_le (by rw[ll];lia)] at e1';exact q D H1 s1 hD e1'
theorem Y41:DZ 2 Z.f41 Z.d41 ["rows","rank","column","divisor"] (Shp.sU Z.K) "cleared_rows":=by
 exists ?_,F41.b4 _ _ _ _ (by intros;rfl),F41.kp,m41
 refine F41.ok9 xY λ_ _ _ s H _ Q E hr h=>?_;obtain⟨l,D0,zs,R,r,c,m,w',n,dv,rfl,hS,hI,hm,hw,hc,hw100,hr',h100,hd,hB,bd,hn,q⟩:=h;refine⟨_,(aD (aW (i:=4) xY.nd rfl (Or.inr rfl) (aS bS (pv 0) (pv 1) (λ_ _=>rfl)))
  (aG (aY (cU (nl:=2) (fr:=[4,1,3,2]) (Nc:=["place","row","upper","rank","divisor","column"]) (cl:=[("upper",s.heap.objs.size+4),("rank",s.heap.objs.size+1),("divisor",s.heap.objs.size+3),("column",s.heap.objs.size+2)]) (g:=(Ez Z.K 2 (jK (iB 0) (jK (iB 1) Di)))) rfl ⟨rfl,rfl,∅,∅,(Shp.bQ rfl (Shp.bQ rfl (Shp.bQ rfl (Shp.bQ rfl (Shp.dM))))),cG rfl,rfl,λi n h=>match i,h with | 0,h=>by cases h;exact⟨4,rfl,rfl,rfl,rfl,.inl rfl⟩ | 1,h=>by cases h;exact⟨1,rfl,rfl,rfl,rfl,.inl rfl⟩ | 2,h=>by cases h;exact⟨3,rfl,rfl,rfl,rfl,.inl rfl⟩ | 3,h=>by cases h;exact⟨2,rfl,rfl,rfl,rfl,.inl rfl⟩ | k+4,h=>by rw[show 2+(k+4)=k+6 by lia] at h;cases h⟩
    (zQ rfl n_enumerate rfl (aA (pv 0) aC)) (λ_ _ _ _ _=>(gC rfl (bO (qQ0 (i:=0) dG) (bO (qQ0 (i:=1) dG) eO)))) (λ_ _ _ _ _=>cC)
    (λ_ _ _ _ _=>(vJ (bG fK (pv 0) (pv 3) (bK _)) (pv 1) (d9 Y40 hr rfl (aA (pv 1) (aA (pv 2) (aA (pv 5) (aA (pv 4) aC))))))))))),?_⟩
 have lz:=hI.length;obtain⟨v,ev,nv,hv⟩:=hI.at (i:=r) ();exists _,rfl,_,rfl,l,zs,_,_,rfl,rfl,hS,bY ev,?_;exists _,rfl,l,rfl,⟨_,hS⟩,λD hD=>?_;have sD:=aE hD (.lst []);have ll:=Mq.Kg R r c dv;refine Lx (xs:=zs) (λi ys H'=>aP H H'/\H' D=some (.lst ys)/\Imx D H' ys ((cE R r c dv).take i)) ⟨sD,aB,.nil⟩ (λi ys H' h=>h.2.1) (λi ys H' _ h=>h.1.seq hS) ?_ ?_
 .rintro i ys x H1 T1 ex ⟨s1,e1,I1⟩ hT C hC;have hi:i < m:=by have:=(List.getElem?_eq_some_iff.mp ex).1;lia
  obtain⟨u,eu,nu,hu⟩:=hI.at (i:=i) ();have exu:x=.ref u:=by rw[eu] at ex;cases ex;rfl
  subst exu;have lI:=I1.length;rw[length_take] at lI;have cg:=nQ (R:=R) (i:=i) () r c dv;have cs:(cE R r c dv).take (i+1)=(cE R r c dv).take i++[(cE R r c dv).getD i []]:=by
   rw[take_add_one,getD_eq_getElem?_getD,getElem?_eq_getElem (show i < (cE R r c dv).length by lia)];rfl
  have sT:=aE hT (.tup [.int (i:Int),.ref u]);have uD:∀{x:Addr} {o:HO},H x=some o->x≠D:=λh z=>by rw[z,hD] at h;cases h
  exists T1,_,rfl,SqT.of aB,rfl,_,_,rfl,_,_,rfl,rfl,jR.1,jR.2,dA ?_;generalize upd H1 T1 (.tup [.int (i:Int),.ref u])=H2 at sT ⊢;have sA:=s1.trans sT;have eA:=sT _ _ e1;exists _,rfl,_,rfl,rfl,_,rfl,rS (λe=>?_) (λe=>?_)
  .have ei:i=r:=by simp at e;lia
   exists _,rfl,eA,aV (),hC _ _ ⟨sA.change hD,aB,?_⟩;rw[cs,cg,if_pos ei];exact((I1.same sT).app (.cons (uD hu) (sA _ _ hu) .nil)).upd
  .have ei:i≠r:=by simp at e;lia
   exists _,rfl,_,rfl,_,rfl,_,rfl,u,v,R.getD i [],R.getD r [],c,n,dv,rfl,SqL.of (sA _ _ hu),SqL.of (sA _ _ hv),by rw[hw i hi,hw r hr'],by rw[hw i hi];exact hw100,by rw[hw i hi];exact hc,hd,λj=>hB i j,λj=>hB r j,bd,hn,λl3 H3 s3 n3 e3=>?_;have eB:=s3 _ _ eA;have n3':l3≠D:=λz=>by rw[z,eA] at n3;cases n3
   exists eB,aV (),hC _ _ ⟨(sA.trans s3).change hD,aB,?_⟩;rw[cs,cg,if_neg ei];exact((I1.same (sT.trans s3)).app (.cons n3' e3 .nil)).upd
 rintro ys H1 ⟨s1,e1,I1⟩;rw[lz,take_of_length_le ()] at I1;exact q D ys H1 s1 hD e1 I1
theorem Y42:DZ 3 Z.f42 Z.d42 ["rows","width"] (tV Z.K) "eliminated":=by
 exists ?_,F42.b2 _ _ (by intros;rfl),F42.kp,m42
 refine F42.ok9 iS λcdv A outer s H vs Q E hr h=>?_;obtain⟨l,D0,zs,R,m,c,w',n,Pr,rfl,hS,hI,hm,hw,hmw,hw100,hB,hn1,hn,hm31,hcm,hPr,hCl,hLd,q⟩:=h;have r1:=hr.mono (show 1<=2 by lia);refine⟨_,(aD (qQ1 (i:=0) iS.nd (cS cO rfl n_list PyProof.Rows.boot_list (aA (pv 0) aC)))
  (aD (qQ1 (i:=2) iS.nd aF)
  (aD (qQ1 (i:=3) iS.nd aF)
  (aD (qQ1 (i:=4) iS.nd aF)
  (aD (dY PassesOwn.never rfl (fE rfl n_range (aA (pv 1) aC)) (qQ0 (i:=5) iS.nd)
   (aD (qQ1 (i:=6) iS.nd (d9 Y39 r1 rfl (aA (pv 0) (aA (pv 2) (aA (pv 5) aC)))))
  (aD (cN (qf8 (qf0 (pv 6))) (aG Ct) bH)
  (aD (cN (bG qV (pv 6) (pv 2) (bK _)) (aD (qQ1 (i:=7) iS.nd (aS bS (pv 0) (pv 6) (λ_ _=>rfl)))
  (aD (kW (aS bS (pv 0) (pv 2) (λ_ _=>rfl)) (pE (pv 0) (pv 6) jD))
  (aD (kW (pv 7) (pE (pv 0) (pv 2) jD))
  (aG (qQ1 (i:=4) iS.nd (Cs uR (pv 4))))))) bH)
  (aD (qQ1 (i:=0) iS.nd (d9 Y41 hr rfl (aA (pv 0) (aA (pv 2) (aA (pv 5) (aA (pv 3) aC))))))
  (aD (qQ1 (i:=3) iS.nd (aS bS (aS bS (pv 0) (pv 2) (λ_ _=>rfl)) (pv 5) (λ_ _=>rfl)))
  (aG (qb8 (i:=2) iS.nd rfl (Or.inl rfl) aF Zx))))))))
  (aG (aY (Wn (pZ dH (pv 0) (pZ dH (pv 2) (pZ dH (pv 3) (pZ dH (pv 4) Vo)))) rfl rfl ⋯ ∅)))))))),?_⟩
 exists _,rfl,l,zs,rfl,.inl hS,λl0 hl0=>?_;obtain⟨H0,q,s0,e0⟩:=nw hl0 (.lst zs);rw[q];clear q;exists _,rfl,(c:Int),rfl,(),(),?_;rw[Int.toNat_natCast];have b1:Mq.B n 1:=by
  show 1 < 2 ^ n;exact Nat.one_lt_two_pow ()
 have st0:Bar m (Mq.at2 R) (Mq.at2 R) 0 0 ((1:Int):Rat) id:=by
  have:=Bar.start (m:=m) (A:=Mq.at2 R) λi j=>⟨_,rfl⟩
  simpa using this
 have si:∀{R':List (List Int)} {i:Nat} {d:Int} {e:Nat->Nat},R'.length=m->(∀i,i < m->(R'.getD i []).length=w')->Bar m (Mq.at2 R) (Mq.at2 R') i i (d:Rat) e->SI m w' (Mq.at2 R) R' i i d 1:=λa b c=>⟨a,b,⟨_,_,c,⋯⟩,.inl rfl⟩
 refine oE (lo:=0) (n:=c) (λi σ H'=>aP H H'/\∃(lR:Addr) (zs':List V) (R':List (List Int)) (pivot:Int) (e:Nat->Nat) (z5 z6 z7:Option V),σ=[some (.ref lR),some (.int (c:Int)),some (.int (i:Int)),some (.int pivot),some (.int 1),z5,z6,z7]/\H lR=none/\H' lR=some (.lst zs')/\Imx lR H' zs' R'/\R'.length=m/\(∀i,i < m->(R'.getD i []).length=w')/\Bar m (Mq.at2 R) (Mq.at2 R') i i (pivot:Rat) e/\Mq.SB n m R' i i pivot/\Pr R') ⟨s0,l0,zs,R,1,id,none,none,none,rfl,hl0,e0,(hI.other hl0).same s0,hm,hw,st0,.start hB,hPr⟩ ?_ ?_
 .rintro i σ H1 hi ⟨s1,lR,zs',R',pivot,e,z5,z6,z7,rfl,nR,eR,I1,len,wid,Bi,sb,p1⟩;rw[Int.zero_add];have S1:=si len wid Bi;obtain⟨bR,bP⟩:=sb.bd5 S1 hm31;have hrm:i < m:=by lia
  have dn:pivot≠0:=λz=>Bi.dne (by rw[z];simp);have nx:=hLd i R' pivot e hi Bi;exists _,rfl,_,rfl,_,rfl,lR,lR,zs',R',i,i,m,w',rfl,SqL.of eR,I1,len,wid,(),hrm,(),nx,?_;exists _,rfl,_,rfl,dE ?_;exists _,rfl,_,rfl,rfl,_,rfl,rS (λe=>?_) (λ_=>?_)
  .exfalso
   simp at e
  exists _,rfl,_,rfl,_,rfl,_,rfl,lR,lR,zs',R',i,i,m,w',bw n m,pivot,rfl,SqL.of eR,I1,len,wid,(),hw100,hrm,(),dn,bR,bP,hn,λl3 zs3 H3 s3 n3 e3 I3=>?_;have S3:=S1.clear hrm () nx;have b3:=sb.clear S1 hrm () nx;have B3:=Mq.Tv Bi len wid hrm () nx;obtain⟨u,eu,nu,hu⟩:=I3.at (i:=i) (by rw[S3.len];lia);have ec:=bY (jT (l:=(cE R' i i pivot).getD i []) (i:=i) (by rw[S3.wid _ hrm];lia));exists _,rfl,_,rfl,l3,zs3,_,_,rfl,rfl,SqL.of e3,bY eu,_,rfl,u,_,_,_,rfl,rfl,SqL.of hu,ec,?_;exists _,rfl,_,_,rfl,rfl,?_;have ev:((cE R' i i pivot).getD i []).getD i 0=ent R' i i:=by rw[nQ (by rw[len];lia),if_pos rfl];rfl
  exists s1.trans s3,l3,zs3,_,ent R' i i,_,some (.int (i:Int)),some (.int (i:Int)),z7,?_,s1.free n3,e3,I3,S3.len,S3.wid,B3,b3,hCl _ _ _ _ _ S1 hrm () nx p1;rw[ev];rfl
 .rintro σ H1 ⟨s1,lR,zs',R',pivot,e,z5,z6,z7,rfl,nR,eR,I1,len,wid,Bi,sb,p1⟩;obtain⟨bR,bP⟩:=sb.bd5 (si len wid Bi) hm31;intro d hd;have nd:lR≠d:=λz=>by rw[z,hd] at eR;cases eR
  exists _,rfl,_,rfl,_,rfl,_,rfl,aB,[(.inr "rows",.ref lR),(.inr "rank",.int (c:Int)),(.inr "pivot",.int pivot),(.inr "sign",.int 1)],rfl,by show 4<=15;decide,?_;have sd:aP H1 (upd (upd H1 d (.dK [])) d (Ot lR c pivot 1)):=(aE hd _).change hd;exact q d lR zs' R' pivot 1 e _ (s1.trans sd) (s1.free hd) nR aB (sd _ _ eR) (I1.same sd) len wid Bi bR bP p1
theorem Y43:DZ 5 Z.f43 Z.d43 ["matrix","right"] (qZ Z.K) "solved":=by
 exists ?_,F43.b2 _ _ (by intros;rfl),F43.kp,m43
 refine F43.ok9 qR λ_ _ _ s H _ Q E hr h=>?_;obtain⟨g,bR,D0,H00,us,bs,X,qs,k,n,rfl,hU,hX,hB,hQ,ql,qL,qB,xP,xB,x4,hk,hBd,hn1,hnb,hz0,q⟩:=h;have hu:=Sl hr;have r3:=hr.mono (show 3<=4 by lia);have r2:=hr.mono (show 2<=4 by lia);refine⟨_,(aD (aW (i:=2) qR.nd rfl (Or.inr rfl) (bM bC rfl n_len PySem.boot_len (aA (pv 0) aC)))
  (aD (gJ (i:=3) (nl:=2) (fr:=[]) (Nc:=["row","side"]) (cl:=[]) (g:=(Ez Z.K 2 (jK (iB 0) (jK (iB 1) Di)))) qR.nd rfl rfl rfl ⟨rfl,rfl,∅,∅,λx c h=>(by cases h),cG rfl,rfl,λi n h=>(by simp at h)⟩
    (lD rfl n_zip rfl (aA (pv 0) (aA (pv 1) aC))) (λ_ _ _ _ _=>(gC rfl (bO (qQ0 (i:=0) tD) (bO (qQ0 (i:=1) tD) eO)))) (λ_ _ _ _ _=>cC)
    (λ_ _ _ _ _=>(aS (oF (K:=Z.K) rfl) (d9 Y37 r2 rfl (aA (aT mQ (pv 0) (eU (aA (pv 1) aC))) aC)) aF (λ_ _=>rfl))) rfl)
  (aD (aW (i:=4) qR.nd rfl (Or.inr rfl) (d9 Y42 r3 rfl (aA (pv 3) (aA (pv 2) aC))))
  (aD (cN (bG yX (qM hu (pv 4) dH (λ_ _=>rfl)) (pv 2) (bK _)) (aG iN) bH)
  (aG (aY (cU (nl:=1) (fr:=[2,4]) (Nc:=["row","many","end"]) (cl:=[("many",s.heap.objs.size+1),("end",s.heap.objs.size+2)]) rfl ⟨rfl,rfl,∅,∅,(bQ rfl (bQ rfl (dM))),cG rfl,rfl,λi n h=>match i,h with | 0,h=>by cases h;exact⟨2,rfl,rfl,rfl,rfl,.inl rfl⟩ | 1,h=>by cases h;exact⟨4,rfl,rfl,rfl,rfl,.inl rfl⟩ | k+2,h=>by rw[show 1+(k+2)=k+3 by lia] at h;cases h⟩
    (bZ (qM hu (pv 4) dH (λ_ _=>rfl))) (λ_ _ _ _ _=>(qQ0 (i:=0) tL)) (λ_ _ _ _ _=>cC)
    (λ_ _ _ _ _=>(d9 Y6 r2 rfl (aA (aS (gF (K:=Z.K) rfl) (pv 0) (pv 1) (λ_ _=>rfl)) (aA (qM hu (pv 2) dH (λ_ _=>rfl)) aC))))))))))),?_⟩
 have lu:=hX.length;have lb:=hQ.length;have hw:∀row∈X,row.length=X.length:=λrow h=>(xB row h).2;have qP:=qL.pos;have lA:=Dv ql;exists _,rfl,g,us,rfl,.inl hU,?_;exists _,rfl,_,rfl,g,bR,rfl,⟨_,hU⟩,⟨_,hB⟩,λD hD=>?_;have sD:=aE hD (.lst []);refine kF (xs:=us) (ys:=bs) (λi zs H'=>aP H H'/\H' D=some (.lst zs)/\Imx D H' zs ((iD X qs).take i)) ⟨sD,aB,.nil⟩ (λi zs H' h=>h.2.1) (λi zs H' _ h=>⟨h.1.seq hU,h.1.seq hB⟩) ?_ ?_
 .rintro i zs x y H1 T1 ex ey ⟨s1,e1,I1⟩ hT C hC;obtain⟨u,ys,row,rfl,er,_,_,hu',fu⟩:=hX.get ex;obtain⟨v,qv,rfl,eq,fv⟩:=hQ.get ey;have hi:i < X.length:=(List.getElem?_eq_some_iff.mp er).1;have mem:=mem_of_getElem? er;have memq:=mem_of_getElem? eq;obtain⟨rb,rl⟩:=xB row mem;have lys:=fu.length;have sT:=aE hT (.tup [.ref u,.ref v]);exists T1,_,rfl,SqT.of aB,rfl,_,_,rfl,_,_,rfl,rfl,jR.1,jR.2,dA ?_;generalize upd H1 T1 (.tup [.ref u,.ref v])=H2 at sT ⊢;have s2:=s1.trans sT;exists _,rfl,_,rfl,zl9 1,λlo hlo=>?_;obtain⟨H3,q,s3,e3⟩:=nw hlo (.lst [.ref v]);rw[q];clear q;have s03:=s2.trans s3;exists u,lo,_,_,rfl,rfl,s03 _ _ hu',e3,Nat.le_of_lt (aV (by simp only[length_cons,length_nil];lia)),λp hp=>?_;obtain⟨H4,q,s4,e4⟩:=nw hp (.lst (ys++[.ref v]));rw[q];clear q;have s04:=s03.trans s4;have s14:=sT.trans (s3.trans s4);exists p,_,row++[qv],k,rfl,SqL.of e4,(fu.same s04).app (.cons (s04.fq fv) .nil),λz hz=>?_,λz hz=>?_,by rw[List.length_append];simp only[length_cons,length_nil];lia,by rw[List.length_append,rl];simp only[length_cons,length_nil];rw[show X.length+(0+1)=X.length+1 by lia];lia,λt l H5 s5 nl ht hl=>?_
  .rcases mem_append.mp hz with z1 | z1
   .exact xP row mem z z1
   .have:z=qv:=by simpa using z1
    rw[this];exact qP qv memq
  .rcases mem_append.mp hz with z1 | z1
   .exact rb z z1
   .have:z=qv:=by simpa using z1
    rw[this];exact qB qv memq
  have s15:=s14.trans s5;have e5:=s15 _ _ e1;have ne:l≠D:=λz=>by rw[z,s14 _ _ e1] at nl;cases nl
  have lz:=I1.length;rw[length_take,lA] at lz;exists t,_,_,_,rfl,rfl,ht,rfl,e5,aV (),hC _ _ ⟨(s1.trans s15).change hD,aB,?_⟩;have ee:(iD X qs).take (i+1)=(iD X qs).take i++[iw (row++[qv])]:=by
   rw[take_add_one];unfold iD sP;rw[getElem?_map,getElem?_zipWith,er,eq];rfl
  rw[ee];exact((I1.same s15).app (.cons ne hl .nil)).upd
 rintro zs H1 ⟨s1,e1,I1⟩;rw[show min us.length bs.length=(iD X qs).length by lia,take_length] at I1;have bits4:bw n X.length<=9000:=Nat.le_trans hnb ∅;have wA:∀i,i < X.length->((iD X qs).getD i []).length=X.length+1:=λi hi=>by
  rw[wP ql hi,rB,List.length_append,hw _ (mem_of_getElem? (xQ hi))];rfl
 exists _,rfl,_,rfl,D,D,zs,iD X qs,X.length,X.length,X.length+1,n,λR=>Mq.KI X.length (Mq.at2 (iD X qs)) R/\Mq.KJ X.length (Mq.at2 (iD X qs)) R,by rw[lu];rfl,SqL.of e1,I1,lA,wA,(),(),hBd,hn1,(),(),Nat.le_refl _,⟨λΦ _ hz=>hz,λΦ _ hz=>hz⟩,λR r col d sg s h1 h2 h3 h=>⟨h.1.clear s h1 h2 h3,h.2.clear s h1 h2 h3⟩,hz0,λd lE zE R' pivot sign e9 H2 s2 nd nlE ed el IE len9 wid9 B9 bE bp LE=>?_;obtain⟨g1',g2',g3',g4'⟩:=qN ed;have s02:=s1.trans s2;have SE:SI X.length (X.length+1) (Mq.at2 (iD X qs)) R' X.length X.length pivot 1:=⟨len9,wid9,⟨_,_,B9,⋯⟩,.inl rfl⟩
 exists _,rfl,d,_,rfl,g2',_,rfl,_,_,rfl,rfl,_,rfl,rS (λe=>?_) (λe=>?_)
 .exfalso
  simp at e;lia
 .-- whole
  have dn:=SE.dne;have pn:pivot≠0:=λz=>dn (by rw[z];simp);have lzE:=IE.length;rw[SE.len] at lzE;exists _,rfl,d,_,rfl,g1',lE,rfl,⟨_,SqL.of el⟩,λD2 hD2=>?_;have sD2:=aE hD2 (.lst []);refine cB (xs:=zE) (λi ws H'=>aP H2 H'/\H' D2=some (.lst ws)/\Fqs Z.K H' ws ((List.range i).map λi=>red (ent R' i X.length) pivot)) ⟨sD2,aB,.nil⟩ (λi ws H' h=>h.2.1) (λi ws H' _ h=>h.1.seq (SqL.of el)) ?_ ?_
  .rintro i ws x H3 hx ⟨s3,e3,F3⟩ C hC;have hi:i < X.length:=by have:=(List.getElem?_eq_some_iff.mp hx).1;lia
   obtain⟨u,eu,nu,hu2⟩:=IE.at (i:=i) (by rw[SE.len];exact hi);have exu:x=.ref u:=by rw[eu] at hx;cases hx;rfl
   subst exu;have wid:=SE.wid i hi;have lz:=F3.length;rw[length_map,length_range] at lz;have ea:=bY (jT (l:=R'.getD i []) (i:=X.length) ());rw[<- lu] at ea;exists bU.1,bU.2,dA ?_;exists _,rfl,_,rfl,u,_,_,_,rfl,rfl,SqL.of (s3 _ _ hu2),ea,?_;rw[lu];exists _,rfl,d,_,rfl,qN (s3 _ _ ed) |>.2.2.1,_,_,bw n X.length,rfl,pn,bp,bits4,λr H4 s4 e4=>?_;have eD:=s4 _ _ e3;exists eD,aV (),hC _ _ ⟨(s3.trans s4).change hD2,aB,?_⟩;rw[range_succ,map_append];exact((F3.same s4).app (.cons (Fq.of e4) .nil)).upd eD
  rintro ws H3 ⟨s3,e3,F3⟩;rw[lzE] at F3;have gd:∀j,j < X.length->((List.range X.length).map λi=>red (ent R' i X.length) pivot).getD j Mq.z0=red (ent R' j X.length) pivot:=λj hj=>by
   rw[getD_eq_getElem?_getD,getElem?_map,getElem?_range hj];rfl
  refine q D2 ws _ H3 (s02.trans s3) (s02.free hD2) e3 F3 ⟨⟨⋯,λp hp=>?_,λp hp=>?_,λi hi=>?_⟩,λv hv j hj=>?_⟩
  .obtain⟨i,_,rfl⟩:=mem_map.mp hp;exact gW pn
  .obtain⟨i,hi,rfl⟩:=mem_map.mp hp;have le:=kT (t:=ent R' i X.length) pn;exists ((bE i X.length).le le.1).mono bits4,(bp.le le.2).mono bits4
  .rw[<- qf3 xP qP ql hw LE.1 SE hi];refine aK λj hj=>?_;rw[gd j hj,jP pn];rfl
  .rw[gd j hj,jP pn,<- qd3 xP qP ql hw LE.2 SE hv hj];rfl
theorem Y44:DZ 4 Z.f44 Z.d44 ["matrix","count"] (Ha Z.K) "reduced":=by
 exists ?_,F44.b2 _ _ (by intros;rfl),F44.kp,m44
 refine F44.ok9 Og λ_ A _ s H _ Q E hr h=>?_;obtain⟨g,us,X,m,c,w',n,rfl,hU,hX,⟨hm,m31,hmw,w9,hcm,n1,bits,bits2,LL,L1,LB,hr'⟩,hLd,q⟩:=h;have r2:=hr.mono (show 2<=3 by lia);have hu:=Sl hr;refine⟨_,(aD (gJ (i:=2) (nl:=1) (fr:=[]) (Nc:=["row"]) (cl:=[]) Og.nd rfl rfl rfl ⟨rfl,rfl,∅,∅,λx c h=>(by cases h),cG rfl,rfl,λi n h=>(by simp at h)⟩
    (bZ (pv 0)) (λ_ _ _ _ _=>(qQ0 (i:=0) Py)) (λ_ _ _ _ _=>cC)
    (λ_ _ _ _ _=>(d9 Y37 r2 rfl (aA (pv 0) aC))) rfl)
  (aD (aW (i:=3) Og.nd rfl (Or.inr rfl) (d9 Y42 hr rfl (aA (cU (nl:=1) (fr:=[]) (Nc:=["row"]) (cl:=[]) rfl ⟨rfl,rfl,∅,∅,λx c h=>(by cases h),cG rfl,rfl,λi n h=>(by simp at h)⟩
    (bZ (pv 2)) (λ_ _ _ _ _=>(qQ0 (i:=0) Py)) (λ_ _ _ _ _=>cC)
    (λ_ _ _ _ _=>(aS (oF (K:=Z.K) rfl) (pv 0) aF (λ_ _=>rfl)))) (aA (pv 1) aC))))
  (aG (aY (cU (nl:=2) (fr:=[3,1]) (Nc:=["left","row","end","count"]) (cl:=[("end",s.heap.objs.size+2),("count",s.heap.objs.size+1)]) (g:=(Ez Z.K 2 (jK (iB 0) (jK (iB 1) Di)))) rfl ⟨rfl,rfl,∅,∅,(bQ rfl (bQ rfl (dM))),cG rfl,rfl,λi n h=>match i,h with | 0,h=>by cases h;exact⟨3,rfl,rfl,rfl,rfl,.inl rfl⟩ | 1,h=>by cases h;exact⟨1,rfl,rfl,rfl,rfl,.inl rfl⟩ | k+2,h=>by rw[show 2+(k+2)=k+4 by lia] at h;cases h⟩
    (lD rfl n_zip rfl (aA (gG kP (qM hu (pv 3) dH (λ_ _=>rfl)) (gA (pv 1)) kO) (aA (gG kP (pv 2) (gA (pv 1)) kO) aC))) (λ_ _ _ _ _=>(gC rfl (bO (qQ0 (i:=0) iC) (bO (qQ0 (i:=1) iC) eO)))) (λ_ _ _ _ _=>cC)
    (λ_ _ _ _ _=>(d9 Y38 hr rfl (aA (gG (Dj (K:=Z.K) rfl) (pv 0) (gA (pv 3)) kO) (aA (aT bX (qM hu (pv 2) dH (λ_ _=>rfl)) (aS (oF (K:=Z.K) rfl) (pv 1) aF (λ_ _=>rfl))) aC))))))))),?_⟩
 have lu:=hX.l;have rw':∀{i:Nat},i < X.length->(X.getD i []).length=w'/\Mq.Pos (X.getD i [])/\(∀p∈X.getD i [],Mq.Bd n p)/\Mq.B n (cQ (X.getD i []))/\1<=cQ (X.getD i []):=λ{i} hi=>by
  obtain⟨a,b⟩:=hr' _ (mem_of_getElem? (iK hi));have pos:Mq.Pos (X.getD i []):=λp hp=>(b p hp).1;exists a,pos,λp hp=>(b p hp).2.1,Mq.Az pos (λp hp=>(b p hp).2.2) L1 LB,jU pos
 exists _,rfl,g,rfl,⟨_,hU⟩,λD1 hD1=>?_;have sD1:=aE hD1 (.lst []);refine cB (xs:=us) (λi zs H'=>aP H H'/\H' D1=some (.lst zs)/\Wmx Z.K D1 H' zs ((X.take i).map wh)) ⟨sD1,aB,.nil⟩ (λi zs H' h=>h.2.1) (λi zs H' _ h=>h.1.seq hU) ?_ ?_
 .rintro i zs x H1 hx ⟨s1,e1,W1⟩ C hC;have hi:i < X.length:=by have:=(List.getElem?_eq_some_iff.mp hx).1;lia
  have er:=iK hi;obtain⟨u,ys,rfl,hu',fu⟩:=hX.r i x _ hx er;obtain⟨rl,rp,rb,_,_⟩:=rw' hi;have lz:=W1.length;rw[length_map,length_take] at lz;exists bU.1,bU.2,dA ?_;exists _,rfl,u,ys,X.getD i [],n,rfl,s1.seq hu',fu.same s1,rp,rb,by rw[rl];lia,by rw[rl];lia,λt l H2 s2 nl ht hl=>?_;have e2:=s2 _ _ e1;have ne:l≠D1:=λz=>by rw[z,e1] at nl;cases nl
  exists e2,aV (),hC _ _ ⟨(s1.trans s2).change hD1,aB,?_⟩;have ee:(X.take (i+1)).map wh=(X.take i).map wh++[wh (X.getD i [])]:=by rw[take_add_one,er,map_append];rfl
  rw[ee];exact((W1.same s2).app (.cons ne ht hl .nil)).upd e2
 rintro zs1 H1 ⟨s1,e1,W1⟩;rw[lu,take_length] at W1;have lz1:=W1.length;rw[length_map] at lz1;exists _,rfl,D1,rfl,⟨_,SqL.of e1⟩,λD2 hD2=>?_;have sD2:=aE hD2 (.lst []);refine cB (xs:=zs1) (λi zs H'=>aP H1 H'/\H' D2=some (.lst zs)/\Imx D2 H' zs ((X.map iw).take i)) ⟨sD2,aB,.nil⟩ (λi zs H' h=>h.2.1) (λi zs H' _ h=>h.1.seq (SqL.of e1)) ?_ ?_
 .rintro i zs x H2 hx ⟨s2,e2,J2⟩ C hC;obtain⟨t,l,r,rfl,er,ht,hl⟩:=W1.get hx;obtain⟨row,erow,rfl⟩:∃row,X[i]?=some row/\r=wh row:=by
   rw[getElem?_map] at er
   cases e:X[i]? with
   |none=>rw[e] at er;cases er
   |some row=>rw[e] at er;cases er;exists row,rfl,rfl
  have lz:=J2.length;rw[length_take,length_map] at lz;have ne:l≠D2:=λz=>by rw[z,hD2] at hl;cases hl
  exists bU.1,bU.2,dA ?_;exists _,rfl,t,_,_,_,rfl,rfl,s2.seqT ht,rfl,?_;exists e2,aV (),hC _ _ ⟨s2.change hD2,aB,?_⟩;have ee:(X.map iw).take (i+1)=(X.map iw).take i++[iw row]:=by rw[take_add_one,getElem?_map,erow];rfl
  rw[ee];exact(J2.app (.cons ne (s2 _ _ hl) .nil)).upd
 rintro zs2 H2 ⟨s2,e2,J2⟩;rw[lz1,show X.length=(X.map iw).length by simp,take_length] at J2;have sA:=s1.trans s2;have bd0:BdR (n+n) (X.map iw):=λi x=>by
  unfold ent
  by_cases hi:i < X.length
  .have e:(X.map iw).getD i []=iw (X.getD i []):=by rw[getD_eq_getElem?_getD,getElem?_map,iK hi];rfl
   rw[e];obtain⟨rl,rp,rb,lb,_⟩:=rw' hi;exact Se rp rb lb x
  .rw[getD_eq_getElem?_getD (l:=X.map iw),getElem?_eq_none (by rw[length_map];lia)];exact Nat.two_pow_pos _
 have wid:∀i,i < m->((X.map iw).getD i []).length=w':=λi hi=>by
  have e:(X.map iw).getD i []=iw (X.getD i []):=by rw[getD_eq_getElem?_getD,getElem?_map,iK (show i < X.length by lia)];rfl
  rw[e];unfold iw;rw[length_map];exact(rw' (show i < X.length by lia)).1
 exists _,rfl,D2,D2,zs2,X.map iw,m,c,w',n+n,λ_=>True,rfl,SqL.of e2,J2,by rw[length_map];exact hm,wid,hmw,(),bd0,(),(),m31,hcm,trivial,λ_ _ _ _ _ _ _ _ _ _=>trivial,hLd,λd lE zE R' pivot sign e9' H3 s3 _ nlE ed el IE len9 wid9 B9 bE bP _=>?_;obtain⟨g1',g2',g3',g4'⟩:=qN ed;have sB:=sA.trans s3;have W3:=W1.same (s2.trans s3);have lE':=IE.length;rw[len9] at lE';have pn:pivot≠0:=λz=>B9.dne (by rw[z];simp);exists _,rfl,d,_,rfl,g1',_,rfl,(c:Int),rfl,lE,zE,rfl,SqL.of el,λA hA=>?_;rw[qY];obtain⟨H4,q,s4,e4⟩:=nw hA (.lst (zE.drop c));rw[q];clear q;exists _,rfl,_,rfl,(c:Int),rfl,D1,zs1,rfl,SqL.of (s4 _ _ ((s2.trans s3) _ _ e1)),λB hB=>?_;rw[qY];obtain⟨H5,q,s5,e5⟩:=nw hB (.lst (zs1.drop c));rw[q];clear q;have e4':=s5 _ _ e4;have s35:=s4.trans s5;exists A,B,rfl,⟨_,SqL.of e4'⟩,⟨_,SqL.of e5⟩,λD hD=>?_;have sD:=aE hD (.lst []);refine kF (xs:=zE.drop c) (ys:=zs1.drop c) (λi zs H'=>aP H5 H'/\H' D=some (.lst zs)/\(∃Y,Lns Z.K H' zs Y/\Y.length=i/\∀k,k < i->Y.getD k []=YR X R' c pivot k)/\∀x∈zs,x≠.ref D) ⟨sD,aB,⟨[],.nil,rfl,λk hk=>by lia⟩,λx hx=>by cases hx⟩ (λi zs H' h=>h.2.1) (λi zs H' _ h=>⟨h.1.seq (SqL.of e4'),h.1.seq (SqL.of e5)⟩) ?_ ?_
 .rintro i zs x y H6 T1 ex ey ⟨s6,e6,⟨Y,F6,yl,yw⟩,n6⟩ hT C hC;rw[getElem?_drop] at ex ey;have hi:c+i < X.length:=by have:=(List.getElem?_eq_some_iff.mp ey).1;lia
  obtain⟨t,l,r,rfl,er,ht,hl⟩:=W3.get ey;have er':r=wh (X.getD (c+i) []):=by
   rw[getElem?_map,iK hi] at er
   cases er;rfl
  subst er';obtain⟨u,r',rfl,eR,_,hu6⟩:=IE.get ex;have eR':r'=R'.getD (c+i) []:=by
   rw[getD_eq_getElem?_getD,eR];rfl
  have sT:=aE hT (.tup [.ref u,.ref t]);exists T1,_,rfl,SqT.of aB,rfl,_,_,rfl,_,_,rfl,rfl,jR.1,jR.2,dA ?_;generalize upd H6 T1 (.tup [.ref u,.ref t])=H7 at sT ⊢;have s37:=(s35.trans s6).trans sT;exists _,rfl,_,rfl,(c:Int),rfl,u,_,rfl,SqL.of (s37 _ _ hu6),λL hL=>?_;rw[qY,<- map_drop];obtain⟨H8,q,sL,eL⟩:=nw hL (.lst ((r'.drop c).map V.int));rw[q];clear q;have s38:=s37.trans sL;obtain⟨_,_,_,lb,l1⟩:=rw' hi;have pB:=bP.mul lb;have ne:pivot*cQ (X.getD (c+i) [])≠0:=Int.mul_ne_zero pn ();have rl':r'.length=w':=by
   rw[eR'];exact wid9 _ ()
  exists _,rfl,d,_,rfl,(qN (s38 _ _ ed)).2.2.1,_,rfl,t,_,_,_,rfl,rfl,s38.seqT ht,rfl,bV bP lb () () ?_;exists L,r'.drop c,_,bw (n+n) m+n,rfl,SqL.of eL,by rw[length_drop];lia,ne,pB,(),λl' zs' H9 s9 nl' e9 F9=>?_;have eA:=s9 _ _ (sL _ _ (sT _ _ e6));have lz:=F6.l;have nlD:l'≠D:=λz=>by rw[z,sL _ _ (sT _ _ e6)] at nl';cases nl'
  exists eA,aV (),hC _ _ ⟨(s6.trans (sT.trans (sL.trans s9))).change hD,aB,⟨Y++[(r'.drop c).map λt=>red t (pivot*cQ (X.getD (c+i) []))],?_,by rw[List.length_append,yl];rfl,λk hk=>?_⟩,λz hz=>?_⟩
  rotate_left
  .rw[getD_eq_getElem?_getD]
   by_cases hk':k < i
   .rw[getElem?_append_left (),<- getD_eq_getElem?_getD];exact yw k hk'
   .have ki:k=i:=by lia
    subst ki;rw[getElem?_append_right (),yl,Nat.sub_self,eR'];rfl
  .rcases mem_append.mp hz with c' | c'
   .exact n6 z c'
   .have:z=.ref l':=by simpa using c'
    rw[this];exact λc=>nlD (by injection c)
  .refine((F6.same (sT.trans (sL.trans s9))).snoc (SqL.of e9) F9).upd eA λz hz=>?_;rcases mem_append.mp hz with c' | c'
   .exact n6 z c'
   .have:z=.ref l':=by simpa using c'
    rw[this];exact λc=>nlD (by injection c)
 rintro zs H6 ⟨s6,e6,⟨Y,F6,yl,yw⟩,n6⟩;rw[length_drop,length_drop,lE',lz1,hm,Nat.min_self] at yl yw;exact q D zs Y R' pivot e9' H6 ((sB.trans s35).trans s6) e6 F6 yl yw len9 wid9 B9 bE bP
theorem Y45:DZ 4 Z.f45 Z.d45 ["line","column","amount"] (uF Z.K) "raise_at":=by
 exists ?_,F45.b3 _ _ _ (by intros;rfl),F45.kp,m45
 refine F45.ok9 Wk λ_ _ _ s H _ Q E hr h=>?_;obtain⟨l,z,j,xs,ps,a,n,m,rfl,hl,hF,hj,p1,bp,fz,a1,ba,hn,q⟩:=h;exists _,(aG (kW (d9 Y8 hr rfl (aA (aS bS (pv 0) (pv 1) (λ_ _=>rfl)) (aA (pv 2) aC))) (pE (pv 0) (pv 1) jD))),?_;have lx:=hF.length;obtain⟨u,eu,fu⟩:=hF.at (Dl hj);exists _,rfl,_,rfl,l,xs,_,_,rfl,rfl,SqL.of hl,bY eu,_,rfl,u,z,_,a,n,m,rfl,fu,fz,p1,a1,bp,ba,hn,λv H1 s1 e1=>?_;exists _,rfl,_,rfl,l,xs,_,j,rfl,rfl,s1 _ _ hl,qC (),q v H1 s1 (Fq.of e1)
theorem Y46:DZ 5 Z.f46 Z.d46 ["matrix","row","column","amount"] (Bc Z.K (kd3 Z.c_Piece Z.c_Push Z.c_Hold)) "enter_stream":=by
 exists ?_,F46.b4 _ _ _ _ (by intros;rfl),F46.kp,m46
 refine F46.ok9 Yk λ_ _ _ s H _ Q E hr h=>?_;obtain⟨D,x,z,zz,as,M,⟨k0,u,v,p⟩,w,n,k,c,a,rfl,mx,mb,rw,pt,hc,fz,la,ba,hn,q⟩:=h;have r3:=hr.mono (show 3<=4 by lia);refine⟨_,(aD (cD (aI Y45.G hr rfl m45 F45.kp Y45.b .nil aM (aA (aS bS (pv 0) (cT (pv 1) rfl) (λ_ _=>rfl)) (aA (pv 2) (aA (pv 3) aC)))))
  (aG (cD (aI Y45.G hr rfl m45 F45.kp Y45.b .nil aM (aA (aS bS (pv 0) (cT (pv 1) rfl) (λ_ _=>rfl)) (aA (pv 2) (aA (aI Y7.G r3 rfl m7 F7.kp Y7.b .nil aM (aA (gK (v:=.ref Z.aN) rfl mv_NOUGHT rfl) (aA (pv 3) aC))) aC))))))),?_⟩
 obtain⟨i0,i1,j0,j1⟩:gQ (w:Int) u v:=pt;obtain⟨uN,rfl⟩:∃uN:Nat,u=(uN:Int):=⟨u.toNat,()⟩
 obtain⟨vN,rfl⟩:∃vN:Nat,v=(vN:Int):=⟨v.toNat,()⟩
 have hu':uN < w:=by lia
 have hv':vN < w:=by lia
 obtain⟨ln,bn,_⟩:=rV la ba;obtain⟨dx,hx⟩:=id rw;obtain⟨e1,m45,w1⟩:=mb.row hu';obtain⟨e2,l2,Y7.b⟩:=mb.at hu' hc;have lam:=mx.la;obtain⟨a1,ha1⟩:∃a1,as[uN]?=some a1:=⟨_,getElem?_eq_getElem (by rw[lam,mb.h];exact hu')⟩
 obtain⟨xs,hxs,hF⟩:=mx.r uN a1 _ ha1 e1;have at1:atI (as.map V.ref) (uN:Int)=some (.ref a1):=bY (by rw[getElem?_map,ha1];rfl);exists _,rfl,_,rfl,x,(kd3 Z.c_Piece Z.c_Push Z.c_Hold) _,_,_,_,rfl,hx,T.cl _,T.nS _,iM _ _ _,D,_,_,_,rfl,rfl,SqL.of mx.d,at1,_,rfl,_,rfl,a1,z,c,xs,_,a,n,k,rfl,hxs,hF,by rw[w1];exact hc,l2.pos,Y7.b,fz,la.pos,ba,(),λv1 H1 s1 f1=>?_;obtain⟨mx2,sx2⟩:=mx.set (j:=c) ha1 e1 hxs hF s1 f1;have mb2:=mb.rz hu' hc la ba;generalize upd H1 a1 (.lst (xs.set c (.ref v1)))=H2 at mx2 sx2 ⊢;have mx2:Mx Z.K H2 D as (rz M uN c a):=mx2;have ls:=mx.lsts;have fz2:Fq Z.K H2 z a:=sx2.seqT ls fz;obtain⟨dx2,hx2⟩:=id (sx2.rw ls rw);obtain⟨e3,m3,w3⟩:=mb2.row hv';obtain⟨e4,l4,b4⟩:=mb2.at hv' hc;obtain⟨a2,ha2⟩:∃a2,as[vN]?=some a2:=⟨_,getElem?_eq_getElem (by rw[lam,mb.h];exact hv')⟩
 obtain⟨xs2,hxs2,hF2⟩:=mx2.r vN a2 _ ha2 e3;have at2:atI (as.map V.ref) (vN:Int)=some (.ref a2):=bY (by rw[getElem?_map,ha2];rfl);have b01:Mq.Bd 1 (0,1):=⟨show (0:Nat) < 2 ^ 1 by decide,show (1:Nat) < 2 ^ 1 by decide⟩
 exists _,rfl,_,rfl,x,(kd3 Z.c_Piece Z.c_Push Z.c_Hold) _,_,_,_,rfl,hx2,T.cl _,T.nG _,jH _ _ _,D,_,_,_,rfl,rfl,SqL.of mx2.d,at2,_,rfl,_,rfl,Z.aN,z,(0,1),a,1,k,rfl,fN _,fz2,∅,la.pos,b01,ba,(),λv3 H3 s3 e5=>?_;exists a2,v3,c,xs2,_,_,n+k+1,k+2,rfl,s3 _ _ hxs2,hF2.same s3,by rw[w3];exact hc,l4.pos,b4,Fq.of e5,ln.pos,bn,(),λv4 H4 s4 f4=>?_;obtain⟨mx3,sx3⟩:=(mx2.same s3).set (j:=c) ha2 e3 (s3 _ _ hxs2) (hF2.same s3) s4 f4;exact q _ (sx2.trans (s3.sx.trans sx3)) mx3
theorem Y47:DZ 6 Z.f47 Z.d47 ["matrix","row"] (vT Z.K (kd3 Z.c_Piece Z.c_Push Z.c_Hold)) "enter_piece":=by
 exists ?_,F47.b2 _ _ (by intros;rfl),F47.kp,m47
 refine F47.ok9 Eb λ_ _ _ s H _ Q E hr h=>?_;obtain⟨D,x,zz,as,M,⟨k0,u,v,p⟩,w,n,k,rfl,mx,mb,rw,fp,pt,lp,p0,bp,hn,q⟩:=h;have r3:=hr.mono (show 3<=5 by lia);refine⟨_,(aD (qQ1 (i:=2) Eb.nd (d9 Y11 r3 rfl (aA (gK (v:=.ref Z.aO) rfl mv_ONE rfl) (aA (cT (pv 1) rfl) aC))))
  (aD (cD (d9 Y46 hr rfl (aA (pv 0) (aA (pv 1) (aA (cT (pv 1) rfl) (aA (pv 2) aC))))))
  (aG (cD (d9 Y46 hr rfl (aA (pv 0) (aA (pv 1) (aA (cT (pv 1) rfl) (aA (d9 Y7 r3 rfl (aA (gK (v:=.ref Z.aN) rfl mv_NOUGHT rfl) (aA (pv 2) aC))) aC))))))))),?_⟩
 have lp:Low p:=lp;have p0:0 < p.1:=p0;have bp:Mq.Bd k p:=bp;have fp:Fq Z.K H zz p:=fp;obtain⟨i0,i1,j0,j1⟩:gQ (w:Int) u v:=pt;obtain⟨uN,rfl⟩:∃uN:Nat,u=(uN:Int):=⟨u.toNat,()⟩
 obtain⟨vN,rfl⟩:∃vN:Nat,v=(vN:Int):=⟨v.toNat,()⟩
 obtain⟨ls,bs,_⟩:=Et lp p0 bp;obtain⟨ln,bn,_⟩:=rV ls bs;have pt':gQ (w:Int) (uN:Int) (vN:Int):=⟨i0,i1,j0,j1⟩
 obtain⟨dx,hx⟩:=id rw;exists _,rfl,x,(kd3 Z.c_Piece Z.c_Push Z.c_Hold) _,_,_,_,rfl,hx,T.cl _,T.nZ _,lB _ _ _,Z.aO,zz,(1,1),p,1,k,rfl,fO _,fp,h11,lp.pos,p0,Pj,bp,(),λs' H1 s1 e1=>?_;have fs:Fq Z.K H1 s' (tP (1,1) p):=Fq.of e1;have rw1:=rw.same s1;obtain⟨dx1,hx1⟩:=id rw1;have mx1:=mx.same s1;exists _,rfl,_,rfl,_,rfl,x,(kd3 Z.c_Piece Z.c_Push Z.c_Hold) _,_,_,_,rfl,hx1,T.cl _,T.nS _,iM _ _ _,_,rfl,D,x,s',_,as,M,(k0,(uN:Int),(vN:Int),p),w,n,k+1,uN,_,rfl,mx1,mb,rw1,pt',(),fs,ls,bs,(),λH2 sx2 mx2=>?_;have lst:=mx1.lsts;have fs2:Fq Z.K H2 s' (tP (1,1) p):=sx2.seqT lst fs;have rw2:=sx2.rw lst rw1;obtain⟨dx2,hx2⟩:=id rw2;obtain⟨mb2,_⟩:=Tr (d:=(k0,(uN:Int),(vN:Int),p)) mb pt' (c:=uN) () ls bs;have b01:Mq.Bd 1 (0,1):=⟨show (0:Nat) < 2 ^ 1 by decide,show (1:Nat) < 2 ^ 1 by decide⟩
 exists _,rfl,_,rfl,_,rfl,x,(kd3 Z.c_Piece Z.c_Push Z.c_Hold) _,_,_,_,rfl,hx2,T.cl _,T.nG _,jH _ _ _,_,rfl,Z.aN,s',(0,1),_,1,k+1,rfl,fN _,fs2,∅,ls.pos,b01,bs,(),λv3 H3 s3 e3=>?_;exists D,x,v3,_,as,_,(k0,(uN:Int),(vN:Int),p),w,n+2*(k+1)+4,k+3,vN,_,rfl,mx2.same s3,mb2,rw2.same s3,pt',(),Fq.of e3,ln,bn,(),λH4 sx4 mx4=>?_;exact q H4 (s1.sx.trans (sx2.trans (s3.sx.trans sx4))) mx4
theorem Y48:DZ 5 Z.f48 Z.d48 ["right","row"] (vG Z.K (kd3 Z.c_Piece Z.c_Push Z.c_Hold)) "enter_push":=by
 exists ?_,F48.b2 _ _ (by intros;rfl),F48.kp,m48
 refine F48.ok9 Qo λ_ _ _ s H _ Q E hr h=>?_;obtain⟨R,x,zz,ys,rs,⟨k0,u,v,p⟩,w,n,k,rfl,eR,hF,lb,rw,fp,pt,lp,bp,hn,q⟩:=h;have r3:=hr.mono (show 3<=4 by lia);refine⟨_,(aD (cD (d9 Y45 hr rfl (aA (pv 0) (aA (cT (pv 1) rfl) (aA (d9 Y7 r3 rfl (aA (gK (v:=.ref Z.aN) rfl mv_NOUGHT rfl) (aA (cT (pv 1) rfl) aC))) aC)))))
  (aG (cD (d9 Y45 hr rfl (aA (pv 0) (aA (cT (pv 1) rfl) (aA (cT (pv 1) rfl) aC))))))),?_⟩
 have lp:Low p:=lp;have bp:Mq.Bd k p:=bp;have fp:Fq Z.K H zz p:=fp;obtain⟨i0,i1,j0,j1⟩:gQ (w:Int) u v:=pt;obtain⟨uN,rfl⟩:∃uN:Nat,u=(uN:Int):=⟨u.toNat,()⟩
 obtain⟨vN,rfl⟩:∃vN:Nat,v=(vN:Int):=⟨v.toNat,()⟩
 obtain⟨ln,bn,_⟩:=rV lp bp;obtain⟨dx,hx⟩:=id rw;obtain⟨_,l1,b1⟩:=lb.at (j:=uN) ();have b01:Mq.Bd 1 (0,1):=⟨show (0:Nat) < 2 ^ 1 by decide,show (1:Nat) < 2 ^ 1 by decide⟩
 exists _,rfl,_,rfl,x,(kd3 Z.c_Piece Z.c_Push Z.c_Hold) _,_,_,_,rfl,hx,T.cl _,T.nS _,iM _ _ _,_,rfl,x,(kd3 Z.c_Piece Z.c_Push Z.c_Hold) _,_,_,_,rfl,hx,T.cl _,T.nZ _,lB _ _ _,Z.aN,zz,(0,1),p,1,k,rfl,fN _,fp,∅,lp.pos,b01,bp,(),λv1 H1 s1 e1=>?_;exists R,v1,uN,ys,rs,_,n,k+2,rfl,s1 _ _ eR,hF.same s1,by rw[lb.w];lia,l1.pos,b1,Fq.of e1,ln.pos,bn,(),λv2 H2 s2 f2=>?_;have s12:=s1.trans s2;have eR2:=s12 _ _ eR;have F3:=(Fqs.set f2 uN (hF.same s12)).upd (o:=.lst (ys.set uN (.ref v2))) eR2;have e3:upd H2 R (.lst (ys.set uN (.ref v2))) R=some (.lst (ys.set uN (.ref v2))):=aB;have sx3:SX [R] H (upd H2 R (.lst (ys.set uN (.ref v2)))):=s12.sx.write ⋯;have fp3:Fq Z.K (upd H2 R (.lst (ys.set uN (.ref v2)))) zz p:=SqT.upd (s12.fq fp) eR2;have rw3:=(rw.same s12).upd (o:=.lst (ys.set uN (.ref v2))) eR2;generalize upd H2 R (.lst (ys.set uN (.ref v2)))=H3 at F3 e3 sx3 fp3 rw3 ⊢;have lb3:=lb.rz (j:=uN) () ln bn;have F3:Fqs Z.K H3 (ys.set uN (.ref v2)) (rzl rs uN (fZ (0,1) p)):=F3;obtain⟨_,l4,b4⟩:=lb3.at (j:=vN) ();obtain⟨dx3,hx3⟩:=id rw3;exists _,rfl,_,rfl,x,(kd3 Z.c_Piece Z.c_Push Z.c_Hold) _,_,_,_,rfl,hx3,T.cl _,T.nG _,jH _ _ _,_,rfl,x,(kd3 Z.c_Piece Z.c_Push Z.c_Hold) _,_,_,_,rfl,hx3,T.cl _,T.nZ _,lB _ _ _,R,zz,vN,_,_,p,n+(k+2)+1,k,rfl,e3,F3,by rw[lb3.w];lia,l4.pos,b4,fp3,lp.pos,bp,(),λv5 H5 s5 f5=>?_;refine q _ _ (sx3.trans (s5.sx.write ⋯)) aB ?_;exact(Fqs.set f5 vN (F3.same s5)).upd (s5 _ _ e3)
theorem R49:FZ CX0 1 Z.f49 Z.d49 ["self","ends","matrix","comes"] (pO Z.c_Table Z.K):=by
 refine F49.ok9 Vy λcdv A outer s H vs Q E hr h=>?_;obtain⟨t,dx,e,g,c,es,us,ys,X,cs,rfl,ht,hE,hU,hL0,h100,hC,hF,av,lav,q⟩:=h;refine⟨_,(aD (mV (pv 0) (cS cO rfl n_list PyProof.Rows.boot_list (aA (pv 1) aC)) rfl)
  (aD (mV (pv 0) (cU (nl:=1) (fr:=[]) (Nc:=["line"]) (cl:=[]) rfl ⟨rfl,rfl,∅,∅,λx c h=>(by cases h),cG rfl,rfl,λi n h=>(by simp at h)⟩
    (bZ (pv 2)) (λ_ _ _ _ _=>(qQ0 (i:=0) tW)) (λ_ _ _ _ _=>cC)
    (λ_ _ _ _ _=>(cS (jY (K:=Z.K) rfl) rfl n_list PyProof.Rows.boot_list (aA (pv 0) aC)))) rfl)
  (aG (mV (pv 0) (cS cO rfl n_list PyProof.Rows.boot_list (aA (pv 3) aC)) rfl)))),?_⟩
 exists _,rfl,e,_,rfl,.inl hE,λp hp=>?_;have ntp:t≠p:=bA ht hp;obtain⟨H1,q,s1,ep⟩:=nw hp (.lst (es.map V.int));rw[q];clear q;exists _,rfl,t,Z.c_Table,dx,[],rfl,s1 _ _ ht,TBx.cl,TBx.nP,(by show 0 < 1000;decide),?_;have x1:cK t H (upd H1 t (.ins Z.c_Table dx (dZ "places" (.ref p) []))):=λb o h nb=>by rw[aU nb];exact s1 _ _ h
 have et1:upd H1 t (.ins Z.c_Table dx (dZ "places" (.ref p) [])) t=some (.ins Z.c_Table dx (dZ "places" (.ref p) [])):=aB;have ep1:upd H1 t (.ins Z.c_Table dx (dZ "places" (.ref p) [])) p=some (.lst (es.map V.int)):=by rw[aU (Ne.symm ntp)];exact ep
 generalize upd H1 t (.ins Z.c_Table dx (dZ "places" (.ref p) []))=H2 at x1 et1 ep1 ⊢;have hU2:=cK.seqI ht x1 hU;have hL2:=cK.lnsI ht x1 hL0;have hC2:=cK.seqI ht x1 hC;have hF2:=cK.fqsI ht x1 hF;exists _,rfl,g,rfl,⟨_,hU2⟩,λD hD=>?_;have hL0:=hL2;have h100':X.length<=100:=by have:=hL0.l;lia
 have sD:=aE hD (.lst []);refine cB (xs:=us) (λi zs H'=>aP H2 H'/\H' D=some (.lst zs)/\LnH Z.K H' zs (X.take i)/\∀x∈zs,x≠.ref D/\∀b∈av,x≠.ref b) ⟨sD,aB,by rw[take_zero];exact .nil,λx hx=>by cases hx⟩ (λi zs H' h=>h.2.1) (λi zs H' _ h=>h.1.seq hU2) ?_ ?_
 .rintro i zs x H2 hx ⟨s2,e2,G2,n2⟩ C' hC';have hi:i < X.length:=by have:=(List.getElem?_eq_some_iff.mp hx).1;have:=hL0.l;lia
  have hc:X[i]?=some X[i]:=getElem?_eq_getElem hi;obtain⟨ra,rx,rfl,era,Sra⟩:=(hL0.same s2).r i x _ hx hc;have lz:=G2.l;rw[length_take] at lz;exists bU.1,bU.2,dA ?_;exists _,rfl,ra,rx,rfl,.inl era,λL hL=>?_;obtain⟨H3',q,sL,eL⟩:=nw hL (.lst rx);rw[q];clear q;have e23:=sL _ _ e2;have nLK:L≠D:=Ne.symm (bA e2 hL);exists e23,aV (),hC' _ _ ⟨(s2.trans sL).change hD,aB,?_,λy hy=>?_⟩
  .rw[take_add_one,hc];refine((G2.same sL).snoc eL (Sra.same sL)).upd e23 λy hy=>?_;rcases mem_append.mp hy with z | z
   .exact(n2 y z).1
   .have:y=.ref L:=by simpa using z
    rw[this];exact λz=>nLK (by injection z)
  .rcases mem_append.mp hy with z | z
   .exact n2 y z
   .have:y=.ref L:=by simpa using z
    rw[this];exact⟨λz=>nLK (by injection z),λb hb z=>by
     obtain⟨_,e⟩:=lav b hb;have:L=b:=by injection z
     rw[this,s2 _ _ (x1 _ _ e (λz=>by rw[z,ht] at e;cases e))] at hL;cases hL⟩
 rintro zs HZ ⟨sZ,eZ,GZ,nZ⟩;rw[hL0.l,take_length] at GZ;have etZ:=sZ _ _ et1;have epZ:=sZ _ _ ep1;have ntD:t≠D:=bA et1 hD;have l1:=fR ("places":Str) (.ref p) [];simp only[length_nil] at l1;exists _,rfl,t,Z.c_Table,dx,dZ "places" (.ref p) [],rfl,etZ,TBx.cl,TBx.nL,(),?_;have x2:cK t HZ (upd HZ t (.ins Z.c_Table dx (dZ "lines" (.ref D) (dZ "places" (.ref p) [])))):=λb o h nb=>by rw[aU nb];exact h
 have et2:upd HZ t (.ins Z.c_Table dx (dZ "lines" (.ref D) (dZ "places" (.ref p) []))) t=some (.ins Z.c_Table dx (dZ "lines" (.ref D) (dZ "places" (.ref p) []))):=aB;have hC3:=cK.seqI etZ x2 (sZ.seq hC2);have hF3:=cK.fqsI etZ x2 (hF2.same sZ);have ep3:=x2 _ _ epZ (Ne.symm ntp);have eD3:=x2 _ _ eZ (Ne.symm ntD);have G3:=qj4 etZ x2 GZ;generalize upd HZ t (.ins Z.c_Table dx (dZ "lines" (.ref D) (dZ "places" (.ref p) [])))=H4 at x2 et2 hC3 hF3 ep3 eD3 G3 ⊢;exists _,rfl,c,_,rfl,.inl hC3,λa ha=>?_;have nta:t≠a:=bA et2 ha;obtain⟨H5,q,s5,ea⟩:=nw ha (.lst ys);rw[q];clear q;have l2:=fR ("lines":Str) (.ref D) (dZ "places" (.ref p) []);exists _,rfl,t,Z.c_Table,dx,dZ "lines" (.ref D) (dZ "places" (.ref p) []),rfl,s5 _ _ et2,TBx.cl,TBx.nA,(),?_;have et5:=s5 _ _ et2;have x3:cK t H5 (upd H5 t (.ins Z.c_Table dx (mL p D a))):=λb o h nb=>by rw[aU nb];exact h
 refine q _ (λb o h nb=>x3 _ _ (s5 _ _ (x2 _ _ (sZ _ _ (x1 _ _ h nb)) nb)) nb) ⟨dx,p,D,a,zs,ys,aB,x3 _ _ (s5 _ _ ep3) (Ne.symm ntp),x3 _ _ (s5 _ _ eD3) (Ne.symm ntD),qj4 et5 x3 (G3.same s5),x3 _ _ ea (Ne.symm nta),cK.fqsI et5 x3 (hF3.same s5),λz=>?_,λz=>?_,λz=>?_,λx hx=>(nZ x hx).2⟩
 .obtain⟨_,e⟩:=lav _ z;rw[e] at hp;cases hp
 .obtain⟨_,e⟩:=lav _ z;rw[x1 _ _ e (λz=>by rw[z,ht] at e;cases e)] at hD;cases hD
 .obtain⟨_,e⟩:=lav _ z;rw[x2 _ _ (sZ _ _ (x1 _ _ e (λz=>by rw[z,ht] at e;cases e))) (λz=>by rw[z,ht] at e;cases e)] at ha;cases ha
theorem R50:FZ CX0 1 Z.f50 Z.d50 ["self"] (uE Z.c_Table Z.K):=by
 refine F50.ok9 qh9 λ_ _ _ s H _ Q E hr h=>?_;obtain⟨t,es,X,cs,rfl,⟨⟨dx,p,l,a,us,ys,ht,hp,hU,hL0,ha,hC⟩⟩,h100,q⟩:=h;refine⟨_,(aG (aY (cU (nl:=1) (fr:=[]) (Nc:=["line"]) (cl:=[]) rfl ⟨rfl,rfl,∅,∅,λx c h=>(by cases h),cG rfl,rfl,λi n h=>(by simp at h)⟩
    (bZ (cT (pv 0) rfl)) (λ_ _ _ _ _=>(qQ0 (i:=0) tW)) (λ_ _ _ _ _=>cC)
    (λ_ _ _ _ _=>(cS (jY (K:=Z.K) rfl) rfl n_list PyProof.Rows.boot_list (aA (pv 0) aC)))))),?_⟩
 exists _,rfl,t,Z.c_Table,_,_,_,rfl,ht,TBx.cl,TBx.nL,uA _ _ _,l,rfl,⟨_,hU⟩,λD hD=>?_;have sD:=aE hD (.lst []);refine cB (xs:=us) (λi zs H'=>aP H H'/\H' D=some (.lst zs)/\LnH Z.K H' zs (X.take i)/\∀x∈zs,x≠.ref D/\∃b,x=.ref b/\H b=none) ⟨sD,aB,by rw[take_zero];exact .nil,λx hx=>by cases hx⟩ (λi zs H' h=>h.2.1) (λi zs H' _ h=>h.1.seq hU) ?_ ?_
 .rintro i zs x H2 hx ⟨s2,e2,G2,n2⟩ C' hC';have hi:i < X.length:=by have:=(List.getElem?_eq_some_iff.mp hx).1;have:=hL0.l;lia
  have hc:X[i]?=some X[i]:=getElem?_eq_getElem hi;obtain⟨ra,rx,rfl,era,Sra⟩:=(hL0.same s2).r i x _ hx hc;have lz:=G2.l;rw[length_take] at lz;exists bU.1,bU.2,dA ?_;exists _,rfl,ra,rx,rfl,.inl era,λL hL=>?_;obtain⟨H3',q,sL,eL⟩:=nw hL (.lst rx);rw[q];clear q;have e23:=sL _ _ e2;have nLK:L≠D:=Ne.symm (bA e2 hL);exists e23,aV (),hC' _ _ ⟨(s2.trans sL).change hD,aB,?_,λy hy=>?_⟩
  .rw[take_add_one,hc];refine((G2.same sL).snoc eL (Sra.same sL)).upd e23 λy hy=>?_;rcases mem_append.mp hy with z | z
   .exact(n2 y z).1
   .have:y=.ref L:=by simpa using z
    rw[this];exact λz=>nLK (by injection z)
  .rcases mem_append.mp hy with z | z
   .exact n2 y z
   .have:y=.ref L:=by simpa using z
    rw[this];exists λz=>nLK (by injection z),L,rfl,s2.free hL
 rintro zs HZ ⟨sZ,eZ,GZ,nZ⟩;rw[hL0.l,take_length] at GZ;exact q D zs HZ sZ hD eZ GZ nZ
theorem R51:FZ CX0 1 Z.f51 Z.d51 ["self"] (oJ Z.c_Table Z.K):=by
 refine F51.ok9 Pe λ_ _ _ s H _ Q E hr h=>?_;obtain⟨t,es,X,cs,rfl,⟨⟨dx,p,l,a,us,ys,ht,hp,hU,hL0,ha,hC⟩⟩,q⟩:=h;exists _,(aG (aY (cS cO rfl n_list PyProof.Rows.boot_list (aA (cT (pv 0) rfl) aC)))),?_;exists _,rfl,t,Z.c_Table,_,_,_,rfl,ht,TBx.cl,TBx.nA,zW _ _ _,a,_,rfl,.inl ha,λa' ha'=>?_;have sa:=aE ha' (.lst ys);exact q a' _ _ sa ha' aB (hC.same sa)
theorem R52:FZ CX0 1 Z.f52 Z.d52 ["self"] (Cb Z.c_Table Z.K):=by
 refine F52.ok9 Vx λ_ _ _ s H _ Q E hr h=>?_;obtain⟨t,es,X,cs,rfl,⟨⟨dx,p,l,a,us,ys,ht,hp,hU,hL0,ha,hC⟩⟩,q⟩:=h;exists _,(aG (aY (cS cO rfl n_list PyProof.Rows.boot_list (aA (cT (pv 0) rfl) aC)))),?_;exists _,rfl,t,Z.c_Table,_,_,_,rfl,ht,TBx.cl,TBx.nP,zT _ _ _,p,_,rfl,.inl hp,λa' ha'=>?_;exact q a' _ (aE ha' _) ha' aB
theorem Y53:DZ 5 Z.f53 Z.d53 ["line","heights"] (Bw Z.K) "along":=by
 exists ?_,F53.b2 _ _ (by intros;rfl),F53.kp,m53
 refine F53.ok9 Wp λ_ _ _ s H _ Q E hr h=>?_;obtain⟨a,b,xs,ys,ps,qs,n,m,rfl,ha,hp,hb,hq,LP,LQ,hl,h10,hn,q⟩:=h;have r3:=hr.mono (show 3<=4 by lia);rw[Nat.mul_succ] at hn;refine⟨_,(aG (aY (d9 Y12 hr rfl (aA (cU (nl:=2) (fr:=[]) (Nc:=["number","height"]) (cl:=[]) (g:=(Ez Z.K 2 (jK (iB 0) (jK (iB 1) Di)))) rfl ⟨rfl,rfl,∅,∅,λx c h=>(by cases h),cG rfl,rfl,λi n h=>(by simp at h)⟩
    (lD rfl n_zip rfl (aA (pv 0) (aA (pv 1) aC))) (λ_ _ _ _ _=>(gC rfl (bO (qQ0 (i:=0) kL) (bO (qQ0 (i:=1) kL) eO)))) (λ_ _ _ _ _=>cC)
    (λ_ _ _ _ _=>(d9 Y10 r3 rfl (aA (pv 0) (aA (pv 1) aC))))) aC)))),?_⟩
 exists _,rfl,_,rfl,a,b,rfl,⟨_,ha⟩,⟨_,hb⟩,λD hD=>?_;have sD:=aE hD (.lst []);have lx:=hp.length;have ly:=hq.length;refine kF (xs:=xs) (ys:=ys) (λi zs H'=>aP H H'/\H' D=some (.lst zs)/\Fqs Z.K H' zs ((Au ps qs).take i)) ⟨sD,aB,.nil⟩ (λi zs H' h=>h.2.1) (λi zs H' _ h=>⟨h.1.seq ha,h.1.seq hb⟩) ?_ ?_
 .rintro i zs x y H1 T1 ex ey ⟨s1,e1,F1⟩ hT C hC;have hi:i < ps.length:=by have:=(List.getElem?_eq_some_iff.mp ex).1;lia
  obtain⟨u,p,rfl,ep,fu⟩:=hp.get ex;obtain⟨v,p',rfl,ep',fv⟩:=hq.get ey;rw[dP hi] at ep;rw[dP (show i < qs.length by lia)] at ep'
  cases ep
  cases ep'
  have lz:=F1.length;rw[length_take,kR hl] at lz;have sT:=aE hT (.tup [.ref u,.ref v]);exists T1,_,rfl,SqT.of aB,rfl,_,_,rfl,_,_,rfl,rfl,jR.1,jR.2,dA ?_;generalize upd H1 T1 (.tup [.ref u,.ref v])=H2 at sT ⊢;obtain⟨a1,a2⟩:=LP.at hi;obtain⟨b1,b2⟩:=LQ.at (i:=i) ();exists _,rfl,_,rfl,u,v,_,_,n,m,rfl,(s1.trans sT).seqT fu,(s1.trans sT).seqT fv,a1.pos,b1.pos,a2,b2,(),λr H3 s3 e3=>?_;have eA:=s3 _ _ (sT _ _ e1);exists eA,aV (),hC _ _ ⟨(s1.trans (sT.trans s3)).change hD,aB,?_⟩;rw[take_add_one,Ai hl hi];exact((F1.same (sT.trans s3)).app (.cons (Fq.of e3) .nil)).upd eA
 rintro zs H1 ⟨s1,e1,F1⟩;rw[lx,ly,<- hl,Nat.min_self,take_of_length_le (by rw[kR hl];lia)] at F1;have W:=Pd (ps:=Au ps qs) (n:=n+m) (λp h=>(oB LP LQ hl p h).2);rw[kR hl] at W;exists D,zs,_,_,rfl,SqL.of e1,F1,λp h=>(oB LP LQ hl p h).1.pos,W,(),λr H2 s2 f2=>q r H2 (s1.trans s2) f2
theorem R54:FZ CX0 6 Z.f54 Z.d54 ["self","heights"] (nY Z.c_Table Z.K):=by
 refine F54.ok9 Np λ_ _ _ s H _ Q E hr h=>?_;obtain⟨t,b,es,X,cs,hs,ys,n,m,w',rfl,⟨⟨dx,p,l,a,us,zc,ht,hp,hU,hL0,ha,hC⟩⟩,TO,hb,fh,LH,lh,hn,q⟩:=h;have r3:=hr.mono (show 3<=5 by lia);refine⟨_,(aG (aY (cU (nl:=2) (fr:=[1]) (Nc:=["line","arrival","heights"]) (cl:=[("heights",s.heap.objs.size+1)]) (g:=(Ez Z.K 2 (jK (iB 0) (jK (iB 1) Di)))) rfl ⟨rfl,rfl,∅,∅,λx c h=>h,cG rfl,rfl,λi n h=>match i,h with | 0,h=>by cases h;exact⟨1,rfl,rfl,rfl,rfl,.inl rfl⟩ | k+1,h=>by rw[show 2+(k+1)=k+3 by lia] at h;cases h⟩
    (lD rfl n_zip rfl (aA (cT (pv 0) rfl) (aA (cT (pv 0) rfl) aC))) (λ_ _ _ _ _=>(gC rfl (bO (qQ0 (i:=0) gN) (bO (qQ0 (i:=1) gN) eO)))) (λ_ _ _ _ _=>cC)
    (λ_ _ _ _ _=>(d9 Y7 r3 rfl (aA (d9 Y53 hr rfl (aA (pv 0) (aA (pv 2) aC))) (aA (pv 1) aC))))))),?_⟩
 exists _,rfl,t,Z.c_Table,_,_,_,rfl,ht,TBx.cl,TBx.nL,uA _ _ _,_,rfl,t,Z.c_Table,_,_,_,rfl,ht,TBx.cl,TBx.nA,zW _ _ _,l,a,rfl,⟨_,hU⟩,⟨_,ha⟩,λD hD=>?_;have sD:=aE hD (.lst []);have lu:=hL0.l;have lX:=TO.lX;have lc:=TO.lc;have w8:=TO.w8;have lz0:=hC.length;refine kF (xs:=us) (ys:=zc) (λi zs H'=>aP H H'/\H' D=some (.lst zs)/\Fqs Z.K H' zs ((brL X cs hs).take i)) ⟨sD,aB,.nil⟩ (λi zs H' h=>h.2.1) (λi zs H' _ h=>⟨h.1.seq hU,h.1.seq ha⟩) ?_ ?_
 .rintro i zs x y H1 T1 ex ey ⟨s1,e1,F1⟩ hT C hC';have hi:i < w':=by have:=(List.getElem?_eq_some_iff.mp ex).1;lia
  obtain⟨u,xs,rfl,hu,fu⟩:=hL0.r i x _ ex (iK ());obtain⟨v,p',rfl,ep',fv⟩:=hC.get ey;rw[dP (show i < cs.length by lia)] at ep'
  cases ep'
  have lz:=F1.length;rw[length_take,lM TO] at lz;have sT:=aE hT (.tup [.ref u,.ref v]);exists T1,_,rfl,SqT.of aB,rfl,_,_,rfl,_,_,rfl,rfl,jR.1,jR.2,dA ?_;generalize upd H1 T1 (.tup [.ref u,.ref v])=H2 at sT ⊢;have s2:=s1.trans sT;obtain⟨l1,l2⟩:=TO.lb hi;obtain⟨c1,c2⟩:=TO.cat hi;have dl:=Ky l2 LH ();have db:=Su l2 LH ();rw[l1] at db;exists _,rfl,_,rfl,u,b,xs,ys,_,hs,n,m,rfl,s2.seq hu,fu.same s2,s2.seq hb,fh.same s2,l2,LH,(),(),by rw[l1];exact hn,λr H3 s3 f3=>?_;have mb:=hn;rw[Nat.mul_succ] at mb;exists _,rfl,r,v,_,_,_,n,rfl,f3,s3.seqT (s2.seqT fv),dl.pos,c1.pos,db,c2,(),λr' H4 s4 e4=>?_;have eA:=s4 _ _ (s3 _ _ (sT _ _ e1));exists eA,aV (),hC' _ _ ⟨(s2.trans (s3.trans s4)).change hD,aB,?_⟩;rw[take_add_one,Om TO hs hi];exact((F1.same (sT.trans (s3.trans s4))).app (.cons (Fq.of e4) .nil)).upd eA
 rintro zs H1 ⟨s1,e1,F1⟩;rw[lu,lz0,lX,lc,Nat.min_self,take_of_length_le (by rw[lM TO];lia)] at F1;exact q D zs H1 s1 e1 F1
theorem Y55:DZ 1 Z.f55 Z.d55 ["matrix","places"] (qA Z.K) "picked":=by
 exists ?_,F55.b2 _ _ (by intros;rfl),F55.kp,m55
 refine F55.ok9 qh4 λ_ _ _ s H _ Q E hr h=>?_;obtain⟨g,l,us,X,ks,w',rfl,hU,hX,lX,wX,hK,hk,h100,q⟩:=h;refine⟨_,(aG (aY (Sr (nl:=1) (fr:=[1,0]) (Nc:=["line","places","matrix"]) (cl:=[("places",s.heap.objs.size+2),("matrix",s.heap.objs.size+1)]) (x0:="line") rfl ⟨rfl,rfl,∅,λ_=>rfl,λ_=>rfl,rfl,(Shp.bQ rfl (Shp.bQ rfl (Shp.dM))),λ_=>cG rfl,rfl,λi n h=>match i,h with | 0,h=>by cases h;exact⟨1,rfl,rfl,rfl,rfl,.inl rfl⟩ | 1,h=>by cases h;exact⟨0,rfl,rfl,rfl,rfl,.inl rfl⟩ | k+2,h=>by rw[show 1+(k+2)=k+3 by lia] at h;cases h⟩
    (bZ (pv 1)) (λ_ _ _ _ _=>(aR (i:=0) lW rfl (Or.inr rfl))) (λ_ _ _ _ _=>cC)
    (λC s3 H3 fp pins=>(cU (nl:=1) (fr:=[2,0]) (Nc:=["column","matrix","line"]) (cl:=[("matrix",s.heap.objs.size+1),("line",C+1)]) rfl ⟨rfl,rfl,∅,∅,(Shp.bQ rfl (Shp.bQ rfl (Shp.dM))),cG rfl,rfl,λi n h=>match i,h with | 0,h=>by cases h;exact⟨2,rfl,rfl,rfl,rfl,.inl rfl⟩ | 1,h=>by cases h;exact⟨0,rfl,rfl,rfl,rfl,.inl rfl⟩ | k+2,h=>by rw[show 1+(k+2)=k+3 by lia] at h;cases h⟩
    (Sb (K:=Z.K) rfl (pv 1)) (λ_ _ _ _ _=>(qQ0 (i:=0) lV)) (λ_ _ _ _ _=>cC)
    (λ_ _ _ _ _=>(aS (gF (K:=Z.K) rfl) (aS (gF (K:=Z.K) rfl) (pv 1) (pv 2) (λ_ _=>rfl)) (pv 0) (λ_ _=>rfl)))))))),?_⟩
 have ek:∀i x,(iA ks)[i]?=some x->i < ks.length/\x=.int (ks.getD i 0:Nat)/\ks[i]?=some (ks.getD i 0)/\ks.getD i 0 < w':=λi x h=>by
  rw[getElem?_map] at h
  cases e:ks[i]? with
  |none=>rw[e] at h;cases h
  |some k=>
   rw[e] at h
   cases h
   have g:ks.getD i 0=k:=by rw[getD_eq_getElem?_getD,e];rfl
   rw[g];exists (List.getElem?_eq_some_iff.mp e).1,rfl,rfl,hk k (mem_of_getElem? e)
 exists _,rfl,l,rfl,⟨_,hK⟩,λD hD=>?_;have sD:=aE hD (.lst []);refine cB (xs:=iA ks) (λi zs H'=>aP H H'/\H' D=some (.lst zs)/\LnH Z.K H' zs ((dB ks X).take i)/\∀x∈zs,x≠.ref D) ⟨sD,aB,by rw[take_zero];exact .nil,λx hx=>by cases hx⟩ (λi zs H' h=>h.2.1) (λi zs H' _ h=>h.1.seq hK) ?_ ?_
 .rintro i zs x H1 hx ⟨s1,e1,F1,n1⟩ C hC;obtain⟨hi,rfl,ei,li⟩:=ek i x hx;obtain⟨u,xs,eu,hu,fu⟩:=hX.at (iK (show ks.getD i 0 < X.length by lia));have wr:=wX _ (mem_of_getElem? (iK (show ks.getD i 0 < X.length by lia)));have lz:=F1.l;rw[length_take] at lz;have lp:(dB ks X).length=ks.length:=by unfold dB;simp
  rw[lp] at lz;exists bU.1,bU.2,dA ?_;exists _,rfl,l,rfl,⟨_,s1.seq hK⟩,λL hL=>?_;have sL:=aE hL (.lst []);refine cB (xs:=iA ks) (λj zs' H'=>aP H1 H'/\H' L=some (.lst zs')/\Fqs Z.K H' zs' ((ks.map λj=>Mq.ix2 X (ks.getD i 0) j).take j)) ⟨sL,aB,.nil⟩ (λj zs' H' h=>h.2.1) (λj zs' H' _ h=>h.1.seq (s1.seq hK)) ?_ ?_
  .rintro j zs' y H2 hy ⟨s2,e2,F2⟩ C' hC';obtain⟨hj,rfl,ej,lj⟩:=ek j y hy;obtain⟨v,ev,fv⟩:=fu.at (dP (show ks.getD j 0 < (X.getD (ks.getD i 0) []).length by lia));have lz':=F2.length;rw[length_take,length_map] at lz';exists bU.1,bU.2,dA ?_;have s02:=s1.trans s2;exists _,rfl,_,rfl,g,us,_,_,rfl,rfl,s02.seq hU,bY eu,_,rfl,u,xs,_,_,rfl,rfl,s02.seq hu,bY ev,?_;exists e2,aV (),hC' _ _ ⟨s2.change hL,aB,?_⟩;rw[take_add_one,getElem?_map,ej];exact(F2.app (.cons (s02.seqT fv) .nil)).upd e2
  rintro zs' H2 ⟨s2,e2,F2⟩;rw[length_map,take_of_length_le ⋯] at F2;have eA:=s2 _ _ e1;have nLD:L≠D:=λz=>by rw[z,e1] at hL;cases hL
  exists eA,aV (),hC _ _ ⟨(s1.trans s2).change hD,aB,?_,λz hz=>?_⟩
  .have:(dB ks X)[i]?=some (ks.map λj=>Mq.ix2 X (ks.getD i 0) j):=by unfold dB;rw[getElem?_map,ei];rfl
   rw[take_add_one,this];refine((F1.same s2).snoc e2 F2).upd eA λz hz=>?_;rcases mem_append.mp hz with c | c
   .exact n1 z c
   .have:z=.ref L:=by simpa using c
    rw[this];exact λc=>nLD (by injection c)
  .rcases mem_append.mp hz with c | c
   .exact n1 z c
   .have:z=.ref L:=by simpa using c
    rw[this];exact λc=>nLD (by injection c)
 rintro zs H1 ⟨s1,e1,F1,n1⟩;rw[length_map,take_of_length_le (by unfold dB;simp)] at F1;exact q D zs H1 s1 e1 F1
theorem Y56:DZ 5 Z.f56 Z.d56 ["table","ends"] (Ik Z.c_Table Z.K) "narrowed":=by
 exists ?_,F56.b2 _ _ (by intros;rfl),F56.kp,m56
 refine F56.ok9 Cw λ_ _ _ s H _ Q E hr h=>?_;obtain⟨t,b,m,kk,es,X,cs,av,rfl,TA,SQ,hb,hnd,hlt,lav,hLd,q⟩:=h;have r1:=hr.mono (show 1<=4 by lia);have r2:=hr.mono (show 2<=4 by lia);have hu:=Sl hr;refine⟨_,(aD (gJ (i:=2) (nl:=1) (fr:=[1]) (Nc:=["end","ends"]) (cl:=[("ends",s.heap.objs.size+2)]) Cw.nd rfl rfl rfl ⟨rfl,rfl,∅,∅,(bQ rfl (dM)),cG rfl,rfl,λi n h=>match i,h with | 0,h=>by cases h;exact⟨1,rfl,rfl,rfl,rfl,.inl rfl⟩ | k+1,h=>by rw[show 1+(k+1)=k+2 by lia] at h;cases h⟩
    (bZ (cT (pv 0) rfl)) (λ_ _ _ _ _=>(qQ0 (i:=0) Dp)) (λ_ _ _ _ _=>(pW (bG (iJ (K:=Z.K) rfl) (pv 0) (pv 1) rfl)))
    (λ_ _ _ _ _=>(pv 0)) rfl)
  (aD (gJ (i:=3) (nl:=1) (fr:=[0]) (Nc:=["point","table"]) (cl:=[("table",s.heap.objs.size+1)]) Cw.nd rfl rfl rfl ⟨rfl,rfl,∅,∅,(bQ rfl (dM)),cG rfl,rfl,λi n h=>match i,h with | 0,h=>by cases h;exact⟨0,rfl,rfl,rfl,rfl,.inl rfl⟩ | k+1,h=>by rw[show 1+(k+1)=k+2 by lia] at h;cases h⟩
    (bZ (aT mQ (pv 2) (pv 1))) (λ_ _ _ _ _=>(qQ0 (i:=0) vA)) (λ_ _ _ _ _=>cC)
    (λ_ _ _ _ _=>(qe6 (K:=Z.K) rfl PySem.F.plainAttrs_list PySem.F.slot_list_index PySem.F.type_list_index (Nn (K:=Z.K) rfl) (Lf (K:=Z.K) rfl (pv 1) rfl) (aA (pv 0) aC))) rfl)
  (aD (gJ (i:=4) (nl:=2) (fr:=[0]) (Nc:=["line","place","table"]) (cl:=[("table",s.heap.objs.size+1)]) (g:=(Ez Z.K 2 (jK (iB 0) (jK (iB 1) Di)))) Cw.nd rfl rfl rfl ⟨rfl,rfl,∅,∅,(bQ rfl (dM)),cG rfl,rfl,λi n h=>match i,h with | 0,h=>by cases h;exact⟨0,rfl,rfl,rfl,rfl,.inl rfl⟩ | k+1,h=>by rw[show 2+(k+1)=k+3 by lia] at h;cases h⟩
    (lD rfl n_zip rfl (aA (d9 Y55 r1 rfl (aA (cT (pv 0) rfl) (aA (pv 3) aC))) (aA (pv 3) aC))) (λ_ _ _ _ _=>(gC rfl (bO (qQ0 (i:=0) iT) (bO (qQ0 (i:=1) iT) eO)))) (λ_ _ _ _ _=>cC)
    (λ_ _ _ _ _=>(aT mQ (pv 0) (eU (aA (aS (gF (K:=Z.K) rfl) (Lf (K:=Z.K) rfl (pv 2) rfl) (pv 1) (λ_ _=>rfl)) aC)))) rfl)
  (aD (qQ1 (i:=5) Cw.nd (d9 Y44 hr rfl (aA (pv 4) (aA (bM bC rfl n_len PySem.boot_len (aA (pv 2) aC)) aC))))
  (aG (aY (oC MT R49 r2 rfl TBx.mT b49 .nil aM (aA (pv 1) (aA (cU (nl:=1) (fr:=[]) (Nc:=["line"]) (cl:=[]) rfl ⟨rfl,rfl,∅,∅,λx c h=>(by cases h),cG rfl,rfl,λi n h=>(by simp at h)⟩
    (bZ (pv 5)) (λ_ _ _ _ _=>(qQ0 (i:=0) tW)) (λ_ _ _ _ _=>cC)
    (λ_ _ _ _ _=>(gG (Dj (K:=Z.K) rfl) (pv 0) kO (gA (Cs uR aF))))) (aA (cU (nl:=1) (fr:=[]) (Nc:=["line"]) (cl:=[]) rfl ⟨rfl,rfl,∅,∅,λx c h=>(by cases h),cG rfl,rfl,λi n h=>(by simp at h)⟩
    (bZ (pv 5)) (λ_ _ _ _ _=>(qQ0 (i:=0) tW)) (λ_ _ _ _ _=>cC)
    (λ_ _ _ _ _=>(aS (gF (K:=Z.K) rfl) (pv 0) (Cs uR aF) (λ_ _=>rfl)))) aC)))))))))),?_⟩
 obtain⟨⟨dx,p,l,a,us,zc,ht,hp,hU,hL0,ha,hC⟩⟩:=TA;have m20:=SQ.m20;have lX:=SQ.lX;have lc:=SQ.lc;have li:=Ek m;obtain⟨LL,L1,LB,hX,hCs⟩:=SQ.r;have gi:∀{i:Nat} {x:V},((jO m).map V.int)[i]?=some x->i < m/\x=.int (i:Int):=λ{i x} h=>by
  have hl:=(List.getElem?_eq_some_iff.mp h).1;rw[length_map,li] at hl;rw[getElem?_map,Ac hl] at h
  cases h
  exists hl,rfl
 have le:=zZ hnd hlt;exists _,rfl,t,Z.c_Table,_,_,_,rfl,ht,TBx.cl,TBx.nP,zT _ _ _,p,rfl,⟨_,hp⟩,λD1 hD1=>?_;have sD1:=aE hD1 (.lst []);refine cB (xs:=(jO m).map V.int) (λi zs H'=>aP H H'/\H' D1=some (.lst zs)/\zs=iA (inn i es)) ⟨sD1,aB,rfl⟩ (λi zs H' h=>h.2.1) (λi zs H' _ h=>h.1.seq hp) ?_ ?_
 .rintro i zs x H1 hx ⟨s1,e1,rfl⟩ C hC;obtain⟨hi,rfl⟩:=gi hx;exists bU.1,bU.2,_,rfl,_,rfl,b,_,rfl,.inl (SqL.of (s1 _ _ hb)),rfl,iX _,?_;rw[kK];exists _,rfl,?_
  by_cases c:i∈es
  .rw[decide_eq_true (nU.mpr c)];refine L2.ifF rfl ?_;exact hC _ _ ⟨s1,e1,by rw[mC,if_pos c,append_nil]⟩
  .rw[decide_eq_false (λz=>c (nU.mp z))];refine L2.ifT rfl ?_;exists _,rfl,e1,aV (by rw[length_map];have:=mY i es;lia),hC _ _ ⟨s1.change hD1,aB,?_⟩;rw[mC,if_neg c];show _=map _ _;rw[map_append];rfl
 rintro zs1 H1 ⟨s1,e1,rfl⟩;rw[length_map,li] at e1;exists _,rfl,_,rfl,D1,b,_,_,rfl,rfl,e1,s1 _ _ hb,?_,λB hB=>?_
 .rw[length_map,length_map,length_map];exact Nat.le_trans (show _<=100 by lia) ∅
 have eo:iA (inn m es)++(ups es).map V.int=iA (inn m es++es):=by rw[iQ];show _=map _ _;rw[map_append]
 rw[eo];have lo:(inn m es++es).length=m:=by rw[List.length_append];exact le
 have om:∀i∈inn m es++es,i < m:=λi hi=>by
  rcases mem_append.mp hi with z | z
  .exact(dI.mp z).1
  .exact hlt i z
 generalize inn m es++es=od at lo om hLd q ⊢;have go:∀{i:Nat} {x:V},(iA od)[i]?=some x->i < m/\x=.int ((od.getD i 0:Nat):Int)/\od.getD i 0 < m:=λ{i x} h=>by
  have hl:=(List.getElem?_eq_some_iff.mp h).1;rw[length_map] at hl;have e:=getElem?_eq_getElem hl;rw[getElem?_map,e] at h
  cases h
  have e2:od.getD i 0=od[i]:=by rw[getD_eq_getElem?_getD,e];rfl
  rw[e2];exists (),rfl,om _ (getElem_mem hl)
 obtain⟨H2,q,s2,e2⟩:=nw hB (.lst (iA od));rw[q];clear q;have s02:=s1.trans s2;exists B,rfl,⟨_,SqL.of e2⟩,λD3 hD3=>?_;have sD3:=aE hD3 (.lst []);refine cB (xs:=iA od) (λi zs H'=>aP H2 H'/\H' D3=some (.lst zs)/\zs=(iA od).take i) ⟨sD3,aB,rfl⟩ (λi zs H' h=>h.2.1) (λi zs H' _ h=>h.1.seq (SqL.of e2)) ?_ ?_
 .rintro i zs x H3 hx ⟨s3,e3,rfl⟩ C hC;have hx0:=hx;obtain⟨hi,rfl,ho⟩:=go hx;have s03:=s02.trans s3;exists bU.1,bU.2,dA ?_;exists _,rfl,t,Z.c_Table,_,_,_,rfl,s03 _ _ ht,TBx.cl,TBx.nP,zT _ _ _,.inl ⟨rfl,_,s03.seq hp⟩,_,rfl,p,jO m,_,rfl,rfl,s03.seq hp,Da ho,Ci (λe he=>?_) (),?_
  .obtain⟨j,hj,rfl⟩:=mem_map.mp he;have:=mem_range.mp hj;lia
  rw[Qh ho];exists e3,aV (by rw[length_take,length_map];lia),hC _ _ ⟨s3.change hD3,aB,?_⟩;rw[take_add_one,hx0];rfl
 rintro zs3 H3 ⟨s3,e3,rfl⟩;rw[take_of_length_le (Nat.le_refl _)] at e3;have s03:=s02.trans s3;exists _,rfl,t,Z.c_Table,_,_,_,rfl,s03 _ _ ht,TBx.cl,TBx.nL,uA _ _ _,_,rfl,l,D3,us,X,od,m,rfl,s03.seq hU,hL0.same s03,lX,λrow hr=>(hX row hr).1,SqL.of e3,om,(),λP zP H4 s4 e4 LP=>?_;have s04:=s03.trans s4;have lPz:zP.length=m:=by rw[LP.l];unfold dB;rw[length_map,lo]
 exists _,rfl,P,D3,rfl,⟨_,SqL.of e4⟩,⟨_,SqL.of (s4 _ _ e3)⟩,λD5 hD5=>?_;have sD5:=aE hD5 (.lst []);refine kF (xs:=zP) (ys:=iA od) (λi zs H'=>aP H4 H'/\H' D5=some (.lst zs)/\LnH Z.K H' zs ((znP od X cs).take i)/\∀x∈zs,x≠.ref D5) ⟨sD5,aB,by rw[take_zero];exact .nil,λx hx=>by cases hx⟩ (λi zs H' h=>h.2.1) (λi zs H' _ h=>⟨h.1.seq (SqL.of e4),h.1.seq (SqL.of (s4 _ _ e3))⟩) ?_ ?_
 .rintro i zs x y H5 T1 ex ey ⟨s5,e5,F5,n5⟩ hT C hC';obtain⟨hi,rfl,ho⟩:=go ey;have gX:(dB od X)[i]?=some (od.map λj=>Mq.ix2 X (od.getD i 0) j):=by
   unfold dB;rw[getElem?_map,getD_eq_getElem?_getD,getElem?_eq_getElem (show i < od.length by lia)];rfl
  obtain⟨u,xs,rfl,hu,fu⟩:=LP.r i x _ ex gX;generalize hod:od.getD i 0=oi at ho fu ⊢;obtain⟨v,ev,fv⟩:=hC.at (dP (show oi < cs.length by lia));have lz:=F5.l;rw[length_take,Bx] at lz;have sT:=aE hT (.tup [.ref u,.int (oi:Int)]);exists T1,_,rfl,SqT.of aB,rfl,_,_,rfl,_,_,rfl,rfl,jR.1,jR.2,dA ?_;generalize upd H5 T1 (.tup [.ref u,.int (oi:Int)])=H6 at sT ⊢;have s46:=s5.trans sT;have s06:=s04.trans s46;exists _,rfl,_,rfl,t,Z.c_Table,_,_,_,rfl,s06 _ _ ht,TBx.cl,TBx.nA,zW _ _ _,_,rfl,a,zc,_,_,rfl,rfl,s06.seq ha,bY ev,(zl9 1),λL hL=>?_;obtain⟨H7,q,sL,eL⟩:=nw hL (.lst [V.ref v]);rw[q];clear q;have lxs:=fu.length;rw[length_map,lo] at lxs;exists u,L,xs,[V.ref v],rfl,rfl,sL _ _ (s46 _ _ hu),eL,?_,λM hM=>?_
  .rw[lxs];exact Nat.le_trans (show _<=100 by simp only[length_cons,length_nil];lia) ∅
  obtain⟨H8,q,sM,eM⟩:=nw hM (.lst (xs++[V.ref v]));rw[q];clear q;have s58:=sT.trans (sL.trans sM);have eA:=s58 _ _ e5;have nMD:M≠D5:=λz=>by rw[z,sL _ _ (sT _ _ e5)] at hM;cases hM
  exists eA,aV (),hC' _ _ ⟨(s5.trans s58).change hD5,aB,?_,λz hz=>?_⟩
  .rw[take_add_one,Rs (show i < od.length by lia),hod];refine((F5.same s58).snoc eM ((fu.same (s5.trans s58)).app (.cons ((s04.trans (s5.trans s58)).seqT fv) .nil))).upd eA λz hz=>?_;rcases mem_append.mp hz with c | c
   .exact n5 z c
   .have:z=.ref M:=by simpa using c
    rw[this];exact λc=>nMD (by injection c)
  .rcases mem_append.mp hz with c | c
   .exact n5 z c
   .have:z=.ref M:=by simpa using c
    rw[this];exact λc=>nMD (by injection c)
 rintro zs5 H5 ⟨s5,e5,F5,n5⟩;rw[lPz,length_map,lo,Nat.min_self,take_of_length_le (by rw[Bx];lia)] at F5;have s05:=s04.trans s5;exists _,rfl,_,rfl,D1,_,rfl,.inl (SqL.of ((s2.trans (s3.trans (s4.trans s5))) _ _ e1)),?_;rw[length_map];exists D5,zs5,znP od X cs,m,(inn m es).length,m+1,kk,rfl,SqL.of e5,F5.lns,SQ.rd lo om (mY m es),hLd,λR zR Y R' pivot e' H6 s6 e6 LR yl yv len9 wid9 B9 bE bP=>?_;have s06:=s05.trans s6;have lR:=LR.l;have ye:Y.length=es.length:=by lia
 have e20:es.length<=20:=by lia
 have wY:∀{i:Nat} {r:List Mq.Q2},Y[i]?=some r->r.length=es.length+1:=λ{i r} h=>by
  have hi:=(List.getElem?_eq_some_iff.mp h).1;have ev:=yv i ();rw[getD_eq_getElem?_getD,h] at ev;have ev':r=YR (znP od X cs) R' (inn m es).length pivot i:=ev;rw[ev'];unfold YR;rw[length_map,length_drop,wid9 _ ()];lia
 exists _,rfl,_,rfl,R,rfl,⟨_,SqL.of e6⟩,λD7 hD7=>?_;have sD7:=aE hD7 (.lst []);refine cB (xs:=zR) (λi zs H'=>aP H6 H'/\H' D7=some (.lst zs)/\LnH Z.K H' zs ((Y.take i).map λr=>r.take es.length)/\∀x∈zs,x≠.ref D7) ⟨sD7,aB,by rw[take_zero];exact .nil,λx hx=>by cases hx⟩ (λi zs H' h=>h.2.1) (λi zs H' _ h=>h.1.seq (SqL.of e6)) ?_ ?_
 .rintro i zs x H7 hx ⟨s7,e7,F7,n7⟩ C hC';have hi:i < Y.length:=by have:=(List.getElem?_eq_some_iff.mp hx).1;lia
  obtain⟨u,xs,rfl,hu,fu⟩:=LR.r i x _ hx (getElem?_eq_getElem hi);have lxs:=fu.length;rw[wY (getElem?_eq_getElem hi)] at lxs;have lz:=F7.l;rw[length_map,length_take] at lz;exists bU.1,bU.2,dA ?_;exists _,rfl,_,rfl,_,rfl,u,xs,rfl,s7.seq hu,λL hL=>?_;rw[Oo xs (),show xs.length - 1=es.length by lia];obtain⟨H8,q,sL,eL⟩:=nw hL (.lst (xs.take es.length));rw[q];clear q;have eA:=sL _ _ e7;have nLD:L≠D7:=λz=>by rw[z,e7] at hL;cases hL
  have ft:=(fu.same (s7.trans sL)).take es.length;exists eA,aV (),hC' _ _ ⟨(s7.trans sL).change hD7,aB,?_,λz hz=>?_⟩
  .rw[take_add_one,getElem?_eq_getElem hi,map_append];refine((F7.same sL).snoc eL ft).upd eA λz hz=>?_;rcases mem_append.mp hz with c | c
   .exact n7 z c
   .have:z=.ref L:=by simpa using c
    rw[this];exact λc=>nLD (by injection c)
  .rcases mem_append.mp hz with c | c
   .exact n7 z c
   .have:z=.ref L:=by simpa using c
    rw[this];exact λc=>nLD (by injection c)
 rintro zs7 H7 ⟨s7,e7,F7,n7⟩;exists _,rfl,R,rfl,⟨_,SqL.of (s7 _ _ e6)⟩,λD8 hD8=>?_;have sD8:=aE hD8 (.lst []);refine cB (xs:=zR) (λi zs H'=>aP H7 H'/\H' D8=some (.lst zs)/\Fqs Z.K H' zs ((Y.take i).map λr=>r.getD es.length Mq.z0)) ⟨sD8,aB,by rw[take_zero];exact .nil⟩ (λi zs H' h=>h.2.1) (λi zs H' _ h=>h.1.seq (SqL.of (s7 _ _ e6))) ?_ ?_
 .rintro i zs x H8 hx ⟨s8,e8,F8⟩ C hC';have hi:i < Y.length:=by have:=(List.getElem?_eq_some_iff.mp hx).1;lia
  obtain⟨u,xs,rfl,hu,fu⟩:=LR.r i x _ hx (getElem?_eq_getElem hi);have lxs:=fu.length;rw[wY (getElem?_eq_getElem hi)] at lxs;obtain⟨v,ev,fv⟩:=fu.at (i:=es.length) (dP (show es.length < Y[i].length by rw[wY (getElem?_eq_getElem hi)];lia));have lz:=F8.length;rw[length_map,length_take] at lz;exists bU.1,bU.2,dA ?_;exists _,rfl,_,rfl,u,xs,-1,_,rfl,rfl,(s7.trans s8).seq hu,Vu (n:=es.length) () ev,?_;exists e8,aV (),hC' _ _ ⟨s8.change hD8,aB,?_⟩;rw[take_add_one,getElem?_eq_getElem hi,map_append];exact(F8.app (.cons ((s7.trans s8).seqT fv) .nil)).upd e8
 rintro zs8 H8 ⟨s8,e8,F8⟩;have lzR:=LR.l;rw[lzR,take_length] at F7 F8;have s08:=s06.trans (s7.trans s8);intro x dx' hx hdx ndx;have sN:aP H8 (upd (upd H8 dx' (.own x)) x (.ins Z.c_Table dx' [])):=Dx (K:=Z.K) hx hdx ndx;exists x,dx',b,D7,D8,ups es,zs7,zs8,_,_,rfl,aB,sN.seq (SqL.of (s08 _ _ hb)),sN.seq (SqL.of (s8 _ _ e7)),(F7.lns.same s8).same sN,?_,sN.seq (SqL.of e8),F8.same sN,av,λa ha=>(lav a ha).imp λ_ h=>sN _ _ (s08 _ _ h),λH9 s9 T9=>⟨rfl,q x Y R' pivot e' H9 (s08.trans (yG hx hdx ndx s9)) T9 ye (λj hj=>yv j ()) len9 wid9 B9 bE bP⟩;have:=F7.l;rw[length_map] at this;lia
theorem Y57:DZ 7 Z.f57 Z.d57 ["net","ends"] (Ge Z.c_Net Z.K) "loose_points":=by
 exists ?_,F57.b2 _ _ (by intros;rfl),F57.kp,m57
 refine F57.ok9 Cm λ_ _ _ s H _ Q E hr h=>?_;obtain⟨n,l,b,m,ds,es,rfl,nt,pt,mo,m20,h100,hb,hes,q⟩:=h;refine⟨_,(aD (qQ1 (i:=2) Cm.nd (eU aC))
  (aD (dY PassesOwn.never rfl (bZ (d9 Y35 hr rfl (aA (pv 0) aC))) (qQ0 (i:=3) Cm.nd)
   (aG (cN (dJ (cV (bM (Qd rfl) rfl n_any PyProof.Rows.boot_any (aA (cU (nl:=1) (fr:=[1]) (Nc:=["point","ends"]) (cl:=[("ends",s.heap.objs.size+1)]) rfl ⟨rfl,rfl,∅,∅,λx c h=>h,cG rfl,rfl,λi n h=>match i,h with | 0,h=>by cases h;exact⟨1,rfl,rfl,rfl,rfl,.inl rfl⟩ | k+1,h=>by rw[show 1+(k+1)=k+2 by lia] at h;cases h⟩
    (bZ (pv 3)) (λ_ _ _ _ _=>(qQ0 (i:=0) oP)) (λ_ _ _ _ _=>cC)
    (λ_ _ _ _ _=>(eP (Hk (K:=Z.K) rfl) (pv 0) (pv 1) rfl))) aC)))) (aG (cD (oQ PySem.F.plainAttrs_list PySem.F.slot_list_extend PySem.F.type_list_extend Mj (pv 2) (aA (pv 3) aC)))) bH)))
  (aG (aY (bM Ep rfl n_sorted PyProof.Rows.boot_sorted (aA (pv 2) aC)))))),?_⟩
 exists zl9 0,λL hL=>?_;obtain⟨H1,q,s1,eL⟩:=nw hL (.lst []);rw[q];clear q;dsimp only[iB];have hF:∃F57,F57=mk m ds:=⟨_,rfl⟩
 obtain⟨F0,hF0⟩:=hF;rw[<- hF0] at q;refine fB (λσ H'=>(∃z3,σ=[some (.ref n),some (.ref b),some (.ref L),z3])/\aP H H'/\H' L=some (.lst ((lsG F0 m (ups es) ((grp F0 m).map (·.2)).length).map V.int))) (λX hX=>?_) ?_
 .exists _,rfl,n,l,m,ds,rfl,nt.same s1,pt,mo,m20,h100,λg us H2 s2 ng eg Ig ne=>?_;rw[<- hF0] at Ig;have nL:∀{a:Addr},H1 a=none->a≠L:=λh z=>by rw[z,eL] at h;cases h
  exists g,rfl,⟨_,SqL.of eg⟩,?_;refine fQ (xs:=us) (λi σ H'=>(∃z3,σ=[some (.ref n),some (.ref b),some (.ref L),z3])/\aP H H'/\(∀c o,H2 c=some o->c≠L->H' c=some o)/\H' L=some (.lst ((lsG F0 m (ups es) i).map V.int))) ⟨⟨_,rfl⟩,s1.trans s2,λ_ _ h _=>h,by rw[s2 _ _ eL];rfl⟩ (λi σ H' _ h=>SqL.of (h.2.2.1 _ _ eg (nL ng))) ?_ ?_
  .rintro i x σ H3 hx ⟨⟨z3,rfl⟩,s3,x3,e3⟩;have hi:i < ((grp F0 m).map (·.2)).length:=by rw[<- Ig.l];exact(List.getElem?_eq_some_iff.mp hx).1
   obtain⟨a,rfl,na,ea⟩:=Ig.r i x _ hx (getElem?_eq_getElem hi);obtain⟨p0,pin,pl⟩:=qg7 (getElem_mem hi);have hg:=getElem?_eq_getElem hi;generalize ((grp F0 m).map (·.2))[i]=ps at ea p0 pin pl hg;have ea3:=x3 _ _ ea (nL na);exists _,rfl,a,rfl,⟨_,SqL.of ea3⟩,λD hD=>?_;have sD:=aE hD (.lst []);refine cB (xs:=ps.map V.int) (λk zs H'=>aP H3 H'/\H' D=some (.lst zs)/\zs=((ps.take k).map λy=>decide (y∈ups es)).map V.bl) ⟨sD,aB,rfl⟩ (λk zs H' h=>h.2.1) (λk zs H' _ h=>h.1.seq (SqL.of ea3)) ?_ ?_
   .rintro k zs x H4 hx' ⟨s4,e4,rfl⟩ C hC;have hk:k < ps.length:=by have:=(List.getElem?_eq_some_iff.mp hx').1;rwa [length_map] at this
    have hy:=getElem?_eq_getElem hk;rw[getElem?_map,hy] at hx'
    cases hx'
    have hb4:=s4 _ _ (s3 _ _ hb);exists bU.1,bU.2,dA ?_;exists _,rfl,_,rfl,b,_,rfl,.inl (SqL.of hb4),rfl,iX _,?_;rw[kK];exists e4,aV (by rw[length_map,length_map,length_take];lia),hC _ _ ⟨s4.change hD,aB,?_⟩;rw[take_add_one,hy,map_append,map_append];rfl
   rintro zs H4 ⟨s4,e4,rfl⟩;rw[length_map,take_length] at e4;have ap:(!((ps.map λy=>decide (y∈ups es)).any id))=apt (ups es) ps:=by unfold apt;rw[any_map];rfl
   exists D,_,rfl,SqL.of e4,_,rfl,?_;have x4:∀c o,H2 c=some o->c≠L->H4 c=some o:=λc o h n=>s4 _ _ (x3 c o h n);have e4L:=s4 _ _ e3;have s04:=s3.trans s4
   cases c:apt (ups es) ps with
   |false=>
    refine L2.ifF (by rw[<- c,<- ap];try rfl) ⟨⟨_,rfl⟩,s04,x4,?_⟩;rw[e4L,Dk hg,c,if_neg ∅,append_nil]
   |true=>
    refine L2.ifT (by rw[<- c,<- ap];try rfl) ?_;have ll:=Kk F0 m (ups es) i;exists _,rfl,.inl ⟨rfl,_,SqL.of e4L⟩,_,rfl,L,a,_,_,rfl,rfl,e4L,s4 _ _ ea3,?_,⟨_,rfl⟩,?_,λc' o h n=>by rw[aU n];exact x4 c' o h n,?_
    .rw[length_map,length_map];exact Nat.le_trans (show _<=100 by lia) ∅
    .exact s04.change hL
    .rw[aB,Dk hg,c,if_pos rfl,map_append]
  .rintro σ H3 ⟨⟨z3,rfl⟩,s3,x3,e3⟩;rw[Ig.l] at e3;exact hX _ _ ⟨⟨_,rfl⟩,s3,e3⟩
 rintro σ H2 ⟨⟨z3,rfl⟩,s2,e2⟩;have ll:=Kk F0 m (ups es) ((grp F0 m).map (·.2)).length;exists _,rfl,L,_,rfl,SqL.of e2,(),λl' ns' hl' pm st=>?_;rw[Yc hes pm st];exact q l' _ (s2.trans (aE hl' _)) aB
theorem R58:FZ (CX1 Z.P Z.w) 8 Z.f58 Z.d58 ["net","ends"] (Lh Z.c_Net Z.c_NoPoint Z.c_Held Z.c_Floats Z.K):=by
 refine F58.okX Jx (λvs H Q E h=>?_) λcdv A outer s H vs Q E hr h=>?_
 .obtain⟨_,_,_,_,_,rfl,_⟩:=h;rfl
 obtain⟨n,l,m,ds,x,rfl,nt,pt,mo,m20,h100,h⟩:=h;have r1:=hr.mono (show 1<=7 by lia);have r2:=hr.mono (show 2<=7 by lia);have r3:=hr.mono (show 3<=7 by lia);have r5:=hr.mono (show 5<=7 by lia);refine⟨_,(aD (cN (PW.pt (gM (dJ (cV (fH (i:=1) rfl (Or.inl rfl) bl.isi n_list rfl rfl PyProof.Rows.boot_list))) (gV (bG fK (bM bC rfl n_len PySem.boot_len (aA (pv 1) aC)) aF (bK _))))) (aG (wZ gH iW rfl rfl mc_NoPoint x1_NoPoint (aA dH aC))) bH)
  (aD (cD (aI R26 r3 rfl m26 F26.kp b26 .nil (nV gH iW) (aA (pv 1) (aA (cZ (pv 0) NTx.cl X4 R28 r1 b28 .nil aM) aC))))
  (aD (cN (bG yX (Hc rfl rfl n_len rfl n_set (pv 1)) (bM bC rfl n_len PySem.boot_len (aA (pv 1) aC)) (bK _)) (aG (wZ gH iW rfl rfl mc_NoPoint x1_NoPoint (aA dH aC))) bH)
  (aD (cD (aI R36 r5 rfl m36 F36.kp b36 .nil (nV gH iW) (aA (pv 0) aC)))
  (aD (qQ1 (i:=2) Jx.nd (aI Y57.G hr rfl m57 F57.kp Y57.b .nil aM (aA (pv 0) (aA (pv 1) aC))))
  (aG (cN (bG Cz (bM bC rfl n_len PySem.boot_len (aA (pv 2) aC)) aF (bK _)) (aG (yB gH iW rfl rfl mc_Floats qIF R1 r2 b1 (aA (pv 2) aC))) bH))))))),?_⟩
 obtain⟨dn,hn⟩:=nt.ob;rcases h with ⟨hbad,qE⟩ | ⟨b',es,rfl,hb,ge,qH,qF',q⟩
 .rcases hbad with ⟨ty,h1,h2⟩ | ⟨b',xs,rfl,hbS,x60,hA,hbad⟩
  .exists _,ty,false,rfl,h1,h2,_,rfl,dA ?_;refine dA ?_;exists zl9 1,qE H (aP.refl H)
  exists _,_,true,rfl,.lst hbS,rfl,_,rfl,dE ⟨_,rfl,b',_,rfl,.inl hbS,rfl,_,rfl,?_⟩
  by_cases hx:xs=[]
  .subst hx;refine L2.ifT rfl ?_;exists zl9 1,qE H (aP.refl H)
  refine L2.ifF (decide_eq_false λz=>hx ?_) ?_
  .injection z with z
   exact length_eq_zero_iff.mp ()
  exists _,rfl,_,rfl,n,dn,_,rfl,hn,fD _ _ ∅ ∅,n,l,_,ds,rfl,nt,b',xs,_,rfl,hbS,(),hA,λhall H1 s1=>?_,λ_ H1 s1=>qE H1 s1;obtain⟨ns,rfl,nnd⟩:=(hbad.resolve_left hx).resolve_left (by rw[hall];decide);rw[length_map] at x60;exists _,rfl,b',ns,rfl,s1.seq hbS,(),_,rfl,b',_,rfl,.inl (s1.seq hbS),_,_,rfl,rfl,_,rfl,L2.ifT ?_ ?_
  .rw[length_map];refine decide_eq_true ?_;have:=uT ns;have:(ddl ns).length≠ns.length:=λz=>nnd (qb7 ns z);lia
  .exists zl9 1,qE H1 s1
 have hbS:=SqL.of (K:=Z.K) hb;obtain⟨el,em⟩:=iY ge;have lu:(ups es).length=es.length:=length_map ..;exists _,_,true,rfl,.lst hbS,rfl,_,rfl,dE ⟨_,rfl,b',_,rfl,.inl hbS,rfl,_,rfl,L2.ifF ?_ ?_⟩
 .rw[length_map,lu];exact decide_eq_false (λz=>by injection z;lia)
 exists _,rfl,_,rfl,n,dn,_,rfl,hn,fD _ _ ∅ ∅,n,l,_,ds,rfl,nt,b',_,_,rfl,hbS,by rw[length_map,lu];lia,λy hy=>?_,λ_ H1 s1=>?_,λz=>absurd z (by rw[qh1 ge.lt];decide)
 .obtain⟨j,hj,rfl⟩:=mem_map.mp hy;exact .inl ⟨j,rfl⟩
 exists _,rfl,b',ups es,rfl,s1.seq hbS,(),_,rfl,b',_,rfl,.inl (s1.seq hbS),_,_,rfl,rfl,_,rfl,L2.ifF ?_ ?_
 .rw[qc6 (qa9 ge.nd),length_map (f:=V.int)];exact decide_eq_false ()
 exists _,rfl,n,l,_,ds,rfl,nt.same s1,h100,λnh H2 s2=>?_,qH.same s1;have s02:=s1.trans s2;exists _,rfl,_,rfl,n,l,b',m,ds,es,rfl,nt.same s02,pt,mo,m20,h100,s02 _ _ hb,ge.lt,λl' H3 s3 e3=>?_;have s03:=s02.trans s3;exists _,rfl,l',_,rfl,.inl (SqL.of e3),_,_,rfl,rfl,_,rfl,?_;have q:=q nh;have qF':=qF' nh;have lp:(lsP (mk m ds) m es).length<=m:=by
  have:=length_filter_le (λp=>es.all λe=>decide (mk m ds e≠mk m ds p)) (List.range m);rw[length_range] at this;exact this
 generalize lsP (mk m ds) m es=ps at q qF' e3 lp ⊢
 by_cases c:ps=[]
 .subst c;exact L2.ifF rfl (q rfl H3 s03)
 .refine L2.ifT (decide_eq_true ?_) ?_
  .rw[length_map,length_map];have:ps.length≠0:=λz=>c (length_eq_zero_iff.mp z);lia
  exists _,rfl,zl9 1,λx hx=>?_;have sx:=aE hx (lU x (.ref Z.c_Floats) none);exists x,l',_,rfl,aB,SqL.of (sx _ _ e3),by rw[length_map,length_map];lia,λdx l4 H4 ndx nl4 ne1 ne2 keep ex ed4 el4=>⟨rfl,some dx,ex,?_⟩;exact qF' c dx l4 _ (yF s03 hx keep) (by rw[kE ne1];exact ed4) (by rw[kE ne2];exact el4)
theorem X6:aJ Z.P Z.w Z.K Z.mg ZB CX0 1 Z.f49 Z.d49 ["self","ends","matrix","comes"] (Af Z.c_Table Z.K):=Sn R49
theorem Y59:DZ 7 Z.f59 Z.d59 ["net"] (Ar Z.c_Net Z.c_Table Z.K) "table_of_all":=by
 exists ?_,F59.b1 _ (by intros;rfl),F59.kp,m59
 refine F59.ok9 uU λ_ _ _ s H _ Q E hr h=>?_;obtain⟨n,l,m,k,b,ds,X,cs,rfl,nt,hK,nh,h40,hbig,SQ,hM,hRv,q⟩:=h;have r1:=hr.mono (show 1<=6 by lia);have r2:=hr.mono (show 2<=6 by lia);have r4:=hr.mono (show 4<=6 by lia);have r5:=hr.mono (show 5<=6 by lia);refine⟨_,(aD (aW (i:=1) uU.nd rfl (Or.inr rfl) (cZ (pv 0) NTx.cl X4 R28 r1 b28 .nil aM))
  (aD (gJ (i:=2) (nl:=1) (fr:=[1]) (Nc:=["point","many"]) (cl:=[("many",s.heap.objs.size+1)]) uU.nd rfl rfl rfl ⟨rfl,rfl,∅,∅,λx c h=>h,cG rfl,rfl,λi n h=>match i,h with | 0,h=>by cases h;exact⟨1,rfl,rfl,rfl,rfl,.inl rfl⟩ | k+1,h=>by rw[show 1+(k+1)=k+2 by lia] at h;cases h⟩
    (fE rfl n_range (aA (pv 1) aC)) (λ_ _ _ _ _=>(qQ0 (i:=0) oM)) (λ_ _ _ _ _=>cC)
    (λ_ _ _ _ _=>(aT Ap (eU (aA (gK (v:=.ref Z.aN) rfl mv_NOUGHT rfl) aC)) (pv 1))) rfl)
  (aD (qQ1 (i:=3) uU.nd (aT Ap (eU (aA (gK (v:=.ref Z.aN) rfl mv_NOUGHT rfl) aC)) (pv 1)))
  (aD (dY PassesOwn.never rfl (bZ (cZ (pv 0) NTx.cl X5 R32 r4 b32 .nil aM)) (qQ0 (i:=4) uU.nd)
   (aG (cN (bG fK (kH (pv 4) T.cl mW GW r1 bW .nil aM) dH (bK _)) (aG (cD (d9 Y47 hr rfl (aA (pv 2) (aA (pv 4) aC))))) (aG (cD (d9 Y48 r5 rfl (aA (pv 3) (aA (pv 4) aC))))))))
  (aG (aY (oC MT X6 r2 rfl TBx.mT b49 .nil aM (aA (pS rfl rfl n_list rfl n_range (aA (pv 1) aC)) (aA (pv 2) (aA (pv 3) aC)))))))))),?_⟩
 have hm20:=SQ.m20;have hm1:=SQ.m1;obtain⟨dx,hn⟩:=nt.ob;exists _,rfl,n,dx,_,rfl,hn,fD _ _ ∅ ∅,n,l,_,ds,rfl,nt,?_;obtain⟨W,hW⟩:∃W:Nat,W=m:=⟨_,rfl⟩
 have eW:(m:Int)=(W:Int):=by rw[hW]
 show lT _ _ _ [some (.ref n),some (.int (m:Int)),none,none,none] H;rw[eW];have hW60:W<=60:=by lia
 have hmW:m<=W:=by lia
 obtain⟨H2,hH2⟩:∃H2:Hp,H2=H:=⟨_,rfl⟩
 have s12:aP H H2:=by rw[hH2];exact aP.refl _
 rw[<- hH2];exists _,rfl,(W:Int),rfl,(),(),λD hD=>?_;rw[Int.toNat_natCast];have sD:=aE hD (.lst []);refine fV (n:=W) (λi zs H'=>aP H2 H'/\H' D=some (.lst zs)/\∃as:List Addr,zs=as.map V.ref/\as.length=i/\as.Nodup/\D∉as/\(∀b∈as,H2 b=none)/\∀b∈as,H' b=some (.lst (replicate W (.ref Z.aN)))) ⟨sD,aB,[],rfl,rfl,nodup_nil,⋯,(λb hb=>by cases hb),(λb hb=>by cases hb)⟩ (λi zs H' h=>h.2.1) ?_ ?_
 .rintro i zs H3 hi ⟨s3,e3,as,rfl,la,nd,nD,fr,al⟩ C hC;exists bU.1,bU.2,dA ?_;exists zl9 1,λl1 hl1=>?_;obtain⟨H4,q,s4,e4⟩:=nw hl1 (.lst [.ref Z.aN]);rw[q];clear q;exists _,rfl,l1,(W:Int),[.ref Z.aN],rfl,rfl,e4,(),(),?_,λb hb=>?_
  .rw[Int.toNat_natCast,sizeLine_eq];simp only[length_cons,length_nil];lia
  rw[Int.toNat_natCast,nC];obtain⟨H5,q,s5,e5⟩:=nw hb (.lst (replicate W (.ref Z.aN)));rw[q];clear q;have s35:=s4.trans s5;have e35:=s35 _ _ e3;have nbD:b≠D:=Ne.symm (bA (s4 _ _ e3) hb);have nba:b∉as:=λz=>by rw[s4 _ _ (al b z)] at hb;cases hb
  exists e35,aV (by rw[length_map];lia),hC _ _ ⟨(s3.trans s35).change hD,aB,as++[b],by rw[map_append];rfl,by rw[List.length_append,la];rfl,?_,?_,λc hc=>?_,λc hc=>?_⟩
  .rw[nodup_append];exists nd,⋯,λx hx y hy z=>?_;have:y=b:=by simpa using hy
   exact nba (by rw[<- this,<- z];exact hx)
  .intro z;rcases mem_append.mp z with z | z
   .exact nD z
   .have:D=b:=by simpa using z
    exact nbD this.symm
  .rcases mem_append.mp hc with z | z
   .exact fr c z
   .have:c=b:=by simpa using z
    rw[this];exact(s3.trans s4).free hb
  .rcases mem_append.mp hc with z | z
   .rw[aU (λy=>nD (by rw[<- y];exact z))];exact s35 _ _ (al c z)
   .have:c=b:=by simpa using z
    rw[this,aU nbD];exact e5
 rintro zs3 H3 ⟨s3,e3,as,rfl,la,nd,nD,fr,al⟩;have mx3:Mx Z.K H3 D as (replicate W (replicate W (0,1))):=⟨e3,nd,nD,by rw[la,length_replicate],λi b ps h1 h2=>by
  rw[eq_of_mem_replicate (mem_of_getElem? h2)];exact⟨_,al b (mem_of_getElem? h1),mE (fN _) W⟩⟩
 have nDH:H2 D=none:=hD;exists zl9 1,λl1 hl1=>?_;obtain⟨H4,q,s4,e4⟩:=nw hl1 (.lst [.ref Z.aN]);rw[q];clear q;exists _,rfl,l1,(W:Int),[.ref Z.aN],rfl,rfl,e4,(),(),?_,λR hR=>?_
 .rw[Int.toNat_natCast,sizeLine_eq];simp only[length_cons,length_nil];lia
 rw[Int.toNat_natCast,nC];obtain⟨H5,q,s5,e5⟩:=nw hR (.lst (replicate W (.ref Z.aN)));rw[q];clear q;have s25:=s3.trans (s4.trans s5);have nRH:H2 R=none:=(s3.trans s4).free hR;have nRD:R≠D:=Ne.symm (bA ((s4) _ _ mx3.d) hR);have nRa:R∉as:=λz=>by rw[s4 _ _ (al R z)] at hR;cases hR
 have mx5:=(mx3.same s4).same s5;have allN:∀b∈R :: as,H2 b=none:=λb hb=>by
  rcases mem_cons.mp hb with z | z
  .rw[z];exact nRH
  .exact fr b z
 have F5:Fqs Z.K H5 (replicate W (.ref Z.aN)) (replicate W (0,1)):=mE (fN _) W;have s25':=s12.trans s25;obtain⟨dx5,hn5⟩:=(nt.same s25').ob;have nt5:=nt.same s25';rw[eW] at nt5;exists _,rfl,n,dx5,_,rfl,hn5,fD _ _ ∅ ∅,n,l,_,ds,rfl,nt5,(),λa xs H5r s5r na ea Rb=>?_;have lxs:=Rb.length;have s2r:=s25.trans s5r;have mx5r:=mx5.same s5r;have F5r:=F5.same s5r;obtain⟨NB,hNB⟩:∃NB,NB=4*k+20:=⟨_,rfl⟩
 rw[<- hNB] at hbig;have lsR:kQ (R :: as) H5r:=λc hc=>by
  rcases mem_cons.mp hc with z | z
  .rw[z];exists _,s5r _ _ e5
  .exact mx5r.lsts c z
 have naA:a∉R :: as:=λz=>by
  obtain⟨_,h1⟩:∃xs,H5 a=some (.lst xs):=by
   rcases mem_cons.mp z with z | z
   .rw[z];exists _,e5
   .exact mx5.lsts a z
  rw[h1] at na;cases na
 exists a,rfl,⟨_,SqL.of ea⟩,?_;refine fQ (xs:=xs) (λi σ H'=>SX (R :: as) H5r H'/\∃(M:List (List Mq.Q2)) (ys:List V) (rs:List Mq.Q2) (z7:Option V),σ=[some (.ref n),some (.int (W:Int)),some (.ref D),some (.ref R),z7]/\Mx Z.K H' D as M/\MxB M W W (NB*i+1)/\H' R=some (.lst ys)/\Fqs Z.K H' ys rs/\LnB rs W (NB*i+1)/\(∀x y,Mq.val (jX M x y)=eqM m (ds.take i) x y)/\∀x,Mq.val (rs.getD x (0,1))=eqR m (ds.take i) x) ⟨(aP.refl _).sx,_,_,_,none,rfl,mx5r,Vj W,s5r _ _ e5,F5r,Uz W,λx y=>by rw[Qe,Ku];rfl,λx=>by rw[oG,Ku];rfl⟩ (λi σ H' _ h=>SqL.of (h.1 _ _ ea naA)) ?_ ?_
 .rintro i x σ H6 hx ⟨s6,M,ys,rs,z7,rfl,mx,mb,eR,FR,lb,vM,vR⟩;have hi:i < ds.length:=by
   have:=(List.getElem?_eq_some_iff.mp hx).1;lia
  obtain⟨⟨k0,u,v,p⟩,hd⟩:∃d,ds[i]?=some d:=⟨_,getElem?_eq_getElem hi⟩
  obtain⟨y,z,ey,rw0,fz0⟩:=Rb.at hd;have ex:x=.ref y:=by rw[ey] at hx;exact(Option.some.inj hx).symm
  subst ex;obtain⟨rd,bp⟩:=hK _ (mem_of_getElem? hd);have lp:Low p:=rd.2.2.2.2.1;have bp:Mq.Bd k p:=bp;have ptm:gQ (m:Int) u v:=⟨rd.1,rd.2.1,rd.2.2.1,rd.2.2.2.1⟩
  have ptW:gQ (W:Int) u v:=by rw[<- eW];exact ptm
  have rw6:=SX.rw lsR s6 rw0;have fz6:Fq Z.K H6 z p:=SX.seqT lsR s6 fz0;obtain⟨dr,hy⟩:=id rw6;have et:ds.take (i+1)=ds.take i++[(k0,u,v,p)]:=by rw[take_add_one,hd];rfl
  have eN:NB*(i+1)+1=(NB*i+1)+NB:=by rw[Nat.mul_succ];lia
  have leN:NB*(i+1)<=NB*ds.length:=Nat.mul_le_mul_left _ hi;rw[Nat.mul_succ] at leN;have eM:∀x y,eqM m (ds.take (i+1)) x y=eqM m (ds.take i) x y+cM (k0,u,v,p) (m+tK (ds.take i)) x y:=λx y=>by rw[et,wS]
  have eRr:∀x,eqR m (ds.take (i+1)) x=eqR m (ds.take i) x+cR (k0,u,v,p) (m+tK (ds.take i)) x:=λx=>by rw[et,wT]
  rw[eN];have lst:=mx.lsts
  cases k0 with
  |pc=>
   have p0:0 < p.1:=rd.2.2.2.2.2.1 rfl;exists _,rfl,Kd.pc,y,dr,_,rfl,hy,(kG _ _ _ ∅ ∅ ∅),_,rfl,rfl,_,rfl,ifT (by show decide (V.str Kd.pc.wd=V.str Kd.pc.wd)=true;rw[gL];rfl) ?_;exists _,rfl,_,rfl,D,y,z,as,M,(.pc,u,v,p),W,NB*i+1,k,rfl,mx,mb,rw6,fz6,ptW,lp,p0,bp,(),λH7 sx7 mx7=>?_;obtain⟨mb7,v7⟩:=qk4 (d:=(.pc,u,v,p)) (h:=m+tK (ds.take i)) mb ptm hmW rfl lp p0 bp;have eR7:=sx7 _ _ eR nRa;exists s6.trans (sx7.mono λc hc=>mem_cons_of_mem _ hc),_,ys,rs,_,rfl,mx7,mb7.mono (),eR7,SX.fqs lst sx7 FR,lb.mono (),λx y=>by rw[v7,vM,eM],λx=>?_;rw[vR,eRr];show _=_+(0:Rat)
   rw[Rat.add_zero]
  |pu=>
   exists _,rfl,Kd.pu,y,dr,_,rfl,hy,(kG _ _ _ ∅ ∅ ∅),_,rfl,rfl,_,rfl,ifF (by show decide (V.str Kd.pu.wd=V.str Kd.pc.wd)=false;rw[gL];rfl) ?_;exists _,rfl,_,rfl,R,y,z,ys,rs,(.pu,u,v,p),W,NB*i+1,k,rfl,eR,FR,lb,rw6,fz6,ptW,lp,bp,(),λys' H7 sx7 eR7 F7=>?_;obtain⟨lb7,v7⟩:=ql4 (d:=(.pu,u,v,p)) (h:=m+tK (ds.take i)) lb ptm hmW rfl lp bp;have mx7:Mx Z.K H7 D as M:=⟨sx7 _ _ mx.d (by simp;exact Ne.symm nRD),mx.n,mx.nd,mx.la,λi' b ps h1 h2=>by
    obtain⟨ws,h,f⟩:=mx.r i' b ps h1 h2;refine⟨ws,sx7 _ _ h (by simp;exact λz=>nRa (by rw[<- z];exact mem_of_getElem? h1)),SX.fqs (as:=[R]) (λc hc=>?_) sx7 f⟩;have:c=R:=by simpa using hc
    exact⟨ys,by rw[this];exact eR⟩⟩
   refine⟨s6.trans (sx7.mono λc hc=>by have:c=R:=(by simpa using hc);rw[this];exact mem_cons_self ..),M,ys',_,_,rfl,mx7,mb.mono (),eR7,F7,lb7.mono (),λx y=>?_,λx=>by rw[v7,vR,eRr]⟩
   rw[vM,eM];show _=_+(0:Rat)
   rw[Rat.add_zero]
  |ho=>exact absurd rfl (nh _ (mem_of_getElem? hd))
 rintro σ H6 ⟨s6,M,ys,rs,z7,rfl,mx,mb,eR,FR,lb,vM,vR⟩;rw[lxs] at mb lb vM vR;rw[take_length] at vM vR;rw[hW] at mb lb;have eMX:=qk8 mb SQ.lX SQ.rX λi j hi hj=>by rw[vM];exact hM i j hi hj
 have eRC:=qj2 lb SQ.lc SQ.rc λi hi=>by rw[vR];exact hRv i hi
 rw[eMX] at mx;rw[eRC] at FR;have s0r:aP H H5r:=s12.trans s2r;have s06:aP H H6:=SX.same s0r s6 (λc hc=>by rw[<- hH2];exact allN c hc);rw[hW];exists _,rfl,m,rfl,(),λE hE=>?_;have sE:=aE hE (.lst ((List.range m).map λ(i:Nat)=>V.int (i:Int)));have eE:upd H6 E (.lst ((List.range m).map λ(i:Nat)=>V.int (i:Int))) E=some (.lst ((jO m).map V.int)):=by
  rw[aB];unfold jO;rw[map_map];rfl
 generalize upd H6 E (.lst ((List.range m).map λ(i:Nat)=>V.int (i:Int)))=H7 at sE eE ⊢;exists _,rfl,_,rfl,?_;intro x dx' hx hdx ndx;have sN:aP H7 (upd (upd H7 dx' (.own x)) x (.ins Z.c_Table dx' [])):=Dx (K:=Z.K) hx hdx ndx;have mx7:=mx.same sE;have lnX:Lns Z.K H7 (as.map V.ref) X:=⟨by rw[length_map];exact mx7.la,λi x ps h1 h2=>by
  rw[getElem?_map] at h1;obtain⟨b',hb',rfl⟩:=Option.map_eq_some_iff.mp h1;obtain⟨ws,h,f⟩:=mx7.r i b' ps hb' h2;exact⟨b',ws,rfl,SqL.of h,f⟩⟩
 exists x,dx',E,D,R,jO m,as.map V.ref,ys,_,_,rfl,aB,sN.seq (SqL.of eE),sN.seq (SqL.of mx7.d),lnX.same sN,?_,sN.seq (SqL.of (sE _ _ eR)),(FR.same sE).same sN,λH9 s9 T9=>⟨rfl,q x H9 ((s06.trans sE).trans (yG hx hdx ndx s9)) T9⟩;rw[length_map,la];lia
theorem R60:FZ (CX1 Z.P Z.w) 9 Z.f60 Z.d60 ["net","ends"] (Bs Z.c_Net Z.c_Table Z.c_NoPoint Z.c_Held Z.c_Floats Z.K):=by
 refine F60.okX qn2 (λvs H Q E h=>?_) λcdv A outer s H vs Q E hr h=>?_
 .obtain⟨_,_,_,_,_,_,rfl,_⟩:=h;rfl
 obtain⟨n,l,m,ds,x,av,rfl,nt,nb,lav,h⟩:=h;have r5:=hr.mono (show 5<=8 by lia);have r7:=hr.mono (show 7<=8 by lia);refine⟨_,(aD (cD (aI R58 hr rfl m58 F58.kp b58 .nil (nV gH iW) (aA (pv 0) (aA (pv 1) aC))))
  (aG (aY (aI Y56.G r5 rfl m56 F56.kp Y56.b .nil aM (aA (aI Y59.G r7 rfl m59 F59.kp Y59.b .nil aM (aA (pv 0) aC)) (aA (pv 1) aC)))))),?_⟩
 have pt:=nb.pt;have m8:=nb.m8;have h40:=nb.l40;exists _,rfl,_,rfl,n,l,m,ds,x,rfl,nt,pt,nb.m1,(),(),?_;rcases h with h | ⟨b',es,rfl,hb,ge,qH,qF,q⟩
 .exact .inl h
 refine .inr ⟨b',es,rfl,hb,ge,qH,qF,λnh le H1 s1=>?_⟩;obtain⟨L,M,k,sz,q⟩:=q nh le;obtain⟨X,cs,TV,dX,dC⟩:=Qw nb sz nh;exists _,rfl,n,l,m,31,k,ds,X,cs,rfl,nt.same s1,nb.ok,nh,h40,(),TV.sq,TV.vM,TV.vR,λt H2 s2 T2=>?_;have hl:=zZ ge.nd ge.lt;have lo:(inn m es++es).length=m:=by rw[List.length_append];exact hl
 have om:∀i∈inn m es++es,i < m:=λi hi=>(mem_append.mp hi).elim (λz=>(dI.mp z).1) (λz=>ge.lt i z);have rd:=TV.tc.rd lo om (mY m es);have odi:∀{i:Nat},i < (inn m es).length->(inn m es++es).getD i 0=(inn m es).getD i 0:=λ{i} hi=>by
  rw[getD_eq_getElem?_getD,getElem?_append_left hi,<- getD_eq_getElem?_getD]
 have hLd:=λi R' d e hi B=>Ea nb sz.rows nh ge le rd (λs x hs hx=>by
  rw[(Lp TV lo om ()).1 (),odi hs,odi hx]) i R' d e hi B
 exists _,rfl,t,b',m,k,es,X,cs,av,rfl,T2,TV.tc,(s1.trans s2) _ _ hb,ge.nd,ge.lt,λa ha=>(lav a ha).imp λ_ z=>(s1.trans s2) _ _ z,hLd,λx Y R' pivot e H3 s3 T3 ly yv len wid B bE bP=>?_;exact q x _ _ H3 (s1.trans (s2.trans s3)) T3 (qa7 m8 ge TV ly yv len wid B bE bP)
theorem X7:gZ Z.K Z.c_Table "brought" Z.f54:=⟨a54_0,i54,F54.kp⟩
theorem R61:FZ (CX1 Z.P Z.w) 9 Z.f61 Z.d61 ["net","ends","heights"] (Lj Z.c_Net Z.c_NoPoint Z.c_Held Z.c_Floats Z.K):=by
 refine F61.okX xK (λvs H Q E h=>?_) λcdv A outer s H vs Q E hr h=>?_
 .obtain⟨_,_,_,_,_,_,_,rfl,_⟩:=h;rfl
 obtain⟨n,l,hA,m,ds,x,zh,rfl,nt,nb,hh,h⟩:=h;have r1:=hr.mono (show 1<=8 by lia);have r3:=hr.mono (show 3<=8 by lia);have r5:=hr.mono (show 5<=8 by lia);have r6:=hr.mono (show 6<=8 by lia);have r7:=hr.mono (show 7<=8 by lia);have r8:=hr;refine⟨_,(aD (cD (aI R58 r8 rfl m58 F58.kp b58 .nil (nV gH iW) (aA (pv 0) (aA (pv 1) aC))))
  (aD (gJ (i:=3) (nl:=1) (fr:=[1]) (Nc:=["point","ends"]) (cl:=[("ends",s.heap.objs.size+1)]) xK.nd rfl rfl rfl ⟨rfl,rfl,∅,∅,(bQ rfl (dM)),cG rfl,rfl,λi n h=>match i,h with | 0,h=>by cases h;exact⟨1,rfl,rfl,rfl,rfl,.inl rfl⟩ | k+1,h=>by rw[show 1+(k+1)=k+2 by lia] at h;cases h⟩
    (fE rfl n_range (aA (cZ (pv 0) NTx.cl X4 R28 r1 b28 .nil aM) aC)) (λ_ _ _ _ _=>(qQ0 (i:=0) oP)) (λ_ _ _ _ _=>(pW (bG (iJ (K:=Z.K) rfl) (pv 0) (pv 1) rfl)))
    (λ_ _ _ _ _=>(pv 0)) rfl)
  (aD (qQ1 (i:=4) xK.nd (aT Ap (eU (aA (gK (v:=.ref Z.aN) rfl mv_NOUGHT rfl) aC)) (cZ (pv 0) NTx.cl X4 R28 r1 b28 .nil aM)))
  (aD (dY PassesOwn.leaving rfl (lD rfl n_zip rfl (aA (pv 1) (aA (pv 2) aC))) (gC rfl (bO (qQ0 (i:=5) xK.nd) (bO (qQ0 (i:=6) xK.nd) eO)))
   (aG (kW (pv 6) (pE (pv 4) (pv 5) jD))))
  (aD (qQ1 (i:=7) xK.nd (aI Y59.G r7 rfl m59 F59.kp Y59.b .nil aM (aA (pv 0) aC)))
  (aD (aW (i:=8) xK.nd rfl (Or.inr rfl) (uC ((pv 7)) TBx.cl X7 R54 r6 b54 .nil aM (aA (pv 4) aC)))
  (aD (gJ (i:=9) (nl:=1) (fr:=[8]) (Nc:=["point","lacking"]) (cl:=[("lacking",s.heap.objs.size+2)]) xK.nd rfl rfl rfl ⟨rfl,rfl,∅,∅,(bQ rfl (dM)),cG rfl,rfl,λi n h=>match i,h with | 0,h=>by cases h;exact⟨8,rfl,rfl,rfl,rfl,.inl rfl⟩ | k+1,h=>by rw[show 1+(k+1)=k+2 by lia] at h;cases h⟩
    (bZ (pv 3)) (λ_ _ _ _ _=>(qQ0 (i:=0) rJ)) (λ_ _ _ _ _=>cC)
    (λ_ _ _ _ _=>(aI Y7.G r3 rfl m7 F7.kp Y7.b .nil aM (aA (gK (v:=.ref Z.aN) rfl mv_NOUGHT rfl) (aA (aS (gF (K:=Z.K) rfl) (pv 1) (pv 0) (λ_ _=>rfl)) aC)))) rfl)
  (aD (dY PassesOwn.leaving rfl (lD rfl n_zip rfl (aA (pv 3) (aA (aI Y43.G r5 rfl m43 F43.kp Y43.b .nil aM (aA (aI Y55.G r1 rfl m55 F55.kp Y55.b .nil aM (aA (cT (pv 7) rfl) (aA (pv 3) aC))) (aA (pv 9) aC))) aC))) (gC rfl (bO (qQ0 (i:=5) xK.nd) (bO (qQ0 (i:=6) xK.nd) eO)))
   (aG (kW (pv 6) (pE (pv 4) (pv 5) jD))))
  (aG (aY (pv 4))))))))))),?_⟩
 have pt:=nb.pt;have m8:=nb.m8;have h40:=nb.l40;exists _,rfl,_,rfl,n,l,m,ds,x,rfl,nt,pt,nb.m1,(),(),?_;rcases h with h | ⟨b',es,rfl,hb,ge,qH,qF,q⟩
 .exact .inl h
 refine .inr ⟨b',es,rfl,hb,ge,qH,qF,λnh le H1 s1=>?_⟩;obtain⟨L0,M0,k0,h,hs,rg,sz,lhs,hl,fh,q⟩:=q nh le;obtain⟨X,cs,TV,dX,dC⟩:=Qw nb sz nh;obtain⟨k,nn,SV⟩:∃k nn,SvK m es hs X cs k nn:=⟨_,_,qc7 rg nb sz nh ge le TV dX lhs hl⟩
 obtain⟨_,em⟩:=iY ge;obtain⟨_,_,_,n3,n4,m6,h1⟩:=Jo rg em
 try dsimp only
 refine fB (λσ' H'=>aP H H'/\∃I:Addr,σ'=[some (.ref n),some (.ref b'),some (.ref hA),some (.ref I),none,none,none,none,none,none]/\H' I=some (.lst (iA (inn m es)))) (λX2 hX2=>?_) ?_
 .obtain⟨dn,hn⟩:=(nt.same s1).ob;exists _,rfl,n,dn,_,rfl,hn,fD _ _ ∅ ∅,n,l,_,ds,rfl,nt.same s1,(m:Int),rfl,(),(),λD hD=>?_;rw[Int.toNat_natCast];have sD:=aE hD (.lst []);refine fV (n:=m) (λi zs H'=>aP H1 H'/\H' D=some (.lst zs)/\zs=iA (inn i es)) ⟨sD,aB,rfl⟩ (λi zs H' h=>h.2.1) ?_ ?_
  .rintro i zs H3 hi ⟨s3,e3,rfl⟩ C hC;exists bU.1,bU.2,_,rfl,_,rfl,b',_,rfl,.inl (SqL.of ((s1.trans s3) _ _ hb)),rfl,iX _,?_
   try rw[Int.zero_add]
   rw[kK];exists _,rfl,?_
   by_cases c:i∈es
   .rw[decide_eq_true (nU.mpr c)];refine L2.ifF rfl ?_;exact hC _ _ ⟨s3,e3,by rw[mC,if_pos c,append_nil]⟩
   .rw[decide_eq_false (λz=>c (nU.mp z))];refine L2.ifT rfl ?_;exists _,rfl,e3,aV (by rw[length_map];have:=mY i es;lia),hC _ _ ⟨s3.change hD,aB,?_⟩
    try rw[Int.zero_add]
    rw[mC,if_neg c];show _=map _ _;rw[map_append];rfl
  .rintro zs H3 ⟨s3,e3,rfl⟩;exact hX2 _ _ ⟨s1.trans s3,D,rfl,e3⟩
 rintro σ2 H2 ⟨s2,I,rfl,eI⟩;refine fB (λσ' H'=>aP H H'/\H' I=some (.lst (iA (inn m es)))/\∃(L:Addr) (zs:List V),σ'=[some (.ref n),some (.ref b'),some (.ref hA),some (.ref I),some (.ref L),none,none,none,none,none]/\H L=none/\L≠I/\H' L=some (.lst zs)/\Fqs Z.K H' zs (lvH m es hs 0)) (λX2 hX2=>?_) ?_
 .exists zl9 1,λl1 hl1=>?_;obtain⟨H3,q,s3,e3⟩:=nw hl1 (.lst [.ref Z.aN]);rw[q];clear q;obtain⟨dn,hn⟩:=(nt.same (s2.trans s3)).ob;exists _,rfl,n,dn,_,rfl,hn,fD _ _ ∅ ∅,n,l,_,ds,rfl,nt.same (s2.trans s3),l1,(m:Int),[.ref Z.aN],rfl,rfl,e3,(),(),?_,λL hL=>?_
  .rw[Int.toNat_natCast,sizeLine_eq];simp only[length_cons,length_nil];lia
  rw[Int.toNat_natCast,nC];have s4:=aE hL (.lst (replicate m (.ref Z.aN)));have nLI:L≠I:=λz=>by rw[z,s3 _ _ eI] at hL;cases hL
  refine hX2 _ _ ⟨s2.trans (s3.trans s4),(s3.trans s4) _ _ eI,L,_,rfl,(s2.trans s3).free hL,nLI,aB,?_⟩;show Fqs Z.K _ _ (replicate m (0,1));exact mE (fN _) m
 rintro σ3 H3 ⟨s3,eI,L,zs,rfl,nL,nLI,eL,fL⟩;refine fB (λσ' H'=>aP H H'/\H' I=some (.lst (iA (inn m es)))/\∃(zs:List V) (z5 z6:Option V),σ'=[some (.ref n),some (.ref b'),some (.ref hA),some (.ref I),some (.ref L),z5,z6,none,none,none]/\H' L=some (.lst zs)/\Fqs Z.K H' zs (lvH m es hs es.length)) (λX2 hX2=>?_) ?_
 .exists _,rfl,_,rfl,b',hA,rfl,⟨_,SqL.of (s3 _ _ hb)⟩,⟨_,s3.seq hh⟩,?_;refine Cl (xs:=(ups es).map V.int) (ys:=zh) (λi σ' H'=>aP H H'/\H' I=some (.lst (iA (inn m es)))/\∃(zs:List V) (z5 z6:Option V),σ'=[some (.ref n),some (.ref b'),some (.ref hA),some (.ref I),some (.ref L),z5,z6,none,none,none]/\H' L=some (.lst zs)/\Fqs Z.K H' zs (lvH m es hs i)) ⟨s3,eI,zs,_,_,rfl,eL,fL⟩ (λi σ H' _ h=>⟨SqL.of (h.1 _ _ hb),h.1.seq hh⟩) ?_ ?_
  .rintro i x y σ H4 T1 ex ey ⟨s4,eI4,zs,z5,z6,rfl,eL4,fL4⟩ hT;obtain⟨v,p,rfl,ep,fv⟩:=fh.get ey;have hi:i < es.length:=by have:=(List.getElem?_eq_some_iff.mp ep).1;lia
   have p57:hs.getD i Mq.z0=p:=by rw[getD_eq_getElem?_getD,ep];rfl
   have he:=getElem?_eq_getElem hi;have elt:=ge.lt _ (getElem_mem hi);rw[iQ,getElem?_map,he] at ex
   cases ex
   generalize es[i]=e at he elt ⊢;have sT:=aE hT (.tup [.int (e:Int),.ref v]);exists T1,_,rfl,SqT.of aB,rfl,_,_,rfl,_,_,rfl,rfl,?_;generalize upd H4 T1 (.tup [.int (e:Int),.ref v])=H5 at sT ⊢;have eL5:=sT _ _ eL4;have lz:=fL4.length;rw[jQ] at lz;exists _,rfl,_,rfl,_,rfl,L,zs,_,e,rfl,rfl,eL5,qC (),(s4.trans sT).change nL,?_,_,_,_,rfl,aB,?_
   .rw[aU (Ne.symm nLI)];exact sT _ _ eI4
   .show Fqs Z.K _ _ ((lvH m es hs i).set (es.getD i 0) (hs.getD i Mq.z0));rw[p57,show es.getD i 0=e by rw[getD_eq_getElem?_getD,he];rfl];exact(Fqs.set ((s4.trans sT).fq fv) e (fL4.same sT)).upd eL5
  .rintro σ H4 ⟨s4,eI4,zs,z5,z6,rfl,eL4,fL4⟩;have lh:=fh.length;rw[length_map,length_map,lh,hl,Nat.min_self] at fL4;exact hX2 _ _ ⟨s4,eI4,zs,z5,z6,rfl,eL4,fL4⟩
 rintro σ4 H4 ⟨s4,eI4,zL,z5,z6,rfl,eL4,fL4⟩;refine fB (λσ' H'=>aP H H'/\H' I=some (.lst (iA (inn m es)))/\H' L=some (.lst zL)/\Fqs Z.K H' zL (lvH m es hs es.length)/\∃t:Addr,σ'=[some (.ref n),some (.ref b'),some (.ref hA),some (.ref I),some (.ref L),z5,z6,some (.ref t),none,none]/\iL Z.c_Table Z.K H' t (jO m) X cs) (λX2 hX2=>?_) ?_
 .exists _,rfl,n,l,m,31,k0,ds,X,cs,rfl,nt.same s4,nb.ok,nh,h40,(),TV.sq,TV.vM,TV.vR,λt H5 s5 T5=>?_;exact hX2 _ _ ⟨s4.trans s5,s5 _ _ eI4,s5 _ _ eL4,fL4.same s5,t,rfl,T5⟩
 rintro σ5 H5 ⟨s5,eI5,eL5,fL5,t,rfl,T5⟩;have TD:TbD k0 m X cs:=⟨TV.sq.lX,TV.sq.lc,m8,TV.sq.rX,TV.sq.rc⟩
 have LH:=Br (m:=m) (es:=es) lhs h1 es.length ();refine fB (λσ' H'=>aP H H'/\H' I=some (.lst (iA (inn m es)))/\H' L=some (.lst zL)/\Fqs Z.K H' zL (lvH m es hs es.length)/\iL Z.c_Table Z.K H' t (jO m) X cs/\∃(a:Addr) (za:List V),σ'=[some (.ref n),some (.ref b'),some (.ref hA),some (.ref I),some (.ref L),z5,z6,some (.ref t),some (.ref a),none]/\H' a=some (.lst za)/\Fqs Z.K H' za (brL X cs (lvH m es hs es.length))) (λX2 hX2=>?_) ?_
 .obtain⟨dx,p,l',a',us,ys,ht,_⟩:=T5.e;exists _,rfl,t,dx,_,rfl,ht,fC _ _ _ ∅ ∅ ∅,_,rfl,t,L,_,X,cs,_,zL,k0,h,m,rfl,T5,TD,SqL.of eL5,fL5,LH,jQ m es hs _,n3,λa za H6 s6 e6 f6=>?_;exact hX2 _ _ ⟨s5.trans s6,s6 _ _ eI5,s6 _ _ eL5,fL5.same s6,T5.same s6,a,za,rfl,e6,f6⟩
 rintro σ6 H6 ⟨s6,eI6,eL6,fL6,T6,a,za,rfl,ea,fa⟩;have il:=mY m es;have gi:∀{i:Nat} {x:V},(iA (inn m es))[i]?=some x->∃p,(inn m es)[i]?=some p/\x=.int (p:Int)/\p < m/\p∉es:=λ{i x} h=>by
  rw[getElem?_map] at h
  cases e:(inn m es)[i]? with
  |none=>rw[e] at h;cases h
  |some p=>
   rw[e] at h
   cases h
   have:=dI.mp (mem_of_getElem? e);exists p,rfl,rfl,this.1,this.2
 refine fB (λσ' H'=>aP H H'/\H' I=some (.lst (iA (inn m es)))/\H' L=some (.lst zL)/\Fqs Z.K H' zL (lvH m es hs es.length)/\iL Z.c_Table Z.K H' t (jO m) X cs/\∃(g:Addr) (zg:List V),σ'=[some (.ref n),some (.ref b'),some (.ref hA),some (.ref I),some (.ref L),z5,z6,some (.ref t),some (.ref a),some (.ref g)]/\H' g=some (.lst zg)/\Fqs Z.K H' zg (rtH m es hs X cs)) (λX2 hX2=>?_) ?_
 .exists _,rfl,I,rfl,⟨_,SqL.of eI6⟩,λD hD=>?_;have sD:=aE hD (.lst []);refine cB (xs:=iA (inn m es)) (λi zs H'=>aP H6 H'/\H' D=some (.lst zs)/\Fqs Z.K H' zs ((rtH m es hs X cs).take i)) ⟨sD,aB,.nil⟩ (λi zs H' h=>h.2.1) (λi zs H' _ h=>h.1.seq (SqL.of eI6)) ?_ ?_
  .rintro i zs x H7 hx ⟨s7,e7,F7⟩ C hC;obtain⟨p,ep,rfl,pm,pe⟩:=gi hx;have hi:=(List.getElem?_eq_some_iff.mp ep).1;obtain⟨v1,v2,_⟩:=wH TD LH (jQ m es hs _) pm;obtain⟨u,eu,fu⟩:=fa.at (dP (show p < (brL X cs (lvH m es hs es.length)).length by rw[lM TD];exact pm));have lz:=F7.length;rw[length_take] at lz;exists bU.1,bU.2,dA ?_;exists _,rfl,_,rfl,a,za,_,_,rfl,rfl,SqL.of (s7 _ _ ea),bY eu,Z.aN,u,_,_,1,_,rfl,fN _,s7.seqT fu,q01.1.pos,v1.pos,q01.2,v2,(),λr H8 s8 e8=>?_;have eA:=s8 _ _ e7;exists eA,aV (),hC _ _ ⟨(s7.trans s8).change hD,aB,?_⟩;have et:(rtH m es hs X cs)[i]?=some (fZ (0,1) ((brL X cs (lvH m es hs es.length)).getD p Mq.z0)):=by unfold rtH;rw[getElem?_map,ep];rfl
   rw[take_add_one,et];exact((F7.same s8).app (.cons (Fq.of e8) .nil)).upd eA
  .rintro zs H7 ⟨s7,e7,F7⟩;rw[take_of_length_le (by unfold rtH;rw[length_map,length_map];lia)] at F7;exact hX2 _ _ ⟨s6.trans s7,s7 _ _ eI6,s7 _ _ eL6,fL6.same s7,T6.same s7,D,zs,rfl,e7,F7⟩
 rintro σ7 H7 ⟨s7,eI7,eL7,fL7,T7,g,zg,rfl,eg,fg⟩;refine fB (λσ' H'=>aP H H'/\∃(zs:List V) (ps:List Mq.Q2) (z5 z6:Option V),σ'=[some (.ref n),some (.ref b'),some (.ref hA),some (.ref I),some (.ref L),z5,z6,some (.ref t),some (.ref a),some (.ref g)]/\H' L=some (.lst zs)/\Fqs Z.K H' zs ps/\HtF m ds es hs ps) (λX2 hX2=>?_) ?_
 .obtain⟨dx,p,l',a',us,ys,ht,hp,hU,hLn,_⟩:=T7.e;exists _,rfl,_,rfl,t,Z.c_Table,_,_,_,rfl,ht,TBx.cl,TBx.nL,uA _ _ _,_,rfl,l',I,us,X,inn m es,m,rfl,hU,hLn,TV.sq.lX,λrow hr=>(TV.sq.rX row hr).1,SqL.of eI7,λj hj=>(dI.mp hj).1,(),λP zP H8 s8 e8 LP=>?_;obtain⟨dn,hn⟩:=(nt.same (s7.trans s8)).ob;have FM:Fmd Z.K (λ_=>none) n H8 zP (dB (inn m es) X):=Rx LP.l λi x ps h1 h2=>by
   obtain⟨c,xs,e1,e2,e3⟩:=LP.r i x ps h1 h2;exists c,xs,e1,(λz=>by rw[z,hn] at e2;cases e2),e2,e3
  have lp:=iZ (inn m es) X;have bm:k*((inn m es).length+1)<=k*(m+1):=Nat.mul_le_mul_left k ();have b58:=SV.b1;exists _,rfl,P,g,n,_,zP,zg,_,_,k,nn,rfl,SqL.of e8,FM,SqL.of (s8 _ _ eg),fg.same s8,?_,SV.ql,SV.qb,SV.xp,λrow hr=>⟨SV.xb row hr,?_⟩,(),by rw[lp];lia,SV.bd,SV.n1,Nat.le_trans (Xq nn ()) SV.b2,SV.pv,λr zr pr H9 s9 nr er fr su=>?_
  .unfold rtH;rw[length_map,lp]
  .unfold dB at hr ⊢;obtain⟨j,hj,rfl⟩:=mem_map.mp hr;rw[length_map,length_map]
  have lr:pr.length=(inn m es).length:=by rw[su.len,lp]
  have s89:=s8.trans s9;have nrL:L≠r:=λz=>by rw[<- z,s8 _ _ eL7] at nr;cases nr
  exists I,r,rfl,⟨_,SqL.of (s89 _ _ eI7)⟩,⟨_,SqL.of er⟩,?_;refine Cl (xs:=iA (inn m es)) (ys:=zr) (λi σ' H'=>aP H H'/\H' I=some (.lst (iA (inn m es)))/\H' r=some (.lst zr)/\Fqs Z.K H' zr pr/\∃(zs:List V) (ps:List Mq.Q2) (z5 z6:Option V),σ'=[some (.ref n),some (.ref b'),some (.ref hA),some (.ref I),some (.ref L),z5,z6,some (.ref t),some (.ref a),some (.ref g)]/\H' L=some (.lst zs)/\Fqs Z.K H' zs ps/\ps.length=m/\LB 9000 ps/\(∀a,a < es.length->ps.getD (es.getD a 0) Mq.z0=hs.getD a Mq.z0)/\∀a,a < i->ps.getD ((inn m es).getD a 0) Mq.z0=pr.getD a Mq.z0) ⟨s7.trans s89,s89 _ _ eI7,er,fr,zL,lvH m es hs es.length,_,_,rfl,s89 _ _ eL7,fL7.same s89,jQ m es hs _,⟨λp hp=>⟨(LH.h p hp).1,(LH.h p hp).2.mono (by have:=n3;have:=Nat.le_mul_of_pos_right (k0+h+1) (show 0 < m+1 by lia);lia)⟩⟩,λa ha=>Bj ge.nd ge.lt ha _ (Nat.le_refl _) ha,λa ha=>absurd ha (Nat.not_lt_zero a)⟩ (λi σ H' _ h=>⟨SqL.of h.2.1,SqL.of h.2.2.1⟩) ?_ ?_
  .rintro i x y σ H10 T1 ex ey ⟨sx,eIx,erx,frx,zs,ps,z5,z6,rfl,eLx,fLx,lps,lbx,hes,hin⟩ hT;obtain⟨p,ep,rfl,pm,pe⟩:=gi ex;obtain⟨v,pq,rfl,epq,fv⟩:=frx.get ey;have sT:=aE hT (.tup [.int (p:Int),.ref v]);exists T1,_,rfl,SqT.of aB,rfl,_,_,rfl,_,_,rfl,rfl,?_;generalize upd H10 T1 (.tup [.int (p:Int),.ref v])=H11 at sT ⊢;have eL5:=sT _ _ eLx;have lz:=fLx.length;exists _,rfl,_,rfl,_,rfl,L,zs,_,p,rfl,rfl,eL5,qC (),(sx.trans sT).change nL,?_,?_,?_,_,ps.set p pq,_,_,rfl,aB,?_,by rw[length_set];exact lps,lbx.set ⟨su.low _ (mem_of_getElem? epq),su.bd _ (mem_of_getElem? epq)⟩ p,λa ha=>?_,λa ha=>?_
   .rw[aU (Ne.symm nLI)];exact sT _ _ eIx
   .rw[aU (Ne.symm nrL)];exact sT _ _ erx
   .exact(frx.same sT).upd eL5
   .exact(Fqs.set (sT.fq fv) p (fLx.same sT)).upd eL5
   .have ea:es.getD a 0=es[a]:=by rw[getD_eq_getElem?_getD,getElem?_eq_getElem ha];rfl
    rw[getD_eq_getElem?_getD (l:=ps.set p pq),getElem?_set_ne (λz=>pe (by rw[z,ea];exact getElem_mem _)),<- getD_eq_getElem?_getD];exact hes a ha
   .have hip:(inn m es).getD i 0=p:=by rw[getD_eq_getElem?_getD,ep];rfl
    have hpi:=(List.getElem?_eq_some_iff.mp ep).1
    by_cases c:a=i
    .rw[c,hip,getD_eq_getElem?_getD,getElem?_set_self (),getD_eq_getElem?_getD,epq]
    .have ga:(inn m es).getD a 0=(inn m es)[a]:=by rw[getD_eq_getElem?_getD,getElem?_eq_getElem (show a < (inn m es).length by lia)];rfl
     have gi':(inn m es)[i]=p:=(List.getElem?_eq_some_iff.mp ep).2;have ne:p≠(inn m es).getD a 0:=λz=>c (by
      rw[ga,<- gi'] at z;have z':=congrArg (inn m es).idxOf z;rw[(uZ m es).idxOf_getElem i hpi,(uZ m es).idxOf_getElem a ()] at z';exact z'.symm)
     rw[getD_eq_getElem?_getD (l:=ps.set p pq),getElem?_set_ne ne,<- getD_eq_getElem?_getD];exact hin a ()
  .rintro σ H10 ⟨sx,eIx,erx,frx,zs,ps,z5,z6,rfl,eLx,fLx,lps,lbx,hes,hin⟩;rw[length_map,frx.length,lr,Nat.min_self] at hin;exact hX2 _ _ ⟨sx,zs,ps,z5,z6,rfl,eLx,fLx,qc4 m8 ge TV lhs h1 hl su lps lbx hes hin⟩
 rintro σ8 H8 ⟨s8,zs,ps,z5,z6,rfl,eL8,fL8,hf⟩;exists _,rfl,q L zs ps H8 s8 nL eL8 fL8 hf
theorem Y62:DZ 1 Z.f62 Z.d62 ["_law_script","_law_k"] (Do Z.K) "_law_nth":=by
 exists ?_,F62.b2 _ _ (by intros;rfl),F62.kp,m62
 refine F62.ok9 Yo λ_ _ _ s H _ Q E hr h=>?_;obtain⟨a,ns,j,k,rfl,hj,hS,h63,hk,q⟩:=h;refine⟨_,(aD (dY PassesOwn.never rfl (bZ (gG kP (pv 0) (gA (pv 1)) (gA (aT gE (pv 1) aF)))) (qQ0 (i:=2) Yo.nd)
   (aG (aY (pv 2))))
  (aG (aY (aT dL (aT bX (aT jC aF (pv 1)) (pv 1)) aF)))),?_⟩
 exists _,rfl,_,rfl,j,rfl,_,rfl,_,_,rfl,rfl,j+1,rfl,a,_,rfl,hS,λl hl=>?_;have s1:=aE hl (.lst (jA (ns.map V.int) (some j) (some (j+1))));have e1:upd H l (.lst (jA (ns.map V.int) (some j) (some (j+1)))) l=some (.lst (jA (ns.map V.int) (some j) (some (j+1)))):=aB;obtain⟨ms,em,lm⟩:=Rv ns (some j) (some (j+1));rw[em] at e1 s1 ⊢;generalize upd H l (.lst (ms.map V.int))=H1 at e1 s1 ⊢;exists l,rfl,⟨_,SqL.of e1⟩,?_;refine fQ (xs:=ms.map V.int) (λi σ H'=>H'=H1/\∃z,σ=[some (.ref a),some (.int j),z]) ⟨rfl,none,rfl⟩ (λi σ H' _ h=>by rw[h.1];exact SqL.of e1) ?_ ?_
 .rintro i x σ H' hx ⟨rfl,z,rfl⟩;obtain⟨c,rfl⟩:∃c,x=.int c:=by
   rw[getElem?_map] at hx
   cases hm:ms[i]? with
   |none=>rw[hm] at hx;cases hx
   |some c=>rw[hm] at hx;cases hx;exists c,rfl
  exists _,rfl,q c _ s1
 .rintro σ H' ⟨rfl,z,rfl⟩;exists _,rfl,_,_,rfl,rfl,Or.inl ⟨∅,∅⟩,_,rfl,bV (n:=40) (m:=40) (Mu () ()) (Mu () ()) () () ⟨_,_,rfl,rfl,(show (0:Int) < 1009 by decide),q _ _ s1⟩
theorem Y63:DZ 1 Z.f63 Z.d63 ["_law_one","_law_other"] Dh "_law_divisor":=by
 exists ?_,F63.b2 _ _ (by intros;rfl),F63.kp,m63
 refine F63.ok9 Za λ_ _ _ s H _ Q E hr h=>?_;obtain⟨x,y,rfl,q⟩:=h;refine⟨_,(aD (Dz PassesOwn.never (bG qV (pv 1) aF (bK _)) (aG (Pg (i:=0) (j:=1) rfl Za.nd rfl rfl ∅ rfl rfl (aA (pv 1) (aA (aT nJ (pv 0) (pv 1)) aC)) rfl)))
  (aG (aY (bM Es rfl bl.abs PyProof.Rows.boot_abs (aA (pv 0) aC))))),?_⟩
 refine Dm (λσ H'=>H'=H/\∃u v,σ=[some (.int u),some (.int v)]/\gc u v=gc x y) (λσ _=>match σ with | [_,some (.int v)]=>v.natAbs | _=>0) ⟨rfl,x,y,rfl,rfl⟩ ?_ ?_
 .rintro σ H' ⟨rfl,u,v,rfl,e⟩;exists _,rfl,rfl,_,rfl,?_;refine rS (λc=>?_) (λc=>?_)
  .have hv:v≠0:=by intro q;subst q;simp at c
   exists _,rfl,_,rfl,_,rfl,_,_,rfl,rfl,hv,_,_,rfl,⟨rfl,v,Int.fmod u v,rfl,(Kv u v).trans e⟩,yO hv
  .have hv:v=0:=by
    simp at c;exact c
   subst hv;exists _,rfl,_,rfl,?_;rw[<- Kz,e];exact q
 .rintro σ H Q Q' m ⟨v,h1,h2,k,h3,h4⟩;exists v,h1,h2,k,h3,m _ _ h4
theorem Y64:DZ 2 Z.f64 Z.d64 ["_law_top","_law_bottom"] rK "_law_lowest":=by
 exists ?_,F64.b2 _ _ (by intros;rfl),F64.kp,m64
 refine F64.ok9 Du λcdv A outer s H vs Q E hr h=>?_;obtain⟨t,b',n,rfl,hb,hB,hn,q⟩:=h;refine⟨_,(aD (qQ1 (i:=2) Du.nd (d9 Y63 hr rfl (aA (pv 0) (aA (pv 1) aC))))
  (aG (aY (gD (aA (aT gU (pv 0) (pv 2)) (aA (aT gU (pv 1) (pv 2)) aC)))))),?_⟩
 have hd:=rA (t:=t) (show b'≠0 by lia);have hdB:Mq.B n (dvr t b'):=hB.le (Gw ());have e:=Ab (t:=t) hb;rw[e] at hd hdB;have q':xD H Q (t.fdiv (gc t b'),b'.fdiv (gc t b')):=by
  have z:=q;unfold red at z;rw[e] at z;exact z
 exists _,rfl,_,rfl,t,b',rfl,?_;exists _,rfl,_,rfl,hZ hd hdB hn ⟨_,rfl,_,rfl,hZ hd hdB hn ⟨zl9 2,λp hp=>?_⟩⟩;exact q' p _ (aE hp _) aB
theorem Y65:DZ 2 Z.f65 Z.d65 ["_law_found"] (Zm Z.K) "_law_is":=by
 exists ?_,F65.b1 _ (by intros;rfl),F65.kp,m65
 refine F65.ok9 qj1 λcdv A outer s H vs Q E hr h=>?_;obtain⟨a,p,rfl,fa,hp,q⟩:=h;refine⟨_,(aD (cN (PW.pt (gM (dJ (cV (fH (i:=0) rfl (Or.inl rfl) bl.isi n_tuple rfl rfl PyProof.Rows.boot_tuple))) (gV (bG qV (bM bC rfl n_len PySem.boot_len (aA (pv 0) aC)) aF (bK _))))) (aG (aY gO)) bH)
  (aD (dY PassesOwn.never rfl (qd0 (pv 0)) (qQ0 (i:=1) qj1.nd)
   (aG (cN (PW.pt (gM (dJ (cV (fH (i:=1) rfl (Or.inl rfl) bl.isi bl.int rfl rfl PyProof.Rows.boot_int))) (gV (cV (fH (i:=1) rfl (Or.inl rfl) bl.isi bl.bool rfl rfl PyProof.Rows.boot_bool))))) (aG (aY gO)) bH)))
  (aG (aY (jW (eP Cz (aS aZ (pv 0) aF (λ_ _=>rfl)) aF (bK _)) (oV (eP fK (d9 Y63 hr rfl (aA (aS aZ (pv 0) aF (λ_ _=>rfl)) (aA (aS aZ (pv 0) aF (λ_ _=>rfl)) aC))) aF (bK _)))))))),?_⟩
 exists _,_,true,rfl,.tup fa,rfl,_,rfl,dE ⟨_,rfl,a,_,rfl,.inr fa,rfl,_,rfl,dE ?_⟩;exists _,rfl,a,rfl,⟨_,fa⟩,?_;refine Xb (xs:=[.int p.1,.int p.2]) (λi σ H'=>H'=H/\∃z,σ=[some (.ref a),z]) ⟨rfl,none,rfl⟩ (λi σ H' _ h=>by rw[h.1];exact fa) ?_ ?_
 .rintro i x σ H' hx ⟨rfl,z,rfl⟩;have hint:∃j,x=.int j:=by
   match i,hx with
   |0,h=>exact⟨p.1,by simpa using h.symm⟩
   |1,h=>exact⟨p.2,by simpa using h.symm⟩
   |n+2,h=>simp at h
  obtain⟨j,rfl⟩:=hint;exists _,_,true,rfl,.of (.int j),rfl,_,rfl,dE ⟨_,_,false,rfl,.of (.int j),(by with_unfolding_all rfl),_,rfl,dE ⟨rfl,_,rfl⟩⟩
 .rintro σ H' ⟨rfl,z,rfl⟩;have h1:=hp.pos;refine cW rfl fa ⟨_,_,rfl,rfl,_,rfl,ifT (decide_eq_true (show p.2 > 0 by lia)) (eS rfl fa (cW rfl fa ⟨_,_,rfl,rfl,?_⟩))⟩;rw[hp.one];exact q
theorem Y66:DZ 3 Z.f66 Z.d66 ["_law_found","_law_many"] (Co Z.K) "_law_list":=by
 exists ?_,F66.b2 _ _ (by intros;rfl),F66.kp,m66
 refine F66.ok9 Vq λ_ _ _ s H _ Q E hr h=>?_;obtain⟨a,xs,ps,rfl,hS,hF,hP,h100,q⟩:=h;refine⟨_,(aD (cN (PW.pt (gM (dJ (cV (fH (i:=0) rfl (Or.inl rfl) bl.isi n_list rfl rfl PyProof.Rows.boot_list))) (gV (bG qV (bM bC rfl n_len PySem.boot_len (aA (pv 0) aC)) (pv 1) (bK _))))) (aG (aY gO)) bH)
  (aG (aY (bM (mM rfl) rfl n_all PyProof.Rows.boot_all (aA (cU (nl:=1) (fr:=[]) (Nc:=["_law_one"]) (cl:=[]) rfl ⟨rfl,rfl,∅,∅,λx c h=>(by cases h),cG rfl,rfl,λi n h=>(by simp at h)⟩
    (bZ (pv 0)) (λ_ _ _ _ _=>(qQ0 (i:=0) Po)) (λ_ _ _ _ _=>cC)
    (λ_ _ _ _ _=>(d9 Y65 hr rfl (aA (pv 0) aC)))) aC))))),?_⟩
 have lx:=hF.length;exists _,_,true,rfl,.lst hS,rfl,_,rfl,dE ⟨_,rfl,a,_,rfl,.inl hS,_,rfl,rfl,_,rfl,?_⟩;rw[lx];refine qj9 rfl ?_;exists _,rfl,a,rfl,⟨_,hS⟩,λD hD=>?_;have sD:=aE hD (.lst []);refine cB (xs:=xs) (λi zs H'=>aP H H'/\H' D=some (.lst zs)/\zs=(replicate i true).map V.bl) ⟨sD,aB,rfl⟩ (λi zs H' h=>h.2.1) (λi zs H' _ h=>h.1.seq hS) ?_ ?_
 .rintro i zs x H1 hx ⟨s1,e1,rfl⟩ C hC;obtain⟨u,p,rfl,ep,fu⟩:=hF.get hx;have hi:i < ps.length:=(List.getElem?_eq_some_iff.mp ep).1;exists bU.1,bU.2,dA ?_;exists _,rfl,u,p,rfl,s1.fq fu,hP p (mem_of_getElem? ep),?_;exists e1,aV (by rw[length_map,length_replicate];lia),hC _ _ ⟨s1.change hD,aB,?_⟩;rw[replicate_succ',map_append];rfl
 .rintro zs H1 ⟨s1,e1,rfl⟩;exists D,_,rfl,SqL.of e1,?_;rw[show (replicate xs.length true).all id=true by simp];exact q _ s1
theorem Y67:DZ 1 Z.f67 Z.d67 ["_law_some","_law_others","_law_due"] (Shp.wD Z.K) "_law_meets":=by
 exists ?_,F67.b3 _ _ _ (by intros;rfl),F67.kp,m67
 refine F67.ok9 kX λcdv A outer s H vs Q E hr h=>?_;obtain⟨a,o,d,xs,ys,ms,ps,q,n,n',rfl,hX,fX,hO,fO,fd',hb,hb2,hq,hl,hn,hn',hpl,hE,z⟩:=h;refine⟨_,(aD (qQ1 (i:=3) kX.nd aF)
  (aD (qQ1 (i:=4) kX.nd aF)
  (aD (dY PassesOwn.never rfl (lD rfl n_zip rfl (aA (pv 0) (aA (pv 1) aC))) (gC rfl (bO (qQ0 (i:=5) kX.nd) (bO (qQ0 (i:=6) kX.nd) eO)))
   (aD (qQ1 (i:=3) kX.nd (aT gE (aT bX (aT bX (pv 3) (aS aZ (pv 5) aF (λ_ _=>rfl))) (aS aZ (pv 6) aF (λ_ _=>rfl))) (aT bX (aT bX (aS aZ (pv 5) aF (λ_ _=>rfl)) (aS aZ (pv 6) aF (λ_ _=>rfl))) (pv 4))))
  (aG (qQ1 (i:=4) kX.nd (aT bX (aT bX (pv 4) (aS aZ (pv 5) aF (λ_ _=>rfl))) (aS aZ (pv 6) aF (λ_ _=>rfl)))))))
  (aG (aY (eP fK (aT bX (pv 3) (aS aZ (pv 2) aF (λ_ _=>rfl))) (aT bX (aS aZ (pv 2) aF (λ_ _=>rfl)) (pv 4)) (bK _))))))),?_⟩
 have lx:=fX.length;have ly:=fO.length;have lL:(zipWith Mq.pp ms ps).length=ms.length:=by simp[hpl]
 exists _,rfl,_,rfl,a,o,rfl,⟨_,hX⟩,⟨_,hO⟩,?_;refine Cl (xs:=xs) (ys:=ys) (λi σ H'=>aP H H'/\i<=10/\∃z5 z6,σ=[some (.ref a),some (.ref o),some (.ref d),some (.int (Mq.N ((zipWith Mq.pp ms ps).take i))),some (.int (Mq.D ((zipWith Mq.pp ms ps).take i))),z5,z6]/\Mq.B (1+(n+n' + 10)*i) (Mq.N ((zipWith Mq.pp ms ps).take i))/\Mq.B (1+(n+n' + 10)*i) (Mq.D ((zipWith Mq.pp ms ps).take i))) ⟨aP.refl _,(),none,none,rfl,show (0:Nat) < 2 ^ (1+(n+n' + 10)*0) from Nat.two_pow_pos _,show (1:Nat) < 2 ^ (1+(n+n' + 10)*0) by simp⟩ (λi σ H' _ h=>⟨h.1.seq hX,h.1.seq hO⟩) ?_ ?_
 .rintro i x y σ H1 T1 ex ey ⟨s1,i10,z5,z6,rfl,bN,bD⟩ hT;obtain⟨u,p,rfl,ep,fu⟩:=fX.get ex;obtain⟨v,r,rfl,er,fv⟩:=fO.get ey;have hi:i < ms.length:=(List.getElem?_eq_some_iff.mp ep).1;have pb:=hb p (mem_of_getElem? ep);have ob:=hb2 r (mem_of_getElem? er);have sT:=aE hT (.tup [.ref u,.ref v]);exists T1,_,rfl,SqT.of aB,rfl,_,_,rfl,_,_,rfl,rfl,?_;have sx:=s1.trans sT;have fu':=sx.fq fu;have fv':=sx.fq fv;generalize upd H1 T1 (.tup [.ref u,.ref v])=H2 at sx fu' fv' ⊢;obtain⟨eN,eD⟩:=Mq.Wa (ps:=zipWith Mq.pp ms ps) (i:=i) (p:=Mq.pp p r) (by rw[getElem?_zipWith,ep,er]);have kb:(n+n' + 10)*i<=(n+n' + 10)*10:=Nat.mul_le_mul_left _ ();have b1:=bN.mul pb.b;have b2:=b1.mul ob.b;have b3:=pb.a.mul ob.a;have b4:=b3.mul bD;have b5:=bD.mul pb.b;have b6:=b5.mul ob.b;exists _,rfl,cW rfl fu' (bV bN pb.b () () (cW rfl fv' (bV b1 ob.b () () (eS rfl fu' (eS rfl fv' (bV pb.a ob.a () () ⟨_,rfl,bV b3 bD () () ⟨_,_,rfl,rfl,?_⟩⟩))))));exists _,rfl,cW rfl fu' (bV bD pb.b () () (cW rfl fv' (bV b5 ob.b () () ?_)));have x1:Mq.N ((zipWith Mq.pp ms ps).take i)*p.2*r.2+p.1*r.1*Mq.D ((zipWith Mq.pp ms ps).take i)=Mq.N ((zipWith Mq.pp ms ps).take (i+1)):=by rw[eN];show _=_*(p.2*r.2)+(p.1*r.1)*_;rw[Int.mul_assoc]
  have x2:Mq.D ((zipWith Mq.pp ms ps).take i)*p.2*r.2=Mq.D ((zipWith Mq.pp ms ps).take (i+1)):=by rw[eD];show _=_*(p.2*r.2);rw[Int.mul_assoc]
  exists sx,(),some (.ref u),some (.ref v),by rw[<- x1,<- x2];rfl,?_,?_
  .rw[<- x1];exact(Mq.B.add (n:=1+(n+n' + 10)*i+n+n') b2 (b4.mono ())).mono (by rw[Nat.mul_succ];lia)
  .rw[<- x2];exact b6.mono (by rw[Nat.mul_succ];lia)
 .rintro σ H1 ⟨s1,_,z5,z6,rfl,bN,bD⟩;rw[show min xs.length ys.length=(zipWith Mq.pp ms ps).length by lia,take_length] at bN bD ⊢;have fd1:=s1.fq fd';have kb:(n+n' + 10)*(zipWith Mq.pp ms ps).length<=(n+n' + 10)*10:=Nat.mul_le_mul_left _ ();exists _,rfl,cW rfl fd1 (bV bN hq.b () () (eS rfl fd1 ⟨_,rfl,bV hq.a bD () () ⟨rfl,?_⟩⟩));rw[hE,decide_eq_true rfl];exact z _ s1
theorem Y68:DZ 1 Z.f68 Z.d68 ["_law_found"] zM "_law_an_int":=by
 exists ?_,F68.b1 _ (by intros;rfl),F68.kp,m68
 refine F68.ok9 Vi λcdv A outer s H vs Q E hr h=>?_;obtain⟨i,rfl,q⟩:=h;exists _,(aG (aY (jW (fH (i:=0) rfl (Or.inl rfl) bl.isi bl.int rfl rfl PyProof.Rows.boot_int) (jW (eP yE (pv 0) gO (bK _)) (oV (eP yE (pv 0) gO (bK _))))))),?_;exists _,_,true,rfl,.of (.int i),rfl,_,rfl,dA ⟨_,rfl,i,_,rfl,rfl,_,rfl,dA ⟨_,rfl,i,_,rfl,rfl,q⟩⟩
theorem X8:gZ Z.K Z.c_Net "add" Z.f30:=⟨a30_0,i30,F30.kp⟩
theorem Y69:DZ 6 Z.f69 Z.d69 ["_law_many","_law_rows_here"] (An Z.c_Net Z.K) "_law_net":=by
 exists ?_,F69.b2 _ _ (by intros;rfl),F69.kp,m69
 refine F69.ok9 Bk λ_ _ _ s H _ Q E hr h=>?_;obtain⟨m,r,us,ds,rfl,hm1,hm20,hU,hR,hK,h40,q⟩:=h;have r3:=hr.mono (show 3<=5 by lia);refine⟨_,(aD (qQ1 (i:=2) Bk.nd (oC MN R27 r3 rfl NTx.mN b27 .nil aM (aA (pv 0) aC)))
  (aD (dY PassesOwn.never rfl (bZ (pv 1)) (qQ0 (i:=3) Bk.nd)
   (aG (cD (uC (pv 2) NTx.cl X8 R30 hr b30 .nil aM (aA (d9 Y21 r3 rfl (aA (pv 3) aC)) aC)))))
  (aG (aY (pv 2))))),?_⟩
 have lus:=hR.length;exists _,rfl,λn dx h1 h2 ne=>⟨n,dx,m,rfl,aB,hm1,hm20,λl H2 nl keep hn hl=>⟨rfl,?_⟩⟩;have s2:aP H H2:=λb o e=>keep b o (by rw[aU (bA e h1),aU (bA e h2)];exact e) (bA e h1);have hl0:H l=none:=by
  cases o:H l with
  |none=>rfl
  |some o'=>
   have:(upd (upd H dx (.own n)) n (.ins Z.c_Net dx [])) l=some o':=by rw[aU (bA o h1),aU (bA o h2)];exact o
   rw[this] at nl;cases nl
 exists _,rfl,r,rfl,⟨_,s2.seq hU⟩,?_;refine fQ (xs:=us) (λi σ H'=>aP H H'/\dR Z.c_Net Z.K H' n l m (ds.take i)/\∃z,σ=[some (.int m),some (.ref r),some (.ref n),z]) ⟨s2,⟨⟨dx,hn⟩,[],hl,.nil⟩,none,rfl⟩ (λi σ H' _ h=>h.1.seq hU) ?_ ?_
 .rintro i x σ H3 hx ⟨s3,N3,z,rfl⟩;have hi:i < ds.length:=by
   have:=(List.getElem?_eq_some_iff.mp hx).1;lia
  obtain⟨⟨k,u,v,p⟩,hd⟩:∃d,ds[i]?=some d:=⟨_,getElem?_eq_getElem hi⟩
  obtain⟨t,z',et,hT,fz⟩:=hR.at hd;have ex:x=.ref t:=by rw[et] at hx;exact(Option.some.inj hx).symm
  subst ex;obtain⟨dn,hn3⟩:=N3.ob;have lt:(ds.take i).length<=ds.length:=by rw[length_take];lia
  exists _,rfl,n,dn,_,rfl,hn3,fD _ _ ∅ ∅,_,rfl,t,_,_,_,_,rfl,s3.seqT hT,k,rfl,λy H4 s4 ny rw=>?_;exists n,l,y,z',m,ds.take i,k,u,v,p,rfl,N3.same s4,rw,(s3.trans s4).fq fz,hK _ (mem_of_getElem? hd),by rw[length_take];lia,λH5 x5 N5=>?_;exists λb o e=>x5 _ _ ((s3.trans s4) _ _ e) (bA e hl0),?_,_,rfl;rw[take_add_one,hd];exact N5
 .rintro σ H3 ⟨s3,N3,z,rfl⟩;rw[lus,take_length] at N3;exists _,rfl,q n l H3 s3 hl0 N3
theorem Y70:DZ 3 Z.f70 Z.d70 ["_law_cell","_law_far"] As "_law_size":=by
 exists ?_,F70.b2 _ _ (by intros;rfl),F70.kp,m70
 refine F70.ok9 qi6 λ_ _ _ s H _ Q E hr h=>?_;obtain⟨c,fr,rfl,q⟩:=h;refine⟨_,(aD (cN (cV (pv 1)) (aG (aY (d9 Y64 hr rfl (aA (aT gE aF (aT dL (aT jC (pv 0) aF) aF)) (aA (aT gE aF (aT dL (aT jC (pv 0) aF) aF)) aC))))) bH)
  (aG (aY (d9 Y64 hr rfl (aA (aT gE aF (aT dL (aT dL (aT jC (pv 0) aF) aF) aF)) (aA (aT gE aF (aT dL (aT dL (aT jC (pv 0) aF) aF) aF)) aC)))))),?_⟩
 exists _,rfl,_,rfl,?_
 cases fr
 .refine dE ⟨_,rfl,_,_,rfl,rfl,Or.inr ⟨∅,∅⟩,_,_,rfl,rfl,(show (0:Int) < 10007 by decide),_,_,rfl,rfl,(show (0:Int) < 9 by decide),_,_,rfl,rfl,_,rfl,_,_,rfl,rfl,Or.inr ⟨∅,∅⟩,_,_,rfl,rfl,(show (0:Int) < 31 by decide),_,_,rfl,rfl,(show (0:Int) < 4 by decide),_,_,rfl,rfl,?_⟩;have a1:=tE (c*48271 % 10007) (show (0:Int) < 9 by decide);have a2:=tJ (c*48271 % 10007) (show (0:Int) < 9 by decide);have b1:=tE (c*16807 % 31) (show (0:Int) < 4 by decide);have b2:=tJ (c*16807 % 31) (show (0:Int) < 4 by decide);exact Ec q () (by show _ < (16:Int);lia) () (by show _ < (16:Int);lia)
 .refine dA ⟨_,rfl,_,_,rfl,rfl,Or.inr ⟨∅,∅⟩,_,_,rfl,rfl,(show (0:Int) < 999999937 by decide),_,_,rfl,rfl,_,rfl,_,_,rfl,rfl,Or.inr ⟨∅,∅⟩,_,_,rfl,rfl,(show (0:Int) < 999999929 by decide),_,_,rfl,rfl,?_⟩;have a1:=tE (c*48271) (show (0:Int) < 999999937 by decide);have a2:=tJ (c*48271) (show (0:Int) < 999999937 by decide);have b1:=tE (c*69621) (show (0:Int) < 999999929 by decide);have b2:=tJ (c*69621) (show (0:Int) < 999999929 by decide);exact Ec q () (by show _ < (1073741824:Int);lia) () (by show _ < (1073741824:Int);lia)
theorem Y71:DZ 3 Z.f71 Z.d71 ["_law_cell","_law_far"] pT "_law_amount":=by
 exists ?_,F71.b2 _ _ (by intros;rfl),F71.kp,m71
 refine F71.ok9 Rh λcdv A outer s H vs Q E hr h=>?_;obtain⟨c,fr,rfl,q⟩:=h;refine⟨_,(aD (cN (cV (pv 1)) (aG (aY (d9 Y64 hr rfl (aA (aT oW (aT dL (aT jC (pv 0) aF) aF) aF) (aA (aT gE aF (aT dL (aT jC (pv 0) aF) aF)) aC))))) bH)
  (aG (aY (d9 Y64 hr rfl (aA (aT oW (aT dL (aT dL (aT jC (pv 0) aF) aF) aF) aF) (aA (aT gE aF (aT dL (aT dL (aT jC (pv 0) aF) aF) aF)) aC)))))),?_⟩
 exists _,rfl,_,rfl,?_
 cases fr
 .refine dE ⟨_,rfl,_,_,rfl,rfl,Or.inr ⟨∅,∅⟩,_,_,rfl,rfl,(show (0:Int) < 10009 by decide),_,_,rfl,rfl,(show (0:Int) < 19 by decide),_,_,rfl,rfl,_,rfl,_,_,rfl,rfl,Or.inr ⟨∅,∅⟩,_,_,rfl,rfl,(show (0:Int) < 37 by decide),_,_,rfl,rfl,(show (0:Int) < 3 by decide),_,_,rfl,rfl,?_⟩;have a1:=tE (c*69621 % 10009) (show (0:Int) < 19 by decide);have a2:=tJ (c*69621 % 10009) (show (0:Int) < 19 by decide);have b1:=tE (c*16807 % 37) (show (0:Int) < 3 by decide);have b2:=tJ (c*16807 % 37) (show (0:Int) < 3 by decide);exact vH q (by show -(16:Int) < _;lia) (by show _ < (16:Int);lia) () (by show _ < (16:Int);lia)
 .refine dA ⟨_,rfl,_,_,rfl,rfl,Or.inr ⟨∅,∅⟩,_,_,rfl,rfl,(show (0:Int) < 1999999973 by decide),_,_,rfl,rfl,_,rfl,_,_,rfl,rfl,Or.inr ⟨∅,∅⟩,_,_,rfl,rfl,(show (0:Int) < 999999893 by decide),_,_,rfl,rfl,?_⟩;have a1:=tE (c*69621) (show (0:Int) < 1999999973 by decide);have a2:=tJ (c*69621) (show (0:Int) < 1999999973 by decide);have b1:=tE (c*48271) (show (0:Int) < 999999893 by decide);have b2:=tJ (c*48271) (show (0:Int) < 999999893 by decide);exact vH q (by show -(1073741824:Int) < _;lia) (by show _ < (1073741824:Int);lia) () (by show _ < (1073741824:Int);lia)
theorem Y72:DZ 4 Z.f72 Z.d72 ["_law_script","_law_many","_law_far"] (Be Z.K) "_law_rows":=by
 exists ?_,F72.b3 _ _ _ (by intros;rfl),F72.kp,m72
 refine F72.ok9 lK λ_ _ _ s H _ Q E hr h=>?_;obtain⟨a,ns,m,fr,rfl,hS,h63,hm1,hmB,q⟩:=h;have r1:=hr.mono (show 1<=3 by lia);refine⟨_,(aD (qQ1 (i:=3) lK.nd (eU aC))
  (aD (cN (bG fK (aT dL (d9 Y62 r1 rfl (aA (pv 0) (aA aF aC))) aF) aF (bK _)) (aG (dY PassesOwn.never rfl (yP rfl n_range (aA aF (aA (pv 1) aC))) (qQ0 (i:=4) lK.nd)
   (aD (qQ1 (i:=5) lK.nd (d9 Y62 r1 rfl (aA (pv 0) (aA (aT gE aF (pv 4)) aC))))
  (aG (cD (oQ PySem.F.plainAttrs_list PySem.F.slot_list_append PySem.F.type_list_append gB (pv 3) (aA (gD (aA dH (aA (pv 4) (aA (aT nJ (aT dL (aT jC (pv 5) aF) aF) (pv 4)) (aA (d9 Y70 hr rfl (aA (pv 5) (aA (pv 2) aC))) aC))))) aC))))))) bH)
  (aD (dY PassesOwn.never rfl (bZ (gG kP (pv 0) (gA aF) (gA (aT gE aF (aT dL (d9 Y62 r1 rfl (aA (pv 0) (aA aF aC))) (aS bS (eU (aA aF (aA aF aC))) (cS sQ rfl bl.int PyProof.Rows.boot_int (aA (pv 2) aC)) (λ_ _=>rfl))))))) (qQ0 (i:=5) lK.nd)
   (aD (qQ1 (i:=6) lK.nd (gD (aA dH (aA (aT nJ (aT tX (pv 5) aF) (pv 1)) (aA (aT nJ (aT dL (aT jC (pv 5) aF) aF) (pv 1)) (aA (d9 Y70 hr rfl (aA (pv 5) (aA (pv 2) aC))) aC))))))
  (aD (cN (bG fK (aT dL (pv 5) aF) aF (bK _)) (aG (qQ1 (i:=6) lK.nd (aT Ck (aT Ck (gD (aA dH aC)) (gG Sf (pv 6) (gA aF) (gA aF))) (gD (aA (d9 Y71 hr rfl (aA (pv 5) (aA (pv 2) aC))) aC))))) bH)
  (aG (cD (oQ PySem.F.plainAttrs_list PySem.F.slot_list_append PySem.F.type_list_append gB (pv 3) (aA (pv 6) aC)))))))
  (aG (aY (pv 3)))))),?_⟩
 have m6:m<=6:=by unfold mB at hmB;split at hmB<;>lia
 exists zl9 0,λr hr0=>?_;obtain⟨H1,q,s1,e1⟩:=nw hr0 (.lst []);rw[q];clear q
 try dsimp only
 refine fB (λσ' H'=>aP H H'/\∃(us:List V) (ds:List RD) (z4 z5:Option V),σ'=[some (.ref a),some (.int (m:Int)),some (.bl fr),some (.ref r),z4,z5,none]/\H' r=some (.lst us)/\Rts Z.K H' us ds/\(∀d∈ds,DrB fr m d)/\ds.length+1<=m) (λX2 hX2=>?_) ?_
 .exists _,rfl,a,ns,1,1,rfl,rfl,s1.seq hS,h63,(),λv H2 s2=>⟨_,_,rfl,rfl,(show (0:Int) < 2 by decide),?_⟩;exists rfl,_,rfl,rS (λ_=>?_) (λ_=>?_)
  rotate_left
  .exact hX2 _ _ ⟨s1.trans s2,[],[],none,none,rfl,s2 _ _ e1,.nil,(λd hd=>by cases hd),by simpa using hm1⟩
  exists _,rfl,(1:Int),(m:Int),rfl,⟨(),(),(),()⟩,?_;rw[show ((m:Int) - 1).toNat=m - 1 by lia];refine oE (lo:=1) (n:=m - 1) (λi σ H'=>aP H H'/\∃(us:List V) (ds:List RD) (z4 z5:Option V),σ=[some (.ref a),some (.int (m:Int)),some (.bl fr),some (.ref r),z4,z5,none]/\H' r=some (.lst us)/\Rts Z.K H' us ds/\(∀d∈ds,DrB fr m d)/\ds.length=i) ⟨s1.trans s2,[],[],none,none,rfl,s2 _ _ e1,.nil,(λd hd=>by cases hd),rfl⟩ ?_ ?_
  .rintro i σ H3 hi ⟨s3,us,ds,z4,z5,rfl,er,hR,hK,hlen⟩;have ei:(1:Int)+(i:Int)=((1+i:Nat):Int):=by lia
   rw[ei];exists _,rfl,_,rfl,_,_,rfl,rfl,a,ns,20+((1+i:Nat):Int),21+i,rfl,(),s3.seq hS,h63,(),λc H4 s4=>?_;have er4:=s4 _ _ er;have m0:((1+i:Nat):Int)≠0:=by lia
   have mp:0 < ((1+i:Nat):Int):=by lia
   have b3:=Int.fmod_nonneg_of_pos (a:=c*40692 % 10037) mp;have b4:=Int.fmod_lt_of_pos (c*40692 % 10037) mp;have lus:=hR.length;exists _,rfl,.inl ⟨rfl,_,SqL.of er4⟩,_,rfl,_,rfl,_,_,rfl,rfl,Or.inr ⟨∅,∅⟩,_,_,rfl,rfl,(show (0:Int) < 10037 by decide),_,rfl,_,_,rfl,rfl,m0,_,rfl,_,rfl,c,fr,rfl,λp pp bp z H5 s5 e5=>?_;exists zl9 4,λt ht=>?_;have s6:=aE ht (.tup [.str "piece",.int (((1+i:Nat)):Int),.int (Int.fmod (c*40692 % 10037) ((1+i:Nat):Int)),.ref z]);have et:SqT Z.K (upd H5 t (.tup [.str "piece",.int (((1+i:Nat)):Int),.int (Int.fmod (c*40692 % 10037) ((1+i:Nat):Int)),.ref z])) t [.str Kd.pc.wd,.int (((1+i:Nat)):Int),.int (Int.fmod (c*40692 % 10037) ((1+i:Nat):Int)),.ref z]:=SqT.of aB;generalize upd H5 t (.tup [.str "piece",.int (((1+i:Nat)):Int),.int (Int.fmod (c*40692 % 10037) ((1+i:Nat):Int)),.ref z])=H6 at s6 et ⊢;have er6:=s6 _ _ (s5 _ _ er4);have fz:Fq Z.K H6 z p:=s6.seqT (Fq.of e5);have s36:=s4.trans (s5.trans s6);exists r,us,.ref t,rfl,rfl,er6,aV (),?_;refine⟨(s3.trans s36).change hr0,us++[.ref t],ds++[(.pc,((1+i:Nat):Int),Int.fmod (c*40692 % 10037) ((1+i:Nat):Int),p)],_,_,rfl,aB,Rts.upd er6 ((hR.same s36).app (.cons et fz .nil)),λd hd=>?_,by rw[List.length_append,hlen];rfl⟩;rcases mem_append.mp hd with z | z
   .exact hK d z
   .have:d=(.pc,((1+i:Nat):Int),Int.fmod (c*40692 % 10037) ((1+i:Nat):Int),p):=by simpa using z
    rw[this];exists Jy () () b3 () pp bp,bp,λz=>by cases z
  .rintro σ H3 ⟨s3,us,ds,z4,z5,rfl,er,hR,hK,hlen⟩;exact hX2 _ _ ⟨s3,us,ds,z4,z5,rfl,er,hR,hK,()⟩
 rintro σ2 H2 ⟨s2,us0,ds0,z4,z5,rfl,er0,hR0,hK0,hlen0⟩;exists _,rfl,6,rfl,_,rfl,a,ns,2,2,rfl,rfl,s2.seq hS,h63,(),λv H3 s3=>?_;exists zl9 2,λL hL=>?_;obtain⟨H4,q,s4,e4⟩:=nw hL (.lst [V.int 13,.int 7]);rw[q];clear q;have s23:=s3.trans s4;have s04:=s2.trans s23;obtain⟨nb,hnb,ek⟩:∃nb:Int,nb=((nDr fr:Nat):Int)+1/\atI [V.int 13,.int 7] (if fr then 1 else 0)=some (.int nb):=by
  cases fr
  .exists 13,rfl,rfl
  .exists 7,rfl,rfl
 have nb0:0 < nb:=by lia
 have f0:=Int.emod_nonneg v (show nb≠0 by lia);have f9:=Int.emod_lt_of_pos v nb0;exists _,rfl,.inr ⟨fr,rfl,L,_,_,_,rfl,rfl,SqL.of e4,ek,_,_,rfl,rfl,nb0,_,_,rfl,rfl,6+v % nb,rfl,a,_,rfl,s04.seq hS,λC hC=>?_⟩;have c14:=Xd (ns.map V.int) (v % nb) (n:=nDr fr) f0 ();obtain⟨ms,em⟩:=Mc ns (some 6) (some (6+v % nb));rw[em] at c14 ⊢;rw[length_map] at c14;have er4:=s23 _ _ er0;have s5:=aE hC (.lst (ms.map V.int));have eC:upd H4 C (.lst (ms.map V.int)) C=some (.lst (ms.map V.int)):=aB;have nCr:C≠r:=Ne.symm (bA er4 hC);have e5:=s5 _ _ er4;generalize upd H4 C (.lst (ms.map V.int))=H5 at s5 eC e5 ⊢;have n6:nDr fr<=12:=by cases fr<;>decide
 exists C,rfl,⟨_,SqL.of eC⟩,?_;refine fQ (xs:=ms.map V.int) (λn σ H'=>aP H H'/\H' C=some (.lst (ms.map V.int))/\∃(us:List V) (ds:List RD) (z4 z5 z6:Option V),σ=[some (.ref a),some (.int (m:Int)),some (.bl fr),some (.ref r),z4,z5,z6]/\H' r=some (.lst us)/\Rts Z.K H' us ds/\(∀d∈ds,DrB fr m d)/\ds.length=ds0.length+n) ⟨s04.trans s5,eC,us0,ds0,_,_,none,rfl,e5,hR0.same (s23.trans s5),hK0,rfl⟩ (λi σ H' _ h=>SqL.of h.2.1) ?_ ?_
 .rintro n x σ H6 hx ⟨s6,eC6,us,ds,z4,z5,z6,rfl,er,hR,hK,hlen⟩;have hn:n < nDr fr:=by
   have:=(List.getElem?_eq_some_iff.mp hx).1;rw[length_map] at this;lia
  obtain⟨c,rfl⟩:∃c,x=.int c:=by
   rw[getElem?_map] at hx
   cases hm:ms[n]? with
   |none=>rw[hm] at hx;cases hx
   |some c=>rw[hm] at hx;cases hx;exists c,rfl
  have lus:=hR.length;have m0:(m:Int)≠0:=by lia
  have mp:0 < (m:Int):=by lia
  have b1:=Int.fmod_nonneg_of_pos (a:=c / 4) mp;have b2:=Int.fmod_lt_of_pos (c / 4) mp;have b3:=Int.fmod_nonneg_of_pos (a:=c*40692 % 10037) mp;have b4:=Int.fmod_lt_of_pos (c*40692 % 10037) mp
  try dsimp only
  refine fB (λσ' H'=>aP H6 H'/\∃(t z:Addr) (p:Mq.Q2),σ'=[some (.ref a),some (.int (m:Int)),some (.bl fr),some (.ref r),z4,some (.int c),some (.ref t)]/\SqT Z.K H' t [.str Kd.pc.wd,.int (Int.fmod (c / 4) m),.int (Int.fmod (c*40692 % 10037) m),.ref z]/\Fq Z.K H' z p/\Ps p/\Mq.Bd (bits fr) p) (λX2 hX2=>?_) ?_
  .exists _,rfl,_,_,rfl,rfl,⟨∅,∅⟩,_,rfl,_,_,rfl,rfl,m0,_,rfl,_,_,rfl,rfl,Or.inr ⟨∅,∅⟩,_,_,rfl,rfl,(show (0:Int) < 10037 by decide),_,rfl,_,_,rfl,rfl,m0,_,rfl,_,rfl,c,fr,rfl,λp pp bp z H7 s7 e7=>?_;exists zl9 4,λt ht=>?_;have s8:=aE ht (.tup [.str "piece",.int (Int.fmod (c / 4) m),.int (Int.fmod (c*40692 % 10037) m),.ref z]);exact hX2 _ _ ⟨s7.trans s8,t,z,p,rfl,SqT.of aB,s8.seqT (Fq.of e7),pp,bp⟩
  rintro σ7 H7 ⟨s7,t,z,p,rfl,et,fz,pp,bp⟩
  try dsimp only
  refine fB (λσ' H'=>aP H6 H'/\∃(t z:Addr) (p:Mq.Q2) (k:Kd),σ'=[some (.ref a),some (.int (m:Int)),some (.bl fr),some (.ref r),z4,some (.int c),some (.ref t)]/\SqT Z.K H' t [.str k.wd,.int (Int.fmod (c / 4) m),.int (Int.fmod (c*40692 % 10037) m),.ref z]/\Fq Z.K H' z p/\DrB fr m (k,Int.fmod (c / 4) m,Int.fmod (c*40692 % 10037) m,p)) (λX2 hX2=>?_) ?_
  .exists _,rfl,_,_,rfl,rfl,(show (0:Int) < 4 by decide),rfl,_,rfl,rS (λ_=>?_) (λ_=>?_)
   rotate_left
   .exact hX2 _ _ ⟨s7,t,z,p,.pc,rfl,et,fz,Jy b1 b2 b3 b4 pp bp,bp,λz=>by cases z⟩
   exists zl9 1,λt1 ht1=>?_;have s8:=aE ht1 (.tup [.str "push"]);have e8:SqT Z.K (upd H7 t1 (.tup [.str "push"])) t1 [.str "push"]:=SqT.of aB;generalize upd H7 t1 (.tup [.str "push"])=H8 at s8 e8 ⊢;exists _,rfl,1,rfl,3,rfl,t,_,rfl,s8.seqT et,by show ¬(HT.sIx 4 0 (some 1)=0/\HT.sIx 4 4 (some 3)=4);decide,λt2 ht2=>?_;show Ue _ _ _ _ _;have s9:=aE ht2 (.tup [.int (Int.fmod (c / 4) m),.int (Int.fmod (c*40692 % 10037) m)]);have e9:SqT Z.K (upd H8 t2 (.tup [.int (Int.fmod (c / 4) m),.int (Int.fmod (c*40692 % 10037) m)])) t2 [.int (Int.fmod (c / 4) m),.int (Int.fmod (c*40692 % 10037) m)]:=SqT.of aB;exists t1,t2,_,_,rfl,rfl,s9.seqT e8,e9,⋯,zl9 3,(λz=>nomatch z),λ_ t3 ht3=>?_;have sA:aP (upd H8 t2 (.tup [.int (Int.fmod (c / 4) m),.int (Int.fmod (c*40692 % 10037) m)])) (upd (upd H8 t2 (.tup [.int (Int.fmod (c / 4) m),.int (Int.fmod (c*40692 % 10037) m)])) t3 (.tup [.str "push",.int (Int.fmod (c / 4) m),.int (Int.fmod (c*40692 % 10037) m)])):=aE ht3 (.tup [.str "push",.int (Int.fmod (c / 4) m),.int (Int.fmod (c*40692 % 10037) m)]);have eA:SqT Z.K (upd (upd H8 t2 (.tup [.int (Int.fmod (c / 4) m),.int (Int.fmod (c*40692 % 10037) m)])) t3 (.tup [.str "push",.int (Int.fmod (c / 4) m),.int (Int.fmod (c*40692 % 10037) m)])) t3 [.str "push",.int (Int.fmod (c / 4) m),.int (Int.fmod (c*40692 % 10037) m)]:=SqT.of aB;have s7A:=s8.trans (s9.trans sA);clear e8 e9;show qb6 _ _ (upd (upd H8 t2 (.tup [.int (Int.fmod (c / 4) m),.int (Int.fmod (c*40692 % 10037) m)])) t3 (.tup [.str "push",.int (Int.fmod (c / 4) m),.int (Int.fmod (c*40692 % 10037) m)])) _;generalize upd (upd H8 t2 (.tup [.int (Int.fmod (c / 4) m),.int (Int.fmod (c*40692 % 10037) m)])) t3 (.tup [.str "push",.int (Int.fmod (c / 4) m),.int (Int.fmod (c*40692 % 10037) m)])=H9 at s7A eA ⊢;exists _,rfl,_,rfl,c,fr,rfl,λp2 pp2 bp2 z2 H10 s10 e10=>⟨zl9 1,λt4 ht4=>?_⟩;have sB:=aE ht4 (.tup [.ref z2]);have eB:SqT Z.K (upd H10 t4 (.tup [.ref z2])) t4 [.ref z2]:=SqT.of aB;generalize upd H10 t4 (.tup [.ref z2])=H11 at sB eB ⊢;exists t3,t4,_,_,rfl,rfl,(s10.trans sB).seqT eA,eB,⋯,zl9 4,(λz=>nomatch z),λ_ t5 ht5=>?_;have sC:=aE ht5 (.tup [.str "push",.int (Int.fmod (c / 4) m),.int (Int.fmod (c*40692 % 10037) m),.ref z2]);exact hX2 _ _ ⟨s7.trans (s7A.trans (s10.trans (sB.trans sC))),t5,z2,p2,.pu,rfl,SqT.of aB,(sB.trans sC).seqT (Fq.of e10),Xk b1 b2 b3 b4 pp2 bp2,bp2,λz=>by cases z⟩
  rintro σ8 H8 ⟨s8,t,z,p,k,rfl,et,fz,dr⟩;have er8:=s8 _ _ er;exists _,rfl,.inl ⟨rfl,_,SqL.of er8⟩,_,rfl,r,us,.ref t,rfl,rfl,er8,aV (),?_;refine⟨(s6.trans s8).change hr0,by rw[aU nCr];exact s8 _ _ eC6,us++[.ref t],ds++[(k,Int.fmod (c / 4) m,Int.fmod (c*40692 % 10037) m,p)],_,_,_,rfl,aB,Rts.upd er8 ((hR.same s8).app (.cons et fz .nil)),λd hd=>?_,by rw[List.length_append,hlen];rfl⟩;rcases mem_append.mp hd with z | z
  .exact hK d z
  .have:d=(k,Int.fmod (c / 4) m,Int.fmod (c*40692 % 10037) m,p):=by simpa using z
   rw[this];exact dr
 rintro σ H6 ⟨s6,-,us,ds,z4,z5,z6,rfl,er,hR,hK,hlen⟩;rw[length_map] at hlen;exists _,rfl,q r us ds H6 s6 hr0 er hR hK (by cases fr<;>(unfold nRw nDr mB at *;simp at *;lia))
theorem Y73:DZ 2 Z.f73 Z.d73 ["_law_script","_law_many"] (Ip Z.K) "_law_ends":=by
 exists ?_,F73.b2 _ _ (by intros;rfl),F73.kp,m73
 refine F73.ok9 mP λ_ _ _ s H _ Q E hr h=>?_;obtain⟨a,ns,m,rfl,hS,h63,hm1,hm6,q⟩:=h;refine⟨_,(aD (aW (i:=2) mP.nd rfl (Or.inr rfl) (d9 Y62 hr rfl (aA (pv 0) (aA aF aC))))
  (aD (gJ (i:=3) (nl:=1) (fr:=[2]) (Nc:=["_law_point","_law_cell"]) (cl:=[("_law_cell",s.heap.objs.size+1)]) mP.nd rfl rfl rfl ⟨rfl,rfl,∅,∅,λx c h=>h,cG rfl,rfl,λi n h=>match i,h with | 0,h=>by cases h;exact⟨2,rfl,rfl,rfl,rfl,.inl rfl⟩ | k+1,h=>by rw[show 1+(k+1)=k+2 by lia] at h;cases h⟩
    (fE rfl n_range (aA (pv 1) aC)) (λ_ _ _ _ _=>(qQ0 (i:=0) xR)) (λ_ _ _ _ _=>(pW (bG fK (aT dL (aT gU (aT dL (pv 1) aF) (aS (gF (K:=Z.K) rfl) (eU (aA aF (aA aF (aA aF (aA aF (aA aF (aA aF aC))))))) (pv 0) (λ_ _=>rfl))) aF) aF (bK _))))
    (λ_ _ _ _ _=>(pv 0)) rfl)
  (aD (cN (bG fK (bM bC rfl n_len PySem.boot_len (aA (pv 3) aC)) aF (bK _)) (aG (qQ1 (i:=3) mP.nd (eU (aA (aT nJ (pv 2) (pv 1)) aC)))) bH)
  (aD (qQ1 (i:=4) mP.nd (d9 Y62 hr rfl (aA (pv 0) (aA aF aC))))
  (aD (qQ1 (i:=5) mP.nd (eU aC))
  (aD (dY PassesOwn.never rfl (bZ (pv 3)) (qQ0 (i:=6) mP.nd)
   (aD (cD (oQ PySem.F.plainAttrs_list PySem.F.slot_list_insert PySem.F.type_list_insert Nt (pv 5) (aA (aT dL (pv 4) (aT gE (bM bC rfl n_len PySem.boot_len (aA (pv 5) aC)) aF)) (aA (pv 6) aC))))
  (aG (qQ1 (i:=4) mP.nd (aT gU (pv 4) (bM bC rfl n_len PySem.boot_len (aA (pv 5) aC)))))))
  (aG (aY (pv 5))))))))),?_⟩
 exists _,rfl,a,ns,3,3,rfl,rfl,hS,h63,(),λc H1 s1=>?_
 try dsimp only
 refine fB (λσ' H'=>aP H H'/\∃(D:Addr) (ps:List Nat),σ'=[some (.ref a),some (.int (m:Int)),some (.int c),some (.ref D),none,none,none]/\H' D=some (.lst ((ups ps).map V.int))/\ps.Nodup/\∀e∈ps,e < m) (λX2 hX2=>?_) ?_
 .exists _,rfl,(m:Int),rfl,(),(),λD hD=>?_;rw[Int.toNat_natCast];have sD:=aE hD (.lst []);refine fV (n:=m) (λi zs H'=>aP H1 H'/\H' D=some (.lst zs)/\∃ps:List Nat,zs=(ups ps).map V.int/\ps.Nodup/\(∀e∈ps,e < i)/\ps.length<=i) ⟨sD,aB,[],rfl,nodup_nil,(λe he=>by cases he),Nat.le_refl _⟩ (λi zs H' h=>h.2.1) ?_ ?_
  .rintro i zs H3 hi ⟨s3,e3,ps,rfl,nd,lt,ll⟩ C hC;obtain⟨j,j1,j32,ej⟩:=at6 (show i < 6 by lia);exists bU.1,bU.2,_,rfl,_,_,rfl,rfl,(show (0:Int) < 1000003 by decide),zl9 6,λL hL=>?_;obtain⟨H4,q,s4,e4⟩:=nw hL (.lst [V.int 1,.int 2,.int 4,.int 8,.int 16,.int 32]);rw[q];clear q;exists _,rfl,L,_,_,_,rfl,rfl,SqL.of e4,by rw[Int.zero_add];exact ej,_,_,rfl,rfl,⟨(),6,by show j.natAbs < 2 ^ 6;lia,∅⟩,_,_,rfl,rfl,(show (0:Int) < 2 by decide),rfl,_,rfl,rS (λ_=>?_) (λ_=>?_)
   .have e3':=s4 _ _ e3;exists _,rfl,e3',aV (by unfold ups;rw[length_map,length_map];lia),hC _ _ ⟨(s3.trans s4).change hD,aB,ps++[i],?_,?_,?_,?_⟩
    .rw[Int.zero_add];unfold ups;rw[map_append,map_append];rfl
    .exact nodup_append.mpr ⟨nd,⋯,λx hx y hy z=>by have:=lt x hx;have:y=i:=(by simpa using hy);lia⟩
    .intro e he;rcases mem_append.mp he with z | z
     .have:=lt e z;lia
     .have:e=i:=by simpa using z
      lia
    .rw[List.length_append];simp;lia
   .exact hC _ _ ⟨s3.trans s4,s4 _ _ e3,ps,rfl,nd,λe he=>by have:=lt e he;lia,()⟩
  .rintro zs H3 ⟨s3,e3,ps,rfl,nd,lt,ll⟩;exact hX2 _ _ ⟨s1.trans s3,D,ps,rfl,e3,nd,lt⟩
 rintro σ2 H2 ⟨s2,D,ps,rfl,eD,nd,lt⟩
 try dsimp only
 refine fB (λσ' H'=>aP H H'/\∃(D:Addr) (ps:List Nat),σ'=[some (.ref a),some (.int (m:Int)),some (.int c),some (.ref D),none,none,none]/\H' D=some (.lst ((ups ps).map V.int))/\iO m ps) (λX2 hX2=>?_) ?_
 .exists _,rfl,D,_,rfl,.inl (SqL.of eD),rfl,_,rfl,rS (λ_=>?_) (λe=>?_)
  .have m0:(m:Int)≠0:=by lia
   have mp:0 < (m:Int):=by lia
   have b3:=Int.fmod_nonneg_of_pos (a:=c) mp;have b4:=Int.fmod_lt_of_pos c mp;exists _,rfl,_,rfl,_,_,rfl,rfl,m0,zl9 1,λL hL=>?_;have ec:Int.fmod c m=(((Int.fmod c m).toNat:Nat):Int):=by lia
   refine hX2 _ _ ⟨s2.trans (aE hL _),L,[(Int.fmod c m).toNat],rfl,?_,⟨⋯,⋯,λe he=>?_⟩⟩
   .rw[aB];show some (HO.lst [V.int (Int.fmod c m)])=some (.lst [V.int (((Int.fmod c m).toNat:Nat):Int)]);rw[<- ec]
   .have:e=(Int.fmod c m).toNat:=by simpa using he
    lia
  .refine hX2 _ _ ⟨s2,D,ps,rfl,eD,⟨λz=>?_,nd,lt⟩⟩;subst z;simp[ups] at e
 rintro σ3 H3 ⟨s3,D,ps,rfl,eD,ge⟩;obtain⟨_,lps⟩:=iY ge;exists _,rfl,a,ns,4,4,rfl,rfl,s3.seq hS,h63,(),λc4 H4 s4=>⟨zl9 0,λr hr0=>?_⟩;have s5:=aE hr0 (.lst []);have e5:upd H4 r (.lst []) r=some (.lst []):=aB;have eD5:=s5 _ _ (s4 _ _ eD);have hr:H r=none:=(s3.trans s4).free hr0;have nrD:D≠r:=λz=>by rw[<- z,s4 _ _ eD] at hr0;cases hr0
 generalize upd H4 r (.lst [])=H5 at s5 e5 eD5 ⊢;have s05:=s3.trans (s4.trans s5);exists _,rfl,D,rfl,⟨_,SqL.of eD5⟩,?_;refine fQ (xs:=(ups ps).map V.int) (λi σ H'=>aP H H'/\H' D=some (.lst ((ups ps).map V.int))/\∃(qs:List Nat) (z4:Int) (z6:Option V),σ=[some (.ref a),some (.int (m:Int)),some (.int c),some (.ref D),some (.int z4),some (.ref r),z6]/\H' r=some (.lst ((ups qs).map V.int))/\qs.length=i/\qs.Nodup/\∀e,e∈qs↔e∈ps.take i) ⟨s05,eD5,[],c4,none,rfl,e5,rfl,nodup_nil,λe=>by rw[take_zero]⟩ (λi σ H' _ h=>SqL.of h.2.1) ?_ ?_
 .rintro i x σ H6 hx ⟨s6,eD6,qs,z4,z6,rfl,er,lq,nq,mq⟩;have hi:=(List.getElem?_eq_some_iff.mp hx).1;rw[length_map] at hi;have hi':i < ps.length:=by unfold ups at hi;rw[length_map] at hi;exact hi
  have hp:=getElem?_eq_getElem hi';rw[iQ,getElem?_map,hp] at hx
  cases hx
  generalize ps[i]=p at hp ⊢;have hl:((ups qs).map V.int).length=i:=by unfold ups;rw[length_map,length_map,lq]
  have f0:=Int.emod_nonneg z4 (show (i:Int)+1≠0 by lia);have f1:=Int.emod_lt_of_pos z4 (show (0:Int) < (i:Int)+1 by lia);obtain⟨k,hk⟩:∃k:Nat,z4 % ((i:Int)+1)=(k:Int):=⟨(z4 % ((i:Int)+1)).toNat,()⟩
  have kl:k<=i:=by lia
  have nin:p∉qs:=λz=>by
   have z':=(mq p).mp z;obtain⟨j,hj,ej⟩:=getElem_of_mem z';rw[length_take] at hj;rw[getElem_take] at ej;have e1:=congrArg ps.idxOf ej;have e2:ps[i]=p:=(List.getElem?_eq_some_iff.mp hp).2;rw[ge.nd.idxOf_getElem j (),<- e2,ge.nd.idxOf_getElem i hi'] at e1;lia
  exists _,rfl,.inl ⟨rfl,_,SqL.of er⟩,_,rfl,_,rfl,r,_,rfl,.inl (SqL.of er),_,_,rfl,rfl,_,_,rfl,rfl,(by rw[hl];lia),_,rfl,r,_,k,_,.int (p:Int),rfl,rfl,by rw[hl];exact hk,by rw[hl];exact kl,er,aV (by rw[hl];lia),?_;have eq:((ups qs).map V.int).take k++V.int (p:Int) :: ((ups qs).map V.int).drop k=(ups (qs.take k++p :: qs.drop k)).map V.int:=by
   unfold ups;simp only[map_append,map_cons,map_take,map_drop]
  rw[eq];have lq':(qs.take k++p :: qs.drop k).length=i+1:=by
   rw[List.length_append,length_cons,length_take,length_drop];lia
  have pm:(qs.take k++p :: qs.drop k).Perm (p :: qs):=by
   have:=perm_middle (l₁:=qs.take k) (a:=p) (l₂:=qs.drop k)
   rwa [take_append_drop] at this
  generalize qs.take k++p :: qs.drop k=qs' at lq' pm ⊢;have eN:upd H6 r (.lst ((ups qs').map V.int)) r=some (.lst ((ups qs').map V.int)):=aB;have lN:(((ups qs').map V.int).length:Int)=(i:Int)+1:=by unfold ups;rw[length_map,length_map,lq'];lia
  exists _,rfl,_,rfl,r,_,rfl,.inl (SqL.of eN),_,_,rfl,rfl,⟨(),6,by show (((ups qs').map V.int).length:Int).natAbs < 2 ^ 6;lia,∅⟩,?_;exists s6.change hr,by rw[aU (Ne.symm (Ne.symm nrD))];exact eD6,qs',_,_,rfl,eN,lq',pm.nodup_iff.mpr (nodup_cons.mpr ⟨nin,nq⟩),λe=>?_;rw[pm.mem_iff,mem_cons,mq e,take_add_one,hp,mem_append];simp[or_comm]
 .rintro σ H6 ⟨s6,eD6,qs,z4,z6,rfl,er,lq,nq,mq⟩;have lu:((ups ps).map V.int).length=ps.length:=by unfold ups;rw[length_map,length_map]
  rw[lu] at lq mq;rw[take_length] at mq;exists _,rfl,q r qs H6 s6 hr er ⟨λz=>?_,nq,λe he=>ge.lt e ((mq e).mp he)⟩;rw[z] at lq;exact ge.ne (length_eq_zero_iff.mp lq.symm)
theorem Y74:DZ 1 Z.f74 Z.d74 ["_law_many","_law_rows_here","_law_ends_here"] (zF Z.K) "_law_apart":=by
 exists ?_,F74.b3 _ _ _ (by intros;rfl),F74.kp,m74
 refine F74.ok9 iI λ_ _ _ s H _ Q E hr h=>?_;obtain⟨r,b,us,m,ds,es,rfl,hS,hR,pt,nh,hm,hB,hE,h20,q⟩:=h;refine⟨_,(aD (aW (i:=3) iI.nd rfl (Or.inr rfl) (cU (nl:=1) (fr:=[]) (Nc:=["_law_k"]) (cl:=[]) rfl ⟨rfl,rfl,∅,∅,λx c h=>(by cases h),cG rfl,rfl,λi n h=>(by simp at h)⟩
    (fE rfl n_range (aA (pv 0) aC)) (λ_ _ _ _ _=>(qQ0 (i:=0) qs3)) (λ_ _ _ _ _=>cC)
    (λ_ _ _ _ _=>(pv 0))))
  (aD (dY PassesOwn.never rfl (bZ (pv 1)) (gC rfl (bO (qQ0 (i:=4) iI.nd) (bO (qQ0 (i:=5) iI.nd) (bO (qQ0 (i:=6) iI.nd) (bO (qQ0 (i:=7) iI.nd) eO)))))
   (aG (cN (bG fK (pv 4) dH (bK _)) (aD (aW (i:=8) iI.nd rfl (Or.inr rfl) (aS bS (pv 3) (pv 5) (λ_ _=>rfl)))
  (aD (aW (i:=9) iI.nd rfl (Or.inr rfl) (aS bS (pv 3) (pv 6) (λ_ _=>rfl)))
  (aG (aW (i:=3) iI.nd rfl (Or.inr rfl) (cU (nl:=1) (fr:=[9,8]) (Nc:=["_law_mark","_law_other","_law_one"]) (cl:=[("_law_other",s.heap.objs.size+3),("_law_one",s.heap.objs.size+2)]) rfl ⟨rfl,rfl,∅,∅,(bQ rfl (bQ rfl (dM))),cG rfl,rfl,λi n h=>match i,h with | 0,h=>by cases h;exact⟨9,rfl,rfl,rfl,rfl,.inl rfl⟩ | 1,h=>by cases h;exact⟨8,rfl,rfl,rfl,rfl,.inl rfl⟩ | k+2,h=>by rw[show 1+(k+2)=k+3 by lia] at h;cases h⟩
    (bZ (pv 3)) (λ_ _ _ _ _=>(qQ0 (i:=0) pX)) (λ_ _ _ _ _=>cC)
    (λ_ _ _ _ _=>(vJ (bG fK (pv 0) (pv 1) (bK _)) (pv 2) (pv 0)))))))) bH)))
  (aD (aW (i:=10) iI.nd rfl (Or.inr rfl) (cU (nl:=1) (fr:=[3]) (Nc:=["_law_end","_law_marks"]) (cl:=[("_law_marks",s.heap.objs.size+1)]) rfl ⟨rfl,rfl,∅,∅,(bQ rfl (dM)),cG rfl,rfl,λi n h=>match i,h with | 0,h=>by cases h;exact⟨3,rfl,rfl,rfl,rfl,.inl rfl⟩ | k+1,h=>by rw[show 1+(k+1)=k+2 by lia] at h;cases h⟩
    (bZ (pv 2)) (λ_ _ _ _ _=>(qQ0 (i:=0) Cf)) (λ_ _ _ _ _=>cC)
    (λ_ _ _ _ _=>(aS (gF (K:=Z.K) rfl) (pv 1) (pv 0) (λ_ _=>rfl)))))
  (aG (aY (cU (nl:=1) (fr:=[3,10]) (Nc:=["_law_point","_law_marks","_law_known"]) (cl:=[("_law_marks",s.heap.objs.size+1),("_law_known",s.heap.objs.size+4)]) rfl ⟨rfl,rfl,∅,∅,(bQ rfl (bQ rfl (dM))),cG rfl,rfl,λi n h=>match i,h with | 0,h=>by cases h;exact⟨3,rfl,rfl,rfl,rfl,.inl rfl⟩ | 1,h=>by cases h;exact⟨10,rfl,rfl,rfl,rfl,.inl rfl⟩ | k+2,h=>by rw[show 1+(k+2)=k+3 by lia] at h;cases h⟩
    (fE rfl n_range (aA (pv 0) aC)) (λ_ _ _ _ _=>(qQ0 (i:=0) mX)) (λ_ _ _ _ _=>(pW (bG (iJ (K:=Z.K) rfl) (aS (gF (K:=Z.K) rfl) (pv 1) (pv 0) (λ_ _=>rfl)) (pv 2) rfl)))
    (λ_ _ _ _ _=>(pv 0)))))))),?_⟩
 have lus:=hR.length;refine fB (λσ' H'=>aP H H'/\∃D,H D=none/\H' D=some (.lst ((mks m (ds.take 0)).map V.int))/\σ'=[some (.int (m:Int)),some (.ref r),some (.ref b),some (.ref D),none,none,none,none,none,none,none]) (λX hX=>?_) ?_
 .exists _,rfl,(m:Int),rfl,(),(),λD hD=>?_;rw[Int.toNat_natCast];have sD:=aE hD (.lst []);refine fV (n:=m) (λi zs H'=>aP H H'/\H' D=some (.lst zs)/\zs=(xL i).map V.int) ⟨sD,aB,rfl⟩ (λi zs H' h=>h.2.1) ?_ ?_
  .rintro i zs H3 hi ⟨s3,e3,rfl⟩ C hC;exists bU.1,bU.2,dA ?_
   try rw[Int.zero_add]
   exists _,rfl,e3,aV (by unfold xL;rw[length_map,length_map,length_range];lia),hC _ _ ⟨s3.change hD,aB,?_⟩
   try rw[Int.zero_add]
   unfold xL;rw[range_succ,map_append,map_append];rfl
  .rintro zs H3 ⟨s3,e3,rfl⟩;exact hX _ _ ⟨s3,D,hD,e3,rfl⟩
 rintro σ1 H1 ⟨sD,D,hD,eD,rfl⟩;refine fB (λσ' H'=>aP H H'/\∃(c:Addr) (z4 z5 z6 z7 z8 z9:Option V),σ'=[some (.int (m:Int)),some (.ref r),some (.ref b),some (.ref c),z4,z5,z6,z7,z8,z9,none]/\H' c=some (.lst ((mks m ds).map V.int))) (λX hX=>?_) ?_
 .exists _,rfl,r,rfl,⟨_,sD.seq hS⟩,?_;refine fQ (xs:=us) (λi σ H'=>aP H H'/\∃(c:Addr) (z4 z5 z6 z7 z8 z9:Option V),σ=[some (.int (m:Int)),some (.ref r),some (.ref b),some (.ref c),z4,z5,z6,z7,z8,z9,none]/\H c=none/\H' c=some (.lst ((mks m (ds.take i)).map V.int))) ⟨sD,D,none,none,none,none,none,none,rfl,hD,eD⟩ (λi σ H' _ h=>h.1.seq hS) ?_ ?_
  .rintro i w σ H2 hw ⟨s2,c,z4,z5,z6,z7,z8,z9,rfl,nc,ec⟩;have hi:i < ds.length:=by have:=(List.getElem?_eq_some_iff.mp hw).1;lia
   obtain⟨⟨kd,u,v,p⟩,hd⟩:∃d,ds[i]?=some d:=⟨_,getElem?_eq_getElem hi⟩
   obtain⟨t,z,et,ht,fz⟩:=hR.at hd;have ew:w=.ref t:=by rw[et] at hw;exact(Option.some.inj hw).symm
   subst ew;have kn:kd≠.ho:=nh _ (mem_of_getElem? hd);obtain⟨i0,i1,j0,j1⟩:gQ (m:Int) u v:=pt _ (mem_of_getElem? hd);exists t,_,rfl,s2.seqT ht,rfl,_,_,rfl,_,_,rfl,_,_,rfl,_,_,rfl,rfl,?_;have eT:mks m (ds.take (i+1))=iP (mks m (ds.take i)) (kd,u,v,p):=by rw[take_add_one,hd];exact mG _ _ _
   rw[eT];have lm:=kM m (ds.take i);generalize mks m (ds.take i)=ms at ec lm ⊢
   by_cases hk:kd=.pc
   rotate_left
   .have sk:iP ms (kd,u,v,p)=ms:=by
     unfold iP;rw[if_pos (by show kd=.pu;cases kd with | pc=>exact absurd rfl hk | pu=>rfl | ho=>exact absurd rfl kn)]
    rw[sk];exists _,rfl,rfl,_,rfl,L2.ifF (by show decide (V.str kd.wd=V.str Kd.pc.wd)=false;rw[gL];exact decide_eq_false hk) ?_;exists s2,c,_,_,_,_,z8,z9,rfl,nc,ec
   .have sk:iP ms (kd,u,v,p)=jn ms u.toNat v.toNat:=by
     unfold iP;rw[if_neg (by show ¬kd=.pu;rw[hk];exact λz=>by cases z)]
    rw[sk];exists _,rfl,rfl,_,rfl,L2.ifT (by show decide (V.str kd.wd=V.str Kd.pc.wd)=true;rw[gL];exact decide_eq_true hk) ?_;have gi:∀{j:Int},0<=j->j < (m:Int)->atI (ms.map V.int) j=some (.int (ms.getD j.toNat 0)):=λ{j} h0 h1=>by
     have hj:j.toNat < ms.length:=by lia
     have:=bY (xs:=ms.map V.int) (j:=j.toNat) (v:=.int (ms.getD j.toNat 0)) (by rw[getElem?_map,getElem?_eq_getElem hj,getD_eq_getElem?_getD,getElem?_eq_getElem hj];rfl)
     rwa [show ((j.toNat:Nat):Int)=j by lia] at this
    exists _,rfl,_,rfl,c,_,_,_,rfl,rfl,SqL.of ec,gi i0 i1,?_;exists _,rfl,_,rfl,c,_,_,_,rfl,rfl,SqL.of ec,gi j0 j1,?_;exists _,rfl,c,rfl,⟨_,SqL.of ec⟩,λD2 hD2=>?_;have sD2:=aE hD2 (.lst []);have lj:(jn ms u.toNat v.toNat).length=ms.length:=by unfold jn;rw[length_map]
    refine cB (xs:=ms.map V.int) (λi zs H'=>aP H2 H'/\H' D2=some (.lst zs)/\zs=((jn ms u.toNat v.toNat).take i).map V.int) ⟨sD2,aB,rfl⟩ (λi zs H' h=>h.2.1) (λi zs H' _ h=>h.1.seq (SqL.of ec)) ?_ ?_
    .rintro i' zs x H3 hx' ⟨s3,e3,rfl⟩ C hC;rw[getElem?_map] at hx';obtain⟨cc,hc,rfl⟩:=Option.map_eq_some_iff.mp hx';have hi':i' < ms.length:=(List.getElem?_eq_some_iff.mp hc).1;have ej:(jn ms u.toNat v.toNat)[i']?=some (if cc=ms.getD v.toNat 0 then ms.getD u.toNat 0 else cc):=by unfold jn;rw[getElem?_map,hc];rfl
     exists bU.1,bU.2,dA ?_;exists _,rfl,_,rfl,rfl,_,rfl,?_
     by_cases h:cc=ms.getD v.toNat 0
     .rw[if_pos h] at ej;refine L2.ifT (decide_eq_true (by rw[h])) ⟨_,rfl,e3,aV (by rw[length_map,length_take];lia),hC _ _ ⟨s3.change hD2,aB,?_⟩⟩;rw[take_add_one,ej,map_append];rfl
     .rw[if_neg h] at ej;refine L2.ifF (decide_eq_false (λz=>h (by injection z))) ⟨_,rfl,e3,aV (by rw[length_map,length_take];lia),hC _ _ ⟨s3.change hD2,aB,?_⟩⟩;rw[take_add_one,ej,map_append];rfl
    .rintro zs H3 ⟨s3,e3,rfl⟩;rw[length_map,<- lj,take_length] at e3;exists s2.trans s3,D2,_,_,_,_,_,_,rfl,s2.free hD2,e3
  .rintro σ H2 ⟨s2,c,z4,z5,z6,z7,z8,z9,rfl,nc,ec⟩;rw[show us.length=ds.length by lia,take_length] at ec;exact hX _ _ ⟨s2,c,z4,z5,z6,z7,z8,z9,rfl,ec⟩
 rintro σ2 H2 ⟨s2,c,z4,z5,z6,z7,z8,z9,rfl,ec⟩;have lm:=kM m ds;have gi:∀{j:Nat},j < m->atI ((mks m ds).map V.int) (j:Int)=some (.int (mk m ds j)):=λ{j} h1=>by
  have hj:j < (mks m ds).length:=by lia
  exact bY (xs:=(mks m ds).map V.int) (j:=j) (v:=.int (mk m ds j)) (by unfold mk;rw[getElem?_map,getElem?_eq_getElem hj,getD_eq_getElem?_getD,getElem?_eq_getElem hj];rfl)
 refine fB (λσ' H'=>aP H2 H'/\∃k:Addr,σ'=[some (.int (m:Int)),some (.ref r),some (.ref b),some (.ref c),z4,z5,z6,z7,z8,z9,some (.ref k)]/\H' k=some (.lst ((es.map (mk m ds)).map V.int))) (λX hX=>?_) ?_
 .exists _,rfl,b,rfl,⟨_,s2.seq hB⟩,λD hD=>?_;have sD:=aE hD (.lst []);refine cB (xs:=(ups es).map V.int) (λi zs H'=>aP H2 H'/\H' D=some (.lst zs)/\zs=((es.take i).map (mk m ds)).map V.int) ⟨sD,aB,rfl⟩ (λi zs H' h=>h.2.1) (λi zs H' _ h=>(s2.trans h.1).seq hB) ?_ ?_
  .rintro i zs x H3 hx ⟨s3,e3,rfl⟩ C hC;rw[iQ,getElem?_map] at hx;obtain⟨e,he,rfl⟩:=Option.map_eq_some_iff.mp hx;have hi:i < es.length:=(List.getElem?_eq_some_iff.mp he).1;exists bU.1,bU.2,dA ?_;exists _,rfl,_,rfl,c,_,_,_,rfl,rfl,SqL.of (s3 _ _ ec),gi (hE e (mem_of_getElem? he)),?_;exists e3,aV (by rw[length_map,length_map,length_take];lia),hC _ _ ⟨s3.change hD,aB,?_⟩;rw[take_add_one,he,map_append,map_append];rfl
  .rintro zs H3 ⟨s3,e3,rfl⟩;rw[length_map,length_map,take_length] at e3;exact hX _ _ ⟨s3,D,rfl,e3⟩
 rintro σ3 H3 ⟨s3,k,rfl,ek⟩;exists _,rfl,(m:Int),rfl,(),(),λD hD=>?_;rw[Int.toNat_natCast];have sD:=aE hD (.lst []);refine fV (n:=m) (λi zs H'=>aP H3 H'/\H' D=some (.lst zs)/\zs=(ups (lsP (mk m ds) i es)).map V.int) ⟨sD,aB,rfl⟩ (λi zs H' h=>h.2.1) ?_ ?_
 .rintro i zs H4 hi ⟨s4,e4,rfl⟩ C hC
  try rw[Int.zero_add]
  exists bU.1,bU.2,_,rfl,_,rfl,c,_,_,_,rfl,rfl,SqL.of ((s3.trans s4) _ _ ec),gi hi,_,rfl,k,_,rfl,.inl (SqL.of (s4 _ _ ek)),rfl,iX _,?_;rw[kK,Wv];exists _,rfl,?_;have ll:=On (mk m ds) i es
  cases ca:es.all (λe=>decide (mk m ds e≠mk m ds i)) with
  |false=>
   refine L2.ifF rfl ?_;exact hC _ _ ⟨s4,e4,by rw[Dt,ca,if_neg ∅,append_nil]⟩
  |true=>
   refine L2.ifT rfl ?_;exists _,rfl,e4,aV (by rw[length_map,length_map];lia),hC _ _ ⟨s4.change hD,aB,?_⟩
   try rw[Int.zero_add]
   rw[Dt,ca,if_pos rfl,iQ,iQ];show _=map _ _;rw[map_append];rfl
 .rintro zs H4 ⟨s4,e4,rfl⟩;exact q D H4 (s2.trans (s3.trans s4)) ((s2.trans s3).free hD) e4
theorem Y75:DZ 1 Z.f75 Z.d75 ["_law_sums","_law_at","_law_top","_law_bottom"] (Hu Z.K) "_law_more":=by
 exists ?_,F75.b4 _ _ _ _ (by intros;rfl),F75.kp,m75
 refine F75.ok9 qd7 λ_ _ _ s H _ Q E hr h=>?_;obtain⟨l,j,t,b,xs,ps,n,k,rfl,hl,hF,hj,bp,bt,bb,hn,q⟩:=h;exists _,(aG (kW (gD (aA (aT gE (aT bX (aS aZ (aS bS (pv 0) (pv 1) (λ_ _=>rfl)) aF (λ_ _=>rfl)) (pv 3)) (aT bX (pv 2) (aS aZ (aS bS (pv 0) (pv 1) (λ_ _=>rfl)) aF (λ_ _=>rfl)))) (aA (aT bX (aS aZ (aS bS (pv 0) (pv 1) (λ_ _=>rfl)) aF (λ_ _=>rfl)) (pv 3)) aC))) (pE (pv 0) (pv 1) jD))),?_;have lx:=hF.length;obtain⟨u,eu,fu⟩:=hF.at (Dl hj);have at_:atI xs (j:Int)=some (.ref u):=bY eu;exists _,rfl,_,rfl,l,xs,_,_,rfl,rfl,SqL.of hl,at_,u,_,0,_,rfl,rfl,fu,rfl,_,rfl,bV bp.a bb () () ?_;exists _,rfl,_,rfl,_,rfl,l,xs,_,_,rfl,rfl,SqL.of hl,at_,u,_,1,_,rfl,rfl,fu,rfl,bV bt bp.b () () ⟨_,_,rfl,rfl,?_⟩;exists _,rfl,_,rfl,l,xs,_,_,rfl,rfl,SqL.of hl,at_,u,_,1,_,rfl,rfl,fu,rfl,_,rfl,bV bp.b bb () () ⟨zl9 2,λv hv=>?_⟩;have s1:=aE hv (.tup [.int ((ps.getD j (0,1)).1*b+t*(ps.getD j (0,1)).2),.int ((ps.getD j (0,1)).2*b)]);have f1:Fq Z.K (upd H v (.tup [.int ((ps.getD j (0,1)).1*b+t*(ps.getD j (0,1)).2),.int ((ps.getD j (0,1)).2*b)])) v ((ps.getD j (0,1)).1*b+t*(ps.getD j (0,1)).2,(ps.getD j (0,1)).2*b):=Fq.of aB;generalize upd H v (.tup [.int ((ps.getD j (0,1)).1*b+t*(ps.getD j (0,1)).2),.int ((ps.getD j (0,1)).2*b)])=H1 at s1 f1 ⊢;exists _,rfl,_,rfl,l,xs,_,j,rfl,rfl,s1 _ _ hl,qC (),?_;exact q _ _ (s1.sx.write ⋯) aB ((Fqs.set f1 j (hF.same s1)).upd (s1 _ _ hl))
theorem Y76:DZ 2 Z.f76 Z.d76 ["_law_many","_law_rows_here","_law_heights"] (Jj Z.K) "_law_sent":=by
 exists ?_,F76.b3 _ _ _ (by intros;rfl),F76.kp,m76
 refine F76.ok9 jE λ_ _ _ s H _ Q E hr h=>?_;obtain⟨r,h,m,us,xs,ds,ps,rfl,hS,hR,hK,h17,hm1,hm6,hh,fh,lp0,lb,q⟩:=h;refine⟨_,(aD (qQ1 (i:=3) jE.nd (aT Ap (eU (aA (gD (aA aF (aA aF aC))) aC)) (pv 0)))
  (aD (dY PassesOwn.never rfl (bZ (pv 1)) (gC rfl (bO (qQ0 (i:=4) jE.nd) (bO (qQ0 (i:=5) jE.nd) (bO (qQ0 (i:=6) jE.nd) (bO (qQ0 (i:=7) jE.nd) eO)))))
   (aD (kW (pv 7) (gC rfl (bO (qQ0 (i:=8) jE.nd) (bO (qQ0 (i:=9) jE.nd) eO))))
  (aD (cN (bG fK (pv 4) dH (bK _)) (aD (Pg (i:=10) (j:=11) rfl jE.nd rfl rfl ∅ rfl rfl (aA (aS bS (pv 2) (pv 5) (λ_ _=>rfl)) (aA (aS bS (pv 2) (pv 6) (λ_ _=>rfl)) aC)) rfl)
  (aD (qQ1 (i:=8) jE.nd (aT bX (aT oW (aT bX (aS aZ (pv 10) aF (λ_ _=>rfl)) (aS aZ (pv 11) aF (λ_ _=>rfl))) (aT bX (aS aZ (pv 11) aF (λ_ _=>rfl)) (aS aZ (pv 10) aF (λ_ _=>rfl)))) (aS aZ (pv 7) aF (λ_ _=>rfl))))
  (aG (qQ1 (i:=9) jE.nd (aT bX (aT bX (aS aZ (pv 10) aF (λ_ _=>rfl)) (aS aZ (pv 11) aF (λ_ _=>rfl))) (aS aZ (pv 7) aF (λ_ _=>rfl))))))) bH)
  (aD (cD (d9 Y75 hr rfl (aA (pv 3) (aA (pv 5) (aA (pv 8) (aA (pv 9) aC))))))
  (aG (cD (d9 Y75 hr rfl (aA (pv 3) (aA (pv 6) (aA (aT oW aF (pv 8)) (aA (pv 9) aC)))))))))))
  (aG (aY (pv 3))))),?_⟩
 exists zl9 2,λt0 ht0=>?_;have s0:=aE ht0 (.tup [.int 0,.int 1]);have f0:Fq Z.K (upd H t0 (.tup [.int 0,.int 1])) t0 (0,1):=Fq.of aB;generalize upd H t0 (.tup [.int 0,.int 1])=H0 at s0 f0 ⊢;exists zl9 1,λl1 hl1=>?_;obtain⟨H1,q,s1,e1⟩:=nw hl1 (.lst [.ref t0]);rw[q];clear q;exists _,rfl,l1,(m:Int),[.ref t0],rfl,rfl,e1,(),(),?_,λo ho=>?_
 .rw[Int.toNat_natCast,sizeLine_eq];simp only[length_cons,length_nil];lia
 rw[Int.toNat_natCast,nC];obtain⟨H2,q,s2,e2⟩:=nw ho (.lst (replicate m (.ref t0)));rw[q];clear q;have F2:Fqs Z.K H2 (replicate m (.ref t0)) (replicate m (0,1)):=mE ((s1.trans s2).fq f0) m;have s02:=s0.trans (s1.trans s2);have o0:H o=none:=(s0.trans s1).free ho;have hpt:∀d∈ds,gQ (m:Int) d.2.1 d.2.2.1:=λd hd=>by
  have:=(hK d hd).1;exists this.1,this.2.1,this.2.2.1,this.2.2.2.1
 have lus:=hR.length;have lsO:∀{H':Hp} {xs:List V},H' o=some (.lst xs)->kQ [o] H':=λh b hb=>by
  have:b=o:=by simpa using hb
  exists _,by rw[this];exact h
 have nlO:∀b∈[o],H b=none:=λb hb=>by
  have:b=o:=by simpa using hb
  rw[this];exact o0
 exists _,rfl,r,rfl,⟨_,s02.seq hS⟩,?_;refine fQ (xs:=us) (λi σ H'=>aP H H'/\∃(zs:List V) (qs:List Mq.Q2) (z4 z5 z6 z7 z8 z9 z10 z11:Option V),σ=[some (.int (m:Int)),some (.ref r),some (.ref h),some (.ref o),z4,z5,z6,z7,z8,z9,z10,z11]/\H' o=some (.lst zs)/\Fqs Z.K H' zs qs/\LnR qs m (36200*i+1)/\∀x,x < m->Mq.val (qs.getD x Mq.z0)=rR m (ds.take i) (cv ps) x) ⟨s02,_,_,none,none,none,none,none,none,none,none,rfl,e2,F2,Qf m,λx hx=>by rw[take_zero,Pu];show Mq.val ((replicate m ((0,1):Mq.Q2)).getD x (0,1))=0;rw[oG];unfold Mq.val;simp;grind⟩ (λi σ H' _ h=>h.1.seq hS) ?_ ?_
 .rintro i x σ H4 hx ⟨s4,zs,qs,z4,z5,z6,z7,z8,z9,z10,z11,rfl,eo,F4,ln,vq⟩;have hi:i < ds.length:=by
   have:=(List.getElem?_eq_some_iff.mp hx).1;lia
  obtain⟨⟨k,u1,v1,p⟩,hd⟩:∃d,ds[i]?=some d:=⟨_,getElem?_eq_getElem hi⟩
  obtain⟨t,z,et0,hT,fz⟩:=(hR.same s4).at hd;have ex:x=.ref t:=by rw[et0] at hx;exact(Option.some.inj hx).symm
  subst ex;obtain⟨rd,bp,nh⟩:=hK _ (mem_of_getElem? hd);have pt:=hpt _ (mem_of_getElem? hd);have lp:Low p:=rd.2.2.2.2.1;have p0:k=.pc->0 < p.1:=rd.2.2.2.2.2.1;have bp:Mq.Bd 30 p:=bp;have nh:k≠.ho:=nh;have fz:Fq Z.K H4 z p:=fz;have hT:SqT Z.K H4 t [.str k.wd,.int u1,.int v1,.ref z]:=hT;have ot:=Od (ds:=ds.take i) (d:=(k,u1,v1,p)) pt nh (cv ps);have etk:ds.take (i+1)=ds.take i++[(k,u1,v1,p)]:=by rw[take_add_one,hd];rfl
  rw[<- etk] at ot;obtain⟨i0,i1,j0,j1⟩:gQ (m:Int) u1 v1:=pt;obtain⟨uN,rfl⟩:∃uN:Nat,u1=(uN:Int):=⟨u1.toNat,()⟩
  obtain⟨vN,rfl⟩:∃vN:Nat,v1=(vN:Int):=⟨v1.toNat,()⟩
  have huN:uN < m:=by lia
  have hvN:vN < m:=by lia
  exists t,_,rfl,hT,rfl,_,_,rfl,_,_,rfl,_,_,rfl,_,_,rfl,rfl,?_
  try dsimp only
  refine fB (λσ' H'=>H'=H4/\σ'=[some (.int (m:Int)),some (.ref r),some (.ref h),some (.ref o),some (.str k.wd),some (.int (uN:Int)),some (.int (vN:Int)),some (.ref z),some (.int p.1),some (.int p.2),z10,z11]) (λX hX=>?_) ?_
  .exists _,rfl,z,_,rfl,fz,rfl,_,_,rfl,_,_,rfl,rfl,hX _ _ ⟨rfl,rfl⟩
  rintro σ5 H5 ⟨rfl,rfl⟩
  try dsimp only
  refine fB (λσ' H'=>aP H5 H'/\∃(tp bt:Int) (z10 z11:Option V),σ'=[some (.int (m:Int)),some (.ref r),some (.ref h),some (.ref o),some (.str k.wd),some (.int (uN:Int)),some (.int (vN:Int)),some (.ref z),some (.int tp),some (.int bt),z10,z11]/\Mq.B 18080 tp/\Mq.B 18080 bt/\1<=bt/\(tp:Rat) / (bt:Rat)=snd (k,(uN:Int),(vN:Int),p) (cv ps)) (λX hX=>?_) ?_
  .exists _,rfl,rfl,_,rfl,?_
   cases k with
   |ho=>exact absurd rfl nh
   |pu=>
    refine L2.ifF rfl ?_;exact hX _ _ ⟨aP.refl _,p.1,p.2,_,_,rfl,bp.a.mono (),bp.b.mono (),lp.pos,rfl⟩
   |pc=>
    refine L2.ifT rfl ?_;have ea:=dP (show uN < ps.length by lia);have eb:=dP (show vN < ps.length by lia);obtain⟨la,ba⟩:=lb.at (i:=uN) ();obtain⟨lb',bb⟩:=lb.at (i:=vN) ();obtain⟨ya,eya,fya⟩:=(fh.same s4).at ea;obtain⟨yb,eyb,fyb⟩:=(fh.same s4).at eb;have eva:Mq.val (ps.getD uN Mq.z0)=cv ps uN:=rfl;have evb:Mq.val (ps.getD vN Mq.z0)=cv ps vN:=rfl;generalize ps.getD uN Mq.z0=a at la ba fya eva;generalize ps.getD vN Mq.z0=b at lb' bb fyb evb;have p0:0 < p.1:=p0 rfl;exists _,rfl,_,rfl,h,_,_,_,rfl,rfl,s4.seq hh,bY eya,_,rfl,_,rfl,h,_,_,_,rfl,rfl,s4.seq hh,bY eyb,_,_,rfl,?_;have a1:Mq.B 18000 (a.1*b.2):=ba.a.mul bb.b;have a2:Mq.B 18000 (b.1*a.2):=bb.a.mul ba.b;have a3:Mq.B 18001 (a.1*b.2 - b.1*a.2):=by
     unfold Mq.B at a1 a2 ⊢;have:(2:Nat) ^ 18001=2*2 ^ 18000:=by rw[Nat.pow_succ 2 18000,Nat.mul_comm]
     generalize (2:Nat) ^ 18001=X at *
     generalize (2:Nat) ^ 18000=Y at *
     lia
    have a4:Mq.B 18000 (a.2*b.2):=ba.b.mul bb.b;exists _,rfl,ya,_,_,_,rfl,rfl,fya,rfl,_,rfl,yb,_,_,_,rfl,rfl,fyb,rfl,bV ba.a bb.b () () ?_;exists _,rfl,yb,_,_,_,rfl,rfl,fyb,rfl,_,rfl,ya,_,_,_,rfl,rfl,fya,rfl,bV bb.a ba.b () () ?_;exists _,_,rfl,rfl,_,rfl,z,_,_,_,rfl,rfl,fz,rfl,bV a3 bp.b () () ?_;exists _,rfl,ya,_,_,_,rfl,rfl,fya,rfl,_,rfl,yb,_,_,_,rfl,rfl,fyb,rfl,bV ba.b bb.b () () ?_;exists _,rfl,z,_,_,_,rfl,rfl,fz,rfl,bV a4 bp.a () () ?_;refine hX _ _ ⟨aP.refl _,(a.1*b.2 - b.1*a.2)*p.2,a.2*b.2*p.1,_,_,rfl,(a3.mul bp.b).mono (),(a4.mul bp.a).mono (),?_,?_⟩
    .have h1:=la.pos;have h2:=lb'.pos;have:=Int.mul_pos (Int.mul_pos (show 0 < a.2 by lia) (show 0 < b.2 by lia)) p0;lia
    .show _=(cv ps uN - cv ps vN) / Mq.val p;rw[<- eva,<- evb];have h1:=cH (show a.2≠0 by have:=la.pos;lia);have h2:=cH (show b.2≠0 by have:=lb'.pos;lia);have h3:=cH (show p.2≠0 by have:=lp.pos;lia);have h4:=cH (show p.1≠0 by lia);unfold Mq.val;simp only[Rat.intCast_mul,Rat.intCast_sub];generalize ((a.1:Int):Rat)=x1;generalize ((a.2:Int):Rat)=x2 at h1 ⊢;generalize ((b.1:Int):Rat)=x3;generalize ((b.2:Int):Rat)=x4 at h2 ⊢;generalize ((p.1:Int):Rat)=x5 at h4 ⊢;generalize ((p.2:Int):Rat)=x6 at h3 ⊢;grind
  rintro σ6 H6 ⟨s6,tp,bt,z10,z11,rfl,Bt,Bb,b1,ev⟩;have eo6:=s6 _ _ eo;have F6:=F4.same s6;obtain⟨_,p1,bpu⟩:=ln.at huN;have lnx:=Pz ln huN b1 Bt Bb;have lqs:qs.length=m:=ln.w;exists _,rfl,_,rfl,_,rfl,_,rfl,o,uN,tp,bt,zs,qs,36200*i+1,18080,rfl,eo6,F6,(),bpu,Bt,Bb,(),λzs' H7 s7 e7 F7=>?_;have Bn:Mq.B 18080 (0 - tp):=by unfold Mq.B at Bt ⊢;lia
  obtain⟨_,p2,bpv⟩:=lnx.1.at hvN;have lny:=Pz lnx.1 hvN b1 Bn Bb;exists _,rfl,_,rfl,_,rfl,_,_,rfl,rfl,_,rfl,o,vN,0 - tp,bt,zs',_,36200*i+1+18080+1,18080,rfl,e7,F7,by rw[lnx.1.w];exact hvN,bpv,Bn,Bb,(),λzs2 H8 s8 e8 F8=>?_;have s48:aP H H8:=SX.same (s4.trans s6) (s7.trans s8) nlO;exists s48,zs2,_,_,_,_,_,_,_,_,_,rfl,e8,F8,lny.1.mono (by rw[Nat.mul_succ];lia),λx hx=>?_;have v1:=lnx.2 x;have v2:=lny.2 x;show Mq.val ((mrl (mrl qs uN tp bt) vN (0 - tp) bt).getD x (0,1))=_;rw[v2,v1,ot];show Mq.val (qs.getD x Mq.z0)+_+_=_;rw[vq x hx,<- ev];show _=rR m (ds.take i) (cv ps) x+((if uN=x then 1 else 0) - (if vN=x then 1 else 0))*((tp:Rat) / (bt:Rat))
  have en:((0 - tp:Int):Rat) / (bt:Rat)=-((tp:Rat) / (bt:Rat)):=by rw[Rat.intCast_sub];show ((0:Rat) - _) / _=_;grind
  rw[en]
  by_cases c1:uN=x<;>by_cases c2:vN=x<;>simp only[c1,c2,if_true,if_false]<;>grind
 .rintro σ H4 ⟨s4,zs,qs,z4,z5,z6,z7,z8,z9,z10,z11,rfl,eo,F4,ln,vq⟩;rw[lus,take_length] at vq;exists _,rfl,q o zs qs H4 s4 o0 eo F4 (ln.mono ()) vq
theorem X9:aJ Z.P Z.w Z.K Z.mg ZB CX0 2 Z.f50 Z.d50 ["self"] (Ir Z.c_Table Z.K):=(Xg R50).mono ∅
theorem X10:gZ Z.K Z.c_Table "matrix" Z.f50:=⟨a50_0,i50,F50.kp⟩
theorem X11:aJ Z.P Z.w Z.K Z.mg ZB CX0 1 Z.f51 Z.d51 ["self"] (vQ Z.c_Table Z.K):=Mp R51
theorem X12:gZ Z.K Z.c_Table "comes" Z.f51:=⟨a51_0,i51,F51.kp⟩
theorem X13:D9 Z.P Z.w Z.K Z.mg ZB 9 Z.f61 Z.d61 ["net","ends","heights"] (To Z.c_Net Z.K) "inner_heights":=⟨qn8 R61,b61,F61.kp,m61⟩
theorem Y77:DZ 10 Z.f77 Z.d77 ["_law_net_here","_law_table","_law_many","_law_rows_here","_law_ends_here","_law_heights"] (Uu Z.c_Net Z.c_Table Z.K) "_law_walked":=by
 exists ?_,F77.b6 _ _ _ _ _ _ (by intros;rfl),F77.kp,m77
 refine F77.ok9 Bv λcdv A outer s H vs Q E hr h=>?_;obtain⟨n,l,t,r,e,h,m,hb,nz,k,M,L,us,xs,ds,es,hs,Zm,zs,rfl,nt,nb,TA,TF,hS,hR,hK,h17,he,ge,le,hh0,fh,lh,hl,rg,sz,hn,q⟩:=h;have hh:SqL Z.K H h xs:=SqL.of hh0;have hu:=hr.units;have r1:=hr.mono (show 1<=9 by lia);have r2:=hr.mono (show 2<=9 by lia);have r3:=hr.mono (show 3<=9 by lia);have r6:=hr.mono (show 6<=9 by lia);refine⟨_,(aD (qQ1 (i:=6) Bv.nd (cS cO rfl n_list PyProof.Rows.boot_list (aA (pv 5) aC)))
  (aD (qQ1 (i:=7) Bv.nd (d9 X13 hr rfl (aA (pv 0) (aA (pv 4) (aA (pv 6) aC)))))
  (aD (qQ1 (i:=8) Bv.nd (uC (pv 1) TBx.cl X7 R54 r6 b54 .nil aM (aA (pv 6) aC)))
  (aD (cN (PW.pt (gM (dJ (cV (d9 Y66 r3 rfl (aA (pv 7) (aA (pv 2) aC))))) (gM (dJ (cV (d9 Y66 r3 rfl (aA (pv 8) (aA (bM bC rfl n_len PySem.boot_len (aA (pv 4) aC)) aC))))) (gV (bG (pF hu) (pv 6) (pv 5) (bK _)))))) (aG (aY gO)) bH)
  (aD (aW (i:=9) Bv.nd rfl (Or.inr rfl) (d9 Y76 r2 rfl (aA (pv 2) (aA (pv 3) (aA (pv 7) aC)))))
  (aD (qQ1 (i:=10) Bv.nd (cZ ((pv 1)) TBx.cl X10 X9 r2 b50 .nil aM))
  (aD (qQ1 (i:=11) Bv.nd (cZ ((pv 1)) TBx.cl X12 X11 r1 b51 .nil aM))
  (aD (cN (PW.pt (gM (dJ (cV (fH (i:=10) rfl (Or.inl rfl) bl.isi n_list rfl rfl PyProof.Rows.boot_list))) (gM (bG qV (bM bC rfl n_len PySem.boot_len (aA (pv 10) aC)) (bM bC rfl n_len PySem.boot_len (aA (pv 4) aC)) (bK _)) (gV (dJ (cV (d9 Y66 r3 rfl (aA (pv 11) (aA (bM bC rfl n_len PySem.boot_len (aA (pv 4) aC)) aC))))))))) (aG (aY gO)) bH)
  (aD (dY PassesOwn.never rfl (fE rfl n_range (aA (bM bC rfl n_len PySem.boot_len (aA (pv 4) aC)) aC)) (qQ0 (i:=12) Bv.nd)
   (aD (qQ1 (i:=13) Bv.nd (aS bS (pv 9) (aS bS (pv 4) (pv 12) (λ_ _=>rfl)) (λ_ _=>rfl)))
  (aD (cN (PW.pt (gM (bG (pF hu) (aS bS (pv 7) (aS bS (pv 4) (pv 12) (λ_ _=>rfl)) (λ_ _=>rfl)) (aS bS (pv 5) (pv 12) (λ_ _=>rfl)) (bK _)) (gV (bG qV (aT bX (aS aZ (aS bS (pv 8) (pv 12) (λ_ _=>rfl)) aF (λ_ _=>rfl)) (aS aZ (pv 13) aF (λ_ _=>rfl))) (aT bX (aS aZ (pv 13) aF (λ_ _=>rfl)) (aS aZ (aS bS (pv 8) (pv 12) (λ_ _=>rfl)) aF (λ_ _=>rfl))) (bK _))))) (aG (aY gO)) bH)
  (aD (cN (dJ (cV (d9 Y66 r3 rfl (aA (aS bS (pv 10) (pv 12) (λ_ _=>rfl)) (aA (bM bC rfl n_len PySem.boot_len (aA (pv 4) aC)) aC))))) (aG (aY gO)) bH)
  (aG (cN (dJ (cV (d9 Y67 r1 rfl (aA (aT mQ (aS bS (pv 10) (pv 12) (λ_ _=>rfl)) (eU (aA (aS bS (pv 11) (pv 12) (λ_ _=>rfl)) aC))) (aA (aT mQ (pv 5) (eU (aA (gD (aA (Cs uR aF) (aA aF aC))) aC))) (aA (aS bS (pv 8) (pv 12) (λ_ _=>rfl)) aC)))))) (aG (aY gO)) bH))))))
  (aG (aY (bM (mM rfl) rfl n_all PyProof.Rows.boot_all (aA (cU (nl:=1) (fr:=[9,4]) (Nc:=["_law_point","_law_out","_law_ends_here"]) (cl:=[("_law_out",s.heap.objs.size+2),("_law_ends_here",s.heap.objs.size+1)]) rfl ⟨rfl,rfl,∅,∅,(bQ rfl (bQ rfl (dM))),cG rfl,rfl,λi n h=>match i,h with | 0,h=>by cases h;exact⟨9,rfl,rfl,rfl,rfl,.inl rfl⟩ | 1,h=>by cases h;exact⟨4,rfl,rfl,rfl,rfl,.inl rfl⟩ | k+2,h=>by rw[show 1+(k+2)=k+3 by lia] at h;cases h⟩
    (fE rfl n_range (aA (pv 2) aC)) (λ_ _ _ _ _=>(qQ0 (i:=0) kU)) (λ_ _ _ _ _=>(pW (bG (iJ (K:=Z.K) rfl) (pv 0) (pv 2) rfl)))
    (λ_ _ _ _ _=>(eP fK (aS (oF (K:=Z.K) rfl) (aS (gF (K:=Z.K) rfl) (pv 1) (pv 0) (λ_ _=>rfl)) aF (λ_ _=>rfl)) aF (bK _)))) aC))))))))))))),?_⟩
 obtain⟨g1l,g2l⟩:=iY ge;obtain⟨_,_,_,_,_,m6,hb1⟩:=Jo rg g2l;have nh:jV ds:=λd hd=>(hK d hd).2.2;have TD:=TF.td;have lX:=TD.lX;have lc:=TD.lc;have lu:((ups es).map V.int).length=es.length:=by unfold ups;rw[length_map,length_map]
 obtain⟨dx,p0,l0,a0,us0,zc0,ht,_⟩:=TA.e
 try dsimp only
 refine Oa (λσ' H'=>aP H H'/\∃(c v b0:Addr) (zv zb:List V) (ps:List Mq.Q2),σ'=[some (.ref n),some (.ref t),some (.int (m:Int)),some (.ref r),some (.ref e),some (.ref h),some (.ref c),some (.ref v),some (.ref b0),none,none,none,none,none]/\SqL Z.K H' c xs/\Fqs Z.K H' xs hs/\H' v=some (.lst zv)/\Fqs Z.K H' zv ps/\HtF m ds es hs ps/\H' b0=some (.lst zb)/\Fqs Z.K H' zb (brL Zm zs hs)) (λX hX=>?_) ?_
 .exists _,rfl,h,xs,rfl,.inl hh,λc hc=>?_;obtain⟨H1,q,s1,e1⟩:=nw hc (.lst xs);rw[q];clear q;exists _,rfl,_,rfl,_,rfl,n,l,c,e,m,ds,es,xs,L,M,k,hb,hs,rfl,nt.same s1,nb,SqL.of e1,s1 _ _ he,ge,nh,le,rg,sz,lh,hl,fh.same s1,λv zv ps H2 s2 nv e2 F2 hf=>?_;have s02:=s1.trans s2;exists _,rfl,t,dx,_,rfl,s02 _ _ ht,fC _ _ _ ∅ ∅ ∅,_,rfl,t,c,ups es,Zm,zs,hs,xs,nz,hb,es.length,rfl,TA.same s02,TD,SqL.of (s2 _ _ e1),fh.same s02,lh,hl,hn,λb0 zb H3 s3 e3 F3=>?_;exact hX _ _ ⟨s02.trans s3,c,v,b0,zv,zb,ps,rfl,SqL.of ((s2.trans s3) _ _ e1),fh.same (s02.trans s3),s3 _ _ e2,F2.same s3,hf,e3,F3⟩
 rintro σ3 H3 ⟨s3,c,v,b0,zv,zb,ps,rfl,hc,fc,ev,Fv,hf,eb,Fb⟩
 try dsimp only
 refine fB (λσ' H'=>aP H3 H'/\σ'=[some (.ref n),some (.ref t),some (.int (m:Int)),some (.ref r),some (.ref e),some (.ref h),some (.ref c),some (.ref v),some (.ref b0),none,none,none,none,none]) (λX hX=>?_) ?_
 .exists _,rfl,_,rfl,v,zv,ps,by rw[hf.len];rfl,SqL.of ev,Fv,λp hp=>(hf.low.h p hp).1,by have:=hf.len;lia,λH4 s4=>⟨_,rfl,dE ?_⟩;exists _,rfl,_,rfl,e,_,rfl,.inl (SqL.of ((s3.trans s4) _ _ he)),b0,zb,brL Zm zs hs,by rw[lu,lM TD];rfl,SqL.of (s4 _ _ eb),Fb.same s4,TD.lowB lh hl,by rw[lM TD];lia,λH5 s5=>⟨_,rfl,dE ?_⟩;have s45:=s4.trans s5;exists _,rfl,_,rfl,qe8 (neg:=true) (s45.seq hc) ((s3.trans s45).seq hh) (fc.same s45) (fh.same (s3.trans s45)) ⟨_,rfl,dE ?_⟩;exact hX _ _ ⟨s45,rfl⟩
 rintro σ5 H5 ⟨s35,rfl⟩;have s5:=s3.trans s35;have ev:=s35 _ _ ev;have eb:=s35 _ _ eb;have Fv:=Fv.same s35;have Fb:=Fb.same s35;clear hc fc s3 s35
 try dsimp only
 refine Oa (λσ' H'=>aP H5 H'/\∃(o a9 a2:Addr) (zo us9 ys2:List V) (qs:List Mq.Q2),σ'=[some (.ref n),some (.ref t),some (.int (m:Int)),some (.ref r),some (.ref e),some (.ref h),some (.ref c),some (.ref v),some (.ref b0),some (.ref o),some (.ref a9),some (.ref a2),none,none]/\H' o=some (.lst zo)/\Fqs Z.K H' zo qs/\LnR qs m 620000/\(∀x,x < m->Mq.val (qs.getD x Mq.z0)=rR m ds (cv ps) x)/\H' a9=some (.lst us9)/\LnH Z.K H' us9 Zm/\H' a2=some (.lst ys2)/\Fqs Z.K H' ys2 zs) (λX hX=>?_) ?_
 .exists _,rfl,_,rfl,_,rfl,r,v,m,us,zv,ds,ps,rfl,s5.seq hS,hR.same s5,hK,h17,(),m6,SqL.of ev,Fv,hf.len,hf.low,λo zo qs H6 s6 o0 e6 F6 ln6 v6=>?_;have s06:=s5.trans s6;exists _,rfl,t,dx,_,rfl,s06 _ _ ht,fC _ _ _ ∅ ∅ ∅,t,ups es,Zm,zs,rfl,TA.same s06,(),λa9 us9 H7 s7 e7 L7=>?_;have s07:=s06.trans s7;exists _,rfl,t,dx,_,rfl,s07 _ _ ht,fC _ _ _ ∅ ∅ ∅,t,ups es,Zm,zs,rfl,TA.same s07,λa2 ys2 H8 s8 e8 F8=>?_;exact hX _ _ ⟨s6.trans (s7.trans s8),o,a9,a2,zo,us9,ys2,qs,rfl,(s7.trans s8) _ _ e6,F6.same (s7.trans s8),ln6,v6,s8 _ _ e7,L7.same s8,e8,F8⟩
 rintro σ8 H8 ⟨s58,o,a9,a2,zo,us9,ys2,qs,rfl,eo,Fo,ln,vo,e9,L9,e2,F2⟩;have s8:=s5.trans s58;have ev:=s58 _ _ ev;have eb:=s58 _ _ eb;have Fv:=Fv.same s58;have Fb:=Fb.same s58;clear s5 s58
 try dsimp only
 refine fB (λσ' H'=>aP H8 H'/\σ'=[some (.ref n),some (.ref t),some (.int (m:Int)),some (.ref r),some (.ref e),some (.ref h),some (.ref c),some (.ref v),some (.ref b0),some (.ref o),some (.ref a9),some (.ref a2),none,none]) (λX hX=>?_) ?_
 .exists _,_,true,rfl,.lst (SqL.of e9),rfl,_,rfl,dE ⟨_,rfl,a9,_,rfl,.inl (SqL.of e9),_,rfl,e,_,rfl,.inl (SqL.of (s8 _ _ he)),rfl,_,rfl,?_⟩;refine L2.ifF (by rw[L9.l,lu,lX];simp) ?_;exists _,rfl,_,rfl,e,_,rfl,.inl (SqL.of (s8 _ _ he)),a2,ys2,zs,by rw[lu,lc];rfl,SqL.of e2,F2,λp hp=>(TD.c p hp).1,(),λH9 s9=>⟨_,rfl,dE ?_⟩;exact hX _ _ ⟨s9,rfl⟩
 rintro σ9 H9 ⟨s89,rfl⟩;have s9:=s8.trans s89;have ev:=s89 _ _ ev;have eb:=s89 _ _ eb;have eo:=s89 _ _ eo;have e9:=s89 _ _ e9;have e2:=s89 _ _ e2;have Fv:=Fv.same s89;have Fb:=Fb.same s89;have Fo:=Fo.same s89;have L9:=L9.same s89;have F2:=F2.same s89;clear s8 s89;have gi:∀{i:Nat},i < es.length->∃p,p < m/\es.getD i 0=p/\es[i]?=some p:=λ{i} hi=>⟨es[i],ge.lt _ (getElem_mem hi),by rw[getD_eq_getElem?_getD,getElem?_eq_getElem hi];rfl,getElem?_eq_getElem hi⟩
 try dsimp only
 refine fB (λσ' H'=>aP H9 H'/\∃z12 z13,σ'=[some (.ref n),some (.ref t),some (.int (m:Int)),some (.ref r),some (.ref e),some (.ref h),some (.ref c),some (.ref v),some (.ref b0),some (.ref o),some (.ref a9),some (.ref a2),z12,z13]) (λX hX=>?_) ?_
 .exists _,rfl,e,_,rfl,.inl (SqL.of (s9 _ _ he)),(es.length:Int),by rw[lu],(),(),?_;rw[Int.toNat_natCast];refine oE (lo:=0) (n:=es.length) (λi σ H'=>aP H9 H'/\∃z12 z13,σ=[some (.ref n),some (.ref t),some (.int (m:Int)),some (.ref r),some (.ref e),some (.ref h),some (.ref c),some (.ref v),some (.ref b0),some (.ref o),some (.ref a9),some (.ref a2),z12,z13]) ⟨aP.refl _,none,none,rfl⟩ ?_ ?_
  .rintro i σ H10 hi ⟨s10,z12,z13,rfl⟩;rw[Int.zero_add];obtain⟨pp,pm,eg,eg'⟩:=gi hi;have ate:atI ((ups es).map V.int) (i:Int)=some (.int (pp:Int)):=bY (by rw[iQ,getElem?_map,eg'];rfl);have lps:=hf.len;have hnd:=hf.ends i hi;rw[eg] at hnd;obtain⟨yo,eyo,fyo⟩:=(Fo.same s10).at (dP (show pp < qs.length by rw[ln.w];exact pm));obtain⟨yv,eyv,fyv⟩:=(Fv.same s10).at (dP (show pp < ps.length by lia));obtain⟨yh,eyh,fyh⟩:=((fh.same s9).same s10).at (dP (show i < hs.length by lia));obtain⟨yb,eyb,fyb⟩:=(Fb.same s10).at (dP (show i < (brL Zm zs hs).length by rw[lM TD];exact hi));obtain⟨_,do1,dob⟩:=ln.at pm;have do1:1<=(qs.getD pp Mq.z0).2:=do1;have dob:Mq.Bd 620000 (qs.getD pp Mq.z0):=dob;have vd:=vo pp pm;have bv:=wH TD lh hl hi;obtain⟨b1,b2,b3⟩:=bv;have s0A:=s9.trans s10;have brv:Mq.val ((brL Zm zs hs).getD i Mq.z0)=rR m ds (cv ps) pp:=by
    rw[b3];have:=TF.br (cv ps) (λp hp hpe=>hf.inner p hp hpe) i hi;rw[eg] at this;show _=rR m ds (cv ps) pp;unfold rR;rw[<- this];congr 1;refine aK λx hx=>?_;have:cv hs x=cv ps (es.getD x 0):=by unfold cv;rw[hf.ends x hx]
    rw[this]
   have cr:=Pk b1.pos do1 (by rw[brv,vd]);have b2:Mq.Bd 9000 ((brL Zm zs hs).getD i Mq.z0):=b2.mono (by rw[Nat.mul_succ] at hn;lia);exists _,rfl,_,rfl,_,rfl,e,_,_,_,rfl,rfl,SqL.of (s0A _ _ he),ate,o,_,_,_,rfl,rfl,SqL.of (s10 _ _ eo),bY eyo,?_;exists _,rfl,_,rfl,_,rfl,e,_,_,_,rfl,rfl,SqL.of (s0A _ _ he),ate,v,_,_,_,rfl,rfl,SqL.of (s10 _ _ ev),bY eyv,_,rfl,_,rfl,h,_,_,_,rfl,rfl,s0A.seq hh,bY eyh,qd9 (neg:=true) fyv fyh ⟨_,rfl,?_⟩;refine L2.ifF (by rw[hnd];simp) ?_;have eb10:=s10 _ _ eb;exists _,rfl,_,rfl,b0,_,_,_,rfl,rfl,SqL.of eb10,bY eyb,yb,_,_,_,rfl,rfl,fyb,rfl,_,rfl,yo,_,_,_,rfl,rfl,fyo,rfl,bV b2.a dob.b () () ?_;exists _,rfl,yo,_,_,_,rfl,rfl,fyo,rfl,_,rfl,_,rfl,b0,_,_,_,rfl,rfl,SqL.of eb10,bY eyb,yb,_,_,_,rfl,rfl,fyb,rfl,bV dob.a b2.b () () ?_;exists rfl,_,rfl,L2.ifF (by rw[cr];simp) ?_;obtain⟨u,xr,eu,hu9,fu⟩:=(L9.same s10).at (iK (show i < Zm.length by lia));obtain⟨rl,rb⟩:=TD.lb hi;obtain⟨c1,c2⟩:=TD.cat hi;have lxr:=fu.length;exists _,rfl,_,rfl,a9,us9,_,_,rfl,rfl,SqL.of (s10 _ _ e9),bY eu,_,rfl,e,_,rfl,.inl (SqL.of (s0A _ _ he)),u,xr,Zm.getD i [],by rw[lu,rl];rfl,SqL.of hu9,fu,TD.low hi,(),λHA sA=>⟨_,rfl,dE ?_⟩;have s1A:=s10.trans sA;obtain⟨v2,ev2,fv2⟩:=(F2.same s1A).at (dP (show i < zs.length by lia));exists _,rfl,_,rfl,a9,us9,_,_,rfl,rfl,SqL.of (s1A _ _ e9),bY eu,_,rfl,_,rfl,a2,ys2,_,_,rfl,rfl,SqL.of (s1A _ _ e2),bY ev2,(zl9 1),λL' hL=>?_;obtain⟨HD,q,sD,eD⟩:=nw hL (.lst [.ref v2]);rw[q];clear q;exists u,L',xr,_,rfl,rfl,(sA.trans sD) _ _ hu9,eD,Nat.le_trans (show _<=100 by simp only[length_cons,length_nil];lia) ∅,λM' hM=>?_;obtain⟨HE,q,sE,eE⟩:=nw hM (.lst (xr++[.ref v2]));rw[q];clear q;exists _,rfl,_,rfl,(zl9 2),λt1 ht1=>?_;obtain⟨HF,q,sF,eF⟩:=nw ht1 (.tup [.int (-1),.int 1]);rw[q];clear q;exists (zl9 1),λL2 hL2=>?_;obtain⟨HG,q,sG,eG⟩:=nw hL2 (.lst [.ref t1]);rw[q];clear q;have sAG:=(sD.trans sE).trans (sF.trans sG);have s0G:=s9.trans (s1A.trans sAG);have lxs:=fh.length;exists h,L2,xs,_,rfl,rfl,s0G _ _ hh0,eG,Nat.le_trans (show _<=100 by simp only[length_cons,length_nil];lia) ∅,λM2 hM2=>?_;obtain⟨HI,q,sI,eI⟩:=nw hM2 (.lst (xs++[.ref t1]));rw[q];clear q;have sAI:=sAG.trans sI;have s0I:=s0G.trans sI;have s1I:=s1A.trans sAI;obtain⟨v3,ev3,fv3⟩:=(Fb.same s1I).at (dP (show i < (brL Zm zs hs).length by rw[lM TD];exact hi));have LP:=rb.snoc c1 c2;have LQ:=lh.snoc (Jq hb1).1 (Jq hb1).2;have n9:=Nat.le_mul_of_pos_right (nz+hb+1) (show 0 < es.length+1 by lia);exists _,rfl,_,rfl,b0,zb,_,_,rfl,rfl,SqL.of (s1I _ _ eb),bY ev3,M',M2,v3,_,_,Zm.getD i []++[zs.getD i Mq.z0],hs++[(-1,1)],_,nz,hb,rfl,SqL.of ((sF.trans (sG.trans sI)) _ _ eE),(fu.same (sA.trans sAI)).app (.cons (sAI.seqT fv2) .nil),SqL.of eI,(fh.same s0I).app (.cons ((sG.trans sI).fq (Fq.of eF)) .nil),fv3,λp hp=>(LP.h p hp).2,λp hp=>(LQ.h p hp).2,b2,?_,(),(),?_,?_,λHJ sJ=>⟨_,rfl,dE ⟨s1I.trans sJ,_,_,rfl⟩⟩
   .rw[List.length_append,rl];simp only[length_cons,length_nil];lia
   .rw[List.length_append,List.length_append,rl,hl];rfl
   .refine Mq.Tt (λp hp=>(LP.h p hp).1.pos) (λp hp=>(LQ.h p hp).1.pos) (by rw[List.length_append,List.length_append,rl,hl];rfl) b1 ?_;rw[b3];have dl:(Zm.getD i []++[zs.getD i Mq.z0]).length=(hs++[((-1,1):Mq.Q2)]).length:=by rw[List.length_append,List.length_append,rl,hl];rfl
    rw[<- Ce LP LQ dl,qk9 rb lh rl hl c1 c2 hb1];rfl
  .rintro σ H10 ⟨s10,z12,z13,rfl⟩;exact hX _ _ ⟨s10,z12,z13,rfl⟩
 rintro σA HA ⟨sA,z12,z13,rfl⟩;exists _,rfl,(m:Int),rfl,(),(),λD hD=>?_;rw[Int.toNat_natCast];have s0A:=s9.trans sA;have Fo:=Fo.same sA;have eo:=sA _ _ eo;have sD:=aE hD (.lst []);refine fV (n:=m) (λi zs H'=>aP HA H'/\H' D=some (.lst zs)/\∃j,j<=i/\zs=(replicate j true).map V.bl) ⟨sD,aB,0,Nat.le_refl _,rfl⟩ (λi zs H' h=>h.2.1) ?_ ?_
 .rintro i zb' HB hi ⟨sB,eB,j,hj,rfl⟩ C hC;rw[Int.zero_add];exists bU.1,bU.2,_,rfl,_,rfl,e,_,rfl,.inl (SqL.of ((s0A.trans sB) _ _ he)),rfl,iX _,?_;rw[kK];exists _,rfl,?_
  by_cases cc:i∈es
  .rw[decide_eq_true (nU.mpr cc)];refine L2.ifF rfl ?_;exact hC _ _ ⟨sB,eB,j,(),rfl⟩
  .rw[decide_eq_false (λz=>cc (nU.mp z))];refine L2.ifT rfl ?_;obtain⟨yo,eyo,fyo⟩:=(Fo.same sB).at (dP (show i < qs.length by rw[ln.w];exact hi));have do1:1<=(qs.getD i Mq.z0).2:=(ln.at hi).2.1;have z0:(qs.getD i Mq.z0).1=0:=Uh do1 (by
    rw[vo i hi];have:=hf.inner i hi cc;unfold rR;rw[this];grind)
   exists _,rfl,_,rfl,o,_,_,_,rfl,rfl,SqL.of (sB _ _ eo),bY eyo,yo,_,_,_,rfl,rfl,fyo,rfl,rfl,?_;rw[z0];exists eB,aV (by rw[length_map,length_replicate];lia),hC _ _ ⟨sB.change hD,aB,j+1,(),?_⟩;rw[replicate_succ',map_append];rfl
 .rintro zb' HB ⟨sB,eB,j,hj,rfl⟩;exists D,_,rfl,SqL.of eB,?_;rw[show (replicate j true).all id=true by simp];exact q _ (s0A.trans sB)
theorem Y78:DZ 10 Z.f78 Z.d78 ["_law_net_here","_law_ends_here","_law_heights"] (Tn Z.c_Net Z.K) "_law_floats":=by
 exists ?_,F78.b3 _ _ _ (by intros;rfl),F78.kp,m78
 refine F78.ok9 uY λ_ _ _ s H _ Q E hr h=>?_;obtain⟨n,l,b,hA,m,ds,es,zh,rfl,nt,nb,hz,hb,ge,nh,ne,q⟩:=h;refine⟨_,(aD (qQ1 (i:=3) uY.nd Hl) (aD (qQ1 (i:=4) uY.nd Hl) (aD (Qm ⟨rfl,rfl,rfl⟩ (Dn (Dc (Ln R60 ⟨rfl,rfl,rfl⟩ hr rfl m60 F60.kp b60 .nil (aA (pv 0) (aA (pv 1) aC))))) bH
   (Yx (j:=5) ⟨rfl,rfl,rfl⟩ uY.nd rfl rfl rfl (.inl cF.mF) (λa=>aG (qQ1 (i:=3) uY.nd (El (K:=Z.K) rfl (pv 5) rfl))) Cv))
  (aD (Qm ⟨rfl,rfl,rfl⟩ (Dn (Dc (Ln R61 ⟨rfl,rfl,rfl⟩ hr rfl m61 F61.kp b61 .nil (aA (pv 0) (aA (pv 1) (aA (pv 2) aC)))))) bH
   (Yx (j:=5) ⟨rfl,rfl,rfl⟩ uY.nd rfl rfl rfl (.inl cF.mF) (λa=>aG (qQ1 (i:=4) uY.nd (El (K:=Z.K) rfl (pv 5) rfl))) Cv))
  (aG (aY (gD (aA (pv 3) (aA (pv 4) aC))))))))),?_⟩
 try dsimp only
 refine Oa (λσ' H'=>aP H H'/\∃l1:Addr,σ'=[some (.ref n),some (.ref b),some (.ref hA),some (.ref l1),some .non,none]/\H' l1=some (.lst ((ups (lsP (mk m ds) m es)).map V.int))) (λX hX=>?_) ?_
 .exists _,rfl,_,rfl,n,l,m,ds,.ref b,[],rfl,nt,nb,λ_ z=>by simp at z,.inr ⟨b,es,rfl,hb,ge,Bo nh,λ_ _ dx l1 H1 s1 ed e1=>?_,λ_ z=>absurd z ne⟩;intro a1 ha;exists true,cF.eF,?_;rw[if_pos rfl];have sa:=aE ha (Ay a1 (.ref Z.c_Floats) (some dx));exists _,rfl,a1,Z.c_Floats,dx,[("points",.ref l1)],.ref l1,rfl,aB,sa _ _ ed,cF.xF,cF.dF,cF.nF,rfl,?_;have el:=sa _ _ e1;generalize upd H1 a1 (Ay a1 (.ref Z.c_Floats) (some dx))=H2 at sa el ⊢;exact hX _ _ ⟨s1.trans sa,l1,rfl,el⟩
 rintro σ1 H1 ⟨s1,l1,rfl,e1⟩
 try dsimp only
 refine fB (λσ' H'=>aP H1 H'/\∃l2:Addr,σ'=[some (.ref n),some (.ref b),some (.ref hA),some (.ref l1),some (.ref l2),none]/\H' l2=some (.lst ((ups (lsP (mk m ds) m es)).map V.int))) (λX hX=>?_) ?_
 .exists _,rfl,_,rfl,_,rfl,n,l,hA,m,ds,.ref b,zh,rfl,nt.same s1,nb,s1.seq hz,.inr ⟨b,es,rfl,s1 _ _ hb,ge,Bo nh,λ_ _ dx l2 H2 s2 ed e2=>?_,λ_ z=>absurd z ne⟩;intro a2 ha;exists true,cF.eF,?_;rw[if_pos rfl];have sa:=aE ha (Ay a2 (.ref Z.c_Floats) (some dx));exists _,rfl,a2,Z.c_Floats,dx,[("points",.ref l2)],.ref l2,rfl,aB,sa _ _ ed,cF.xF,cF.dF,cF.nF,rfl,?_;have el:=sa _ _ e2;generalize upd H2 a2 (Ay a2 (.ref Z.c_Floats) (some dx))=H3 at sa el ⊢;exact hX _ _ ⟨s2.trans sa,l2,rfl,el⟩
 rintro σ2 H2 ⟨s2,l2,rfl,e2⟩;exists _,rfl,_,rfl,zl9 2,λt ht=>?_;have s3:=aE ht (.tup [.ref l1,.ref l2]);exact q t l1 l2 _ ((s1.trans s2).trans s3) ((s2.trans s3) _ _ e1) (s3 _ _ e2) (SqT.of aB)
theorem X14:gZ Z.K Z.c_Net "change" Z.f31:=⟨a31_0,i31,F31.kp⟩
theorem X15:D9 Z.P Z.w Z.K Z.mg ZB 9 Z.f60 Z.d60 ["net","ends"] (zV Z.c_Net Z.c_Table Z.K) "table_of":=⟨Oq R60,b60,F60.kp,m60⟩
theorem Y79:DZ 11 Z.f79 Z.d79 ["_law_net_here","_law_many","_law_rows_here","_law_ends_here","_law_heights","_law_cell"] (Oh Z.c_Net Z.K) "_law_changed":=by
 exists ?_,F79.b6 _ _ _ _ _ _ (by intros;rfl),F79.kp,m79
 refine F79.ok9 Ka λ_ _ _ s H _ Q E hr h=>?_;obtain⟨n,l,r,e,h,m,fr,c,us,xs,ds,es,hs,rfl,nt,nrl,nel,nhl,er,hR,hK,hl,hp,mo,mB1,he,ge,le,hh,fh,lh,hlen,q⟩:=h;have hu:=hr.units;have r3:=hr.mono (show 3<=10 by lia);have r5:=hr.mono (show 5<=10 by lia);have r9:=hr.mono (show 9<=10 by lia);have lus:=hR.length;have l17:nRw fr<=17:=by cases fr<;>decide
 refine⟨_,(aD (qQ1 (i:=6) Ka.nd (aT dL (pv 5) (bM bC rfl n_len PySem.boot_len (aA (pv 2) aC))))
  (aD (qQ1 (i:=7) Ka.nd (d9 Y70 r3 rfl (aA (aT tX (pv 5) aF) (aA gO aC))))
  (aD (cD (uC (pv 0) NTx.cl X14 R31 r5 b31 .nil aM (aA (pv 6) (aA (pv 7) aC))))
  (aD (qQ1 (i:=2) Ka.nd (aT mQ (aT mQ (gG kP (pv 2) kO (gA (pv 6))) (eU (aA (aT Ck (gG Sf (aS bS (pv 2) (pv 6) (λ_ _=>rfl)) kO (gA aF)) (gD (aA (pv 7) aC))) aC))) (gG kP (pv 2) (gA (aT gE (pv 6) aF)) kO)))
  (aG (aY (d9 Y77 hr rfl (aA (pv 0) (aA (d9 X15 r9 rfl (aA (pv 0) (aA (cS cO rfl n_list PyProof.Rows.boot_list (aA (pv 3) aC)) aC))) (aA (pv 1) (aA (pv 2) (aA (cS cO rfl n_list PyProof.Rows.boot_list (aA (pv 3) aC)) (aA (pv 4) aC))))))))))))),?_⟩
 try dsimp only
 refine qf1 (λσ' H'=>aP H H'/\∃(kN:Nat) (zN:Addr) (pN:Mq.Q2),kN < ds.length/\Low pN/\0 < pN.1/\Mq.Bd 4 pN/\Fq Z.K H' zN pN/\σ'=[some (.ref n),some (.int (m:Int)),some (.ref r),some (.ref e),some (.ref h),some (.int c),some (.int (kN:Int)),some (.ref zN)]) (λX hX=>?_) ?_
 .exists _,rfl,_,rfl,r,us,rfl,.inl (SqL.of er),_,_,rfl,rfl,(show (0:Int) < us.length by lia),?_;obtain⟨kN,hk⟩:∃kN:Nat,c % (us.length:Int)=(kN:Int):=⟨(c % (us.length:Int)).toNat,by have:=Int.emod_nonneg c (show (us.length:Int)≠0 by lia);lia⟩
  have hkl:=Int.emod_lt_of_pos c (show (0:Int) < us.length by lia);exists _,rfl,_,_,rfl,rfl,⟨∅,∅⟩,_,false,rfl,λp lp bp z H1 s1 e1=>?_;refine hX _ _ ⟨s1,kN,z,p,(),lp.low,lp.pos,bp,Fq.of e1,?_⟩;rw[<- hk];rfl
 rintro σ1 H1 ⟨s1,kN,zN,pN,hkl,lq,po,b4,fz,rfl⟩;obtain⟨⟨k,i,j,p0⟩,hd⟩:∃d,ds[kN]?=some d:=⟨_,getElem?_eq_getElem hkl⟩
 obtain⟨t,z0,et,ht0,_⟩:=hR.at hd;have ht:=s1.seqT ht0;have at_:atI us (kN:Int)=some (.ref t):=bY et;have md:=mem_of_getElem? hd;have er1:=s1 _ _ er;have hR1:=hR.same s1;refine fB (λσ' H'=>SX [l] H H'/\cK l H1 H'/\dR Z.c_Net Z.K H' n l (m:Int) (ds.set kN (k,i,j,pN))/\σ'=[some (.ref n),some (.int (m:Int)),some (.ref r),some (.ref e),some (.ref h),some (.int c),some (.int (kN:Int)),some (.ref zN)]) (λX hX=>?_) ?_
 .obtain⟨dn,hn⟩:=(nt.same s1).ob;exists _,rfl,n,dn,_,rfl,hn,fD _ _ ∅ ∅,_,rfl,_,rfl,n,l,zN,(m:Int),(kN:Int),ds,k,i,j,p0,pN,rfl,nt.same s1,(),by rw[Int.toNat_natCast];exact hd,fz,lq,(λ_=>po),b4.mono ∅,λH2 sx nt2=>?_;rw[Int.toNat_natCast] at nt2;exact hX _ _ ⟨λb o eb nb=>sx b o (s1 _ _ eb) (by simpa using nb),sx,nt2,rfl⟩
 rintro σ2 H2 ⟨sxl,sx,nt2,rfl⟩;obtain⟨ts,el,_⟩:=(nt.same s1).ls;have er2:=sx _ _ er1 nrl;have hR2:=cK.rts el sx hR1;have fz2:Fq Z.K H2 zN pN:=cK.seqT el sx fz;have ht2:=cK.seqT el sx ht;have he2:=sx _ _ (s1 _ _ he) nel;have hh2:=sx _ _ (s1 _ _ hh) nhl;have fh2:Fqs Z.K H2 xs hs:=SX.fqs (as:=[l]) (λa ha=>by rw[mem_singleton.mp ha];exact⟨ts,el⟩) (λb o eb nb=>sx b o eb (by simpa using nb)) (fh.same s1);refine fB (λσ' H'=>aP H2 H'/\∃V2:Addr,σ'=[some (.ref n),some (.int (m:Int)),some (.ref V2),some (.ref e),some (.ref h),some (.int c),some (.int (kN:Int)),some (.ref zN)]/\∃us2,H' V2=some (.lst us2)/\Rts Z.K H' us2 (ds.set kN (k,i,j,pN))) (λX hX=>?_) ?_
 .exists _,rfl,_,rfl,(kN:Int),rfl,r,us,rfl,SqL.of er2,λS hS=>?_;rw[qh5];obtain⟨H6,q,s6,e6⟩:=nw hS (.lst (us.take kN));rw[q];clear q;exists _,rfl,_,rfl,r,us,_,_,rfl,rfl,SqL.of (s6 _ _ er2),at_,3,rfl,t,_,rfl,s6.seqT ht2,(by show ¬(_/\3=4);lia),λA2 hA2=>?_;have s7:=aE hA2 (.tup [.str k.wd,.int i,.int j]);have e7:upd H6 A2 (.tup [.str k.wd,.int i,.int j]) A2=some (.tup [.str k.wd,.int i,.int j]):=aB;show qb6 _ _ (upd H6 A2 (.tup [.str k.wd,.int i,.int j])) _;generalize upd H6 A2 (.tup [.str k.wd,.int i,.int j])=H7 at s7 e7 ⊢;exists _,rfl,zl9 1,λoN hoN=>?_;obtain⟨H8,q,s8,e8⟩:=nw hoN (.tup [.ref zN]);rw[q];clear q;exists A2,oN,_,_,rfl,rfl,SqT.of (s8 _ _ e7),SqT.of e8,⋯,(zl9 4),(λz=>by cases z),λ_ A5 hA5=>?_;obtain⟨H9,q,s9,e9⟩:=nw hA5 (.tup ([.str k.wd,.int i,.int j]++[.ref zN]));rw[q];clear q;exists zl9 1,λl6 hl6=>?_;obtain⟨HA,q,sA,eA⟩:=nw hl6 (.lst [.ref A5]);rw[q];clear q;have s6A:=s7.trans (s8.trans (s9.trans sA));exists S,l6,_,_,rfl,rfl,s6A _ _ e6,eA,Nat.le_of_lt (aV (by rw[length_take];simp only[length_cons,length_nil];lia)),λV1 hV1=>?_;obtain⟨HB,q,sB,eB⟩:=nw hV1 (.lst (us.take kN++[.ref A5]));rw[q];clear q;have s5B:=s6.trans (s6A.trans sB);have ek1:(kN:Int)+1=((kN+1:Nat):Int):=by lia
  exists _,rfl,_,rfl,_,_,rfl,rfl,(kN:Int)+1,rfl,r,us,rfl,SqL.of (s5B _ _ er2),λS2 hS2=>?_;rw[ek1,qe4];obtain⟨HC,q,sC,eC⟩:=nw hS2 (.lst (us.drop (kN+1)));rw[q];clear q;exists V1,S2,_,_,rfl,rfl,sC _ _ eB,eC,Nat.le_of_lt (aV (by rw[List.length_append,length_take,length_drop];simp only[length_cons,length_nil];lia)),λV2 hV2=>?_;obtain⟨HX,q,sX,eX⟩:=nw hV2 (.lst (us.take kN++[.ref A5]++us.drop (kN+1)));rw[q];clear q;have s5X:=s5B.trans (sC.trans sX);exact hX _ _ ⟨s5X,V2,rfl,_,eX,Rts.cut (hR2.same s5X) kN hkl (SqT.of ((sA.trans (sB.trans (sC.trans sX))) _ _ e9)) (s5X.fq fz2)⟩
 rintro σ3 H3 ⟨s3,V2,rfl,us2,eV,hRV⟩;generalize hds:ds.set kN (k,i,j,pN)=ds2 at nt2 hRV;have hK2:∀d∈ds2,DrB fr m d:=λd hd2=>by
  rw[<- hds] at hd2;rcases mem_or_eq_of_mem_set hd2 with z | z
  .exact hK d z
  .rw[z];exact(hK _ md).mono lq po b4
 have hl2:ds2.length<=nRw fr:=by rw[<- hds,length_set];exact hl
 have le2:lsP (mk m ds2) m es=[]:=by rw[<- hds,Zo hd pN];exact le
 obtain⟨L,sz⟩:=Ts mB1 hl2 hK2;have nb:=Zg mo mB1 hl2 hK2;have nh:jV ds2:=λd hd=>(hK2 d hd).nh;have s3h:=s3 _ _ hh2;exists _,rfl,_,rfl,_,rfl,e,_,rfl,.inl (SqL.of (s3 _ _ he2)),λe2 he2'=>?_;obtain⟨H4,q,s4,e4⟩:=nw he2' (.lst ((ups es).map V.int));rw[q];clear q;exists n,l,e2,m,ds2,es,[],L,_,_,rfl,nt2.same (s3.trans s4),nb,(λ_ z=>by simp at z),e4,ge,nh,le2,sz,λtb Zm zs H5 s5 TA TF=>?_;have s35:=s4.trans s5;exists _,rfl,_,rfl,_,rfl,e,_,rfl,.inl (SqL.of ((s3.trans s35) _ _ he2)),λe3 he3=>?_;obtain⟨H6,q,s6,e6⟩:=nw he3 (.lst ((ups es).map V.int));rw[q];clear q;have s26:=s3.trans (s35.trans s6);exists _,rfl,n,l,tb,V2,e3,h,m,hN fr,_,_,_,L,us2,xs,ds2,es,hs,Zm,zs,rfl,nt2.same s26,nb,TA.at.same s6,TF,SqL.of ((s35.trans s6) _ _ eV),hRV.same (s35.trans s6),(λd hd=>⟨(hK2 d hd).ok,(hK2 d hd).bd.mono (uP fr).1,(hK2 d hd).nh⟩),(),e6,ge,le2,s26 _ _ hh2,fh2.same s26,lh,hlen,Os mB1,sz,Ia mB1 ge,λH7 s7=>?_;exact q _ (sxl.trans (s26.trans s7).sx)
theorem X16:gZ Z.K Z.c_Table "ends" Z.f52:=⟨a52_0,i52,F52.kp⟩
theorem X17:gZ Z.K Z.c_Net "told" Z.f29:=⟨a29_0,i29,F29.kp⟩
theorem X18:aJ Z.P Z.w Z.K Z.mg ZB CX0 9 Z.f60 Z.d60 ["net","ends"] (zV Z.c_Net Z.c_Table Z.K):=Oq R60
theorem Rlaw:FZ CX0 12 Z.f80 (W.fnOf ("law") ("law") (fM Aa) (eK Aa) (aH Aa) .none Z.kV80 Z.dc80 Z.pm80 Z.an80 Z.cd80 Z.ct80) ["_law_script"] (Cy Z.K):=by
 refine F80.ok9 iV λ_ _ _ s H _ Q E hr h=>?_;obtain⟨a,ns,rfl,hS,h63,q⟩:=h;have hu:=hr.units;have r1:=hr.mono (show 1<=11 by lia);have r2:=hr.mono (show 2<=11 by lia);have r3:=hr.mono (show 3<=11 by lia);have r4:=hr.mono (show 4<=11 by lia);have r6:=hr.mono (show 6<=11 by lia);have r9:=hr.mono (show 9<=11 by lia);have r10:=hr.mono (show 10<=11 by lia);refine⟨_,(aD (aW (i:=1) iV.nd rfl (Or.inr rfl) (eP fK (aT dL (aT tX (aI Y62.G r1 rfl m62 F62.kp Y62.b .nil aM (aA (pv 0) (aA aF aC))) aF) aF) aF (bK _)))
  (aD (qQ1 (i:=2) iV.nd (aT gE aF (aT dL (aI Y62.G r1 rfl m62 F62.kp Y62.b .nil aM (aA (pv 0) (aA aF aC))) (aS bS (eU (aA aF (aA aF aC))) (cS sQ rfl bl.int PyProof.Rows.boot_int (aA (pv 1) aC)) (λ_ _=>rfl)))))
  (aD (qQ1 (i:=3) iV.nd (aI Y72.G r4 rfl m72 F72.kp Y72.b .nil aM (aA (pv 0) (aA (pv 2) (aA (pv 1) aC)))))
  (aD (qQ1 (i:=4) iV.nd (aI Y69.G r6 rfl m69 F69.kp Y69.b .nil aM (aA (pv 2) (aA (pv 3) aC))))
  (aD (qQ1 (i:=5) iV.nd (aI Y73.G r2 rfl m73 F73.kp Y73.b .nil aM (aA (pv 0) (aA (pv 2) aC))))
  (aD (gJ (i:=6) (nl:=1) (fr:=[0,1]) (Nc:=["_law_k","_law_script","_law_far"]) (cl:=[("_law_script",s.heap.objs.size+1),("_law_far",s.heap.objs.size+2)]) iV.nd rfl rfl rfl ⟨rfl,rfl,∅,∅,(bQ rfl (bQ rfl (dM))),cG rfl,rfl,λi n h=>match i,h with | 0,h=>by cases h;exact⟨0,rfl,rfl,rfl,rfl,.inl rfl⟩ | 1,h=>by cases h;exact⟨1,rfl,rfl,rfl,rfl,.inl rfl⟩ | k+2,h=>by rw[show 1+(k+2)=k+3 by lia] at h;cases h⟩
    (fE rfl n_range (aA (bM bC rfl n_len PySem.boot_len (aA (pv 5) aC)) aC)) (λ_ _ _ _ _=>(qQ0 (i:=0) tN)) (λ_ _ _ _ _=>cC)
    (λ_ _ _ _ _=>(aI Y71.G r3 rfl m71 F71.kp Y71.b .nil aM (aA (aI Y62.G r1 rfl m62 F62.kp Y62.b .nil aM (aA (pv 1) (aA (aT gE aF (pv 0)) aC))) (aA (pv 2) aC)))) rfl)
  (aD (qQ1 (i:=7) iV.nd (aI Y74.G r1 rfl m74 F74.kp Y74.b .nil aM (aA (pv 2) (aA (pv 3) (aA (pv 5) aC)))))
  (aD (qQ1 (i:=8) iV.nd (cS cO rfl n_list PyProof.Rows.boot_list (aA (pv 5) aC)))
  (aD (cN (bG Cz (bM bC rfl n_len PySem.boot_len (aA (pv 7) aC)) aF (bK _)) (aD (kW (aI Y78.G r10 rfl m78 F78.kp Y78.b .nil aM (aA (pv 4) (aA (pv 8) (aA (pv 6) aC)))) (gC rfl (bO (qQ0 (i:=9) iV.nd) (bO (qQ0 (i:=10) iV.nd) eO))))
  (aD (cN (PW.pt (gM (dJ (cV (fH (i:=9) rfl (Or.inl rfl) bl.isi n_list rfl rfl PyProof.Rows.boot_list))) (gM (bG (pF hu) (pv 9) (pv 7) (bK _)) (gM (bG (pF hu) (pv 10) (pv 7) (bK _)) (gV (bG (pF hu) (pv 8) (pv 5) (bK _))))))) (aG (aY gO)) bH)
  (aG (aY (bM (mM rfl) rfl n_all PyProof.Rows.boot_all (aA (cU (nl:=1) (fr:=[]) (Nc:=["_law_one"]) (cl:=[]) rfl ⟨rfl,rfl,∅,∅,λx c h=>(by cases h),cG rfl,rfl,λi n h=>(by simp at h)⟩
    (bZ (aT mQ (pv 9) (pv 10))) (λ_ _ _ _ _=>(qQ0 (i:=0) Po)) (λ_ _ _ _ _=>cC)
    (λ_ _ _ _ _=>(aI Y68.G r1 rfl m68 F68.kp Y68.b .nil aM (aA (pv 0) aC)))) aC)))))) bH)
  (aD (qQ1 (i:=11) iV.nd (aI X18 r9 rfl m60 F60.kp b60 .nil aM (aA (pv 4) (aA (pv 8) aC))))
  (aD (cN (PW.pt (gM (bG (pF hu) (cZ (pv 11) TBx.cl X16 R52 r1 b52 .nil aM) (pv 5) (bK _)) (gV (dJ (cV (aI Y77.G r10 rfl m77 F77.kp Y77.b .nil aM (aA (pv 4) (aA (pv 11) (aA (pv 2) (aA (pv 3) (aA (pv 8) (aA (pv 6) aC)))))))))))) (aG (aY gO)) bH)
  (aD (gJ (i:=12) (nl:=1) (fr:=[]) (Nc:=["_law_row"]) (cl:=[]) iV.nd rfl rfl rfl ⟨rfl,rfl,∅,∅,λx c h=>(by cases h),cG rfl,rfl,λi n h=>(by simp at h)⟩
    (bZ (cZ (pv 11) TBx.cl X10 R50 r1 b50 .nil aM)) (λ_ _ _ _ _=>(qQ0 (i:=0) Xv)) (λ_ _ _ _ _=>cC)
    (λ_ _ _ _ _=>(cS (jY (K:=Z.K) rfl) rfl n_list PyProof.Rows.boot_list (aA (pv 0) aC))) rfl)
  (aD (cD (oQ PySem.F.plainAttrs_list PySem.F.slot_list_append PySem.F.type_list_append gB (pv 8) (aA aF aC)))
  (aD (cD (oQ PySem.F.plainAttrs_list PySem.F.slot_list_append PySem.F.type_list_append gB (aS bS (cZ (pv 11) TBx.cl X10 R50 r1 b50 .nil aM) aF (λ_ _=>rfl)) (aA (gD (aA aF (aA aF aC))) aC)))
  (aD (cD (oQ PySem.F.plainAttrs_list PySem.F.slot_list_append PySem.F.type_list_append gB (cZ (pv 11) TBx.cl X16 R52 r1 b52 .nil aM) (aA aF aC)))
  (aD (cD (qi1 PySem.F.plainAttrs_list PySem.F.slot_list_clear PySem.F.type_list_clear Qt (cZ (pv 11) TBx.cl X12 R51 r1 b51 .nil aM)))
  (aD (aW (i:=13) iV.nd rfl (Or.inr rfl) (aT dL (aI Y62.G r1 rfl m62 F62.kp Y62.b .nil aM (aA (pv 0) (aA aF aC))) (bM bC rfl n_len PySem.boot_len (aA (pv 5) aC))))
  (aD (gJ (i:=14) (nl:=1) (fr:=[13]) (Nc:=["_law_k","_law_at"]) (cl:=[("_law_at",s.heap.objs.size+3)]) iV.nd rfl rfl rfl ⟨rfl,rfl,∅,∅,(bQ rfl (dM)),cG rfl,rfl,λi n h=>match i,h with | 0,h=>by cases h;exact⟨13,rfl,rfl,rfl,rfl,.inl rfl⟩ | k+1,h=>by rw[show 1+(k+1)=k+2 by lia] at h;cases h⟩
    (fE rfl n_range (aA (bM bC rfl n_len PySem.boot_len (aA (pv 5) aC)) aC)) (λ_ _ _ _ _=>(qQ0 (i:=0) Xp)) (λ_ _ _ _ _=>cC)
    (λ_ _ _ _ _=>(gD (aA (cS sQ rfl bl.int PyProof.Rows.boot_int (aA (eP fK (pv 0) (pv 1) (bK _)) aC)) (aA aF aC)))) rfl)
  (aD (cN (PW.pt (gM (dJ (cV (aI Y77.G r10 rfl m77 F77.kp Y77.b .nil aM (aA (pv 4) (aA (pv 11) (aA (pv 2) (aA (pv 3) (aA (cS cO rfl n_list PyProof.Rows.boot_list (aA (pv 5) aC)) (aA (pv 14) aC))))))))) (gV (bG (pF hu) (cZ (pv 4) NTx.cl X17 R29 r1 b29 .nil aM) (pv 3) (bK _))))) (aG (aY gO)) bH)
  (aD (cN (bG Cz (bM bC rfl n_len PySem.boot_len (aA (pv 3) aC)) aF (bK _)) (aD (qQ1 (i:=15) iV.nd (aT tX (aI Y62.G r1 rfl m62 F62.kp Y62.b .nil aM (aA (pv 0) (aA aF aC))) aF))
  (aG (cN (dJ (cV (aI Y79.G hr rfl m79 F79.kp Y79.b .nil aM (aA (pv 4) (aA (pv 2) (aA (pv 3) (aA (pv 5) (aA (pv 6) (aA (pv 15) aC))))))))) (aG (aY gO)) bH))) bH)
  (aG (aY (jW (eP (Sx hu) (cZ (pv 11) TBx.cl X16 R52 r1 b52 .nil aM) (pv 5) (bK _)) (jW (eP (Sx hu) (cZ (pv 11) TBx.cl X10 R50 r1 b50 .nil aM) (pv 12) (bK _)) (oV (bM (mM rfl) rfl n_all PyProof.Rows.boot_all (aA (cU (nl:=1) (fr:=[]) (Nc:=["_law_end"]) (cl:=[]) rfl ⟨rfl,rfl,∅,∅,λx c h=>(by cases h),cG rfl,rfl,λi n h=>(by simp at h)⟩
    (bZ (cZ (pv 11) TBx.cl X16 R52 r1 b52 .nil aM)) (λ_ _ _ _ _=>(qQ0 (i:=0) qe0)) (λ_ _ _ _ _=>cC)
    (λ_ _ _ _ _=>(aI Y68.G r1 rfl m68 F68.kp Y68.b .nil aM (aA (pv 0) aC)))) aC))))))))))))))))))))))))))),?_⟩
 try dsimp only
 refine fB (λσ' H'=>aP H H'/\∃fr:Bool,σ'=[some (.ref a),some (.bl fr),none,none,none,none,none,none,none,none,none,none,none,none,none,none]) (λX hX=>?_) ?_
 .exists _,rfl,a,ns,0,0,rfl,rfl,(aP.refl H).seq hS,h63,(),λv0 H1 s1=>⟨_,_,rfl,rfl,⟨∅,∅⟩,_,_,rfl,rfl,(show (0:Int) < 3 by decide),rfl,?_⟩;exact hX _ _ ⟨s1,decide (V.int (v0 / 6 % 3)=V.int 1),rfl⟩
 rintro σ1 H1 ⟨s1,fr,rfl⟩;refine fB (λσ' H'=>aP H H'/\∃m:Nat,1<=m/\m<=mB fr/\σ'=[some (.ref a),some (.bl fr),some (.int (m:Int)),none,none,none,none,none,none,none,none,none,none,none,none,none]) (λX hX=>?_) ?_
 .exists _,rfl,a,ns,0,0,rfl,rfl,s1.seq hS,h63,(),λv1 H2 s2=>⟨zl9 2,λl1 hl1=>?_⟩;obtain⟨H3,q,s3,e3⟩:=nw hl1 (.lst [.int 6,.int 3]);rw[q];clear q;have mb:1<=mB fr:=by cases fr<;>decide
  exists _,rfl,.inr ⟨fr,rfl,l1,_,_,_,rfl,rfl,SqL.of e3,qs5 fr,_,_,rfl,rfl,(),_,_,rfl,rfl,?_⟩;have f0:=Int.emod_nonneg v1 (show (mB fr:Int)≠0 by lia);have f9:=Int.emod_lt_of_pos v1 (show (0:Int) < mB fr by lia);refine hX _ _ ⟨s1.trans (s2.trans s3),(1+v1 % (mB fr:Int)).toNat,(),(),?_⟩;rw[Int.toNat_of_nonneg (show 0<=1+v1 % (mB fr:Int) by lia)];rfl
 rintro σ2 H2 ⟨s2,m,mo,hm,rfl⟩;have m74:mB fr<=6:=by cases fr<;>decide
 have l17:nRw fr<=17:=by cases fr<;>decide
 clear s1;refine fB (λσ' H'=>aP H H'/\∃(r:Addr) (us:List V) (ds:List RD),σ'=[some (.ref a),some (.bl fr),some (.int (m:Int)),some (.ref r),none,none,none,none,none,none,none,none,none,none,none,none]/\H' r=some (.lst us)/\Rts Z.K H' us ds/\(∀d∈ds,DrB fr m d)/\ds.length<=nRw fr) (λX hX=>?_) ?_
 .exists _,rfl,_,rfl,_,rfl,a,ns,m,fr,rfl,s2.seq hS,h63,mo,hm,λr us ds H3 s3 nr er hR hK hl=>?_;exact hX _ _ ⟨s2.trans s3,r,us,ds,rfl,er,hR,hK,hl⟩
 rintro σ3 H3 ⟨s3,r,us,ds,rfl,er,hR,hK,hl⟩;clear s2;have lus:=hR.length;have nb:=Zg mo hm hl hK;have nh:jV ds:=λd hd=>(hK d hd).nh;have hK30:∀d∈ds,xM (m:Int) d/\Mq.Bd 30 d.2.2.2/\d.1≠.ho:=λd hd=>⟨(hK d hd).ok,(hK d hd).bd.mono (uP fr).1,(hK d hd).nh⟩
 obtain⟨L,sz⟩:=Ts hm hl hK;refine fB (λσ' H'=>aP H3 H'/\∃n l:Addr,σ'=[some (.ref a),some (.bl fr),some (.int (m:Int)),some (.ref r),some (.ref n),none,none,none,none,none,none,none,none,none,none,none]/\H3 l=none/\dR Z.c_Net Z.K H' n l (m:Int) ds) (λX hX=>?_) ?_
 .exists _,rfl,_,rfl,(m:Int),r,us,ds,rfl,(),(),SqL.of er,hR,(λd hd=>(hK d hd).ok),(),λn l H4 s4 nl nt=>?_;exact hX _ _ ⟨s4,n,l,rfl,nl,nt⟩
 rintro σ4 H4 ⟨s4,n,l,rfl,nl,nt⟩;have nrl:r≠l:=bA er nl;have zl:H l=none:=s3.free nl;have er:=s4 _ _ er;have hR:=hR.same s4;have s4:=s3.trans s4;clear s3 nl;obtain⟨ts,el,_⟩:=nt.ls;refine fB (λσ' H'=>aP H4 H'/\∃(bl:Addr) (es:List Nat),σ'=[some (.ref a),some (.bl fr),some (.int (m:Int)),some (.ref r),some (.ref n),some (.ref bl),none,none,none,none,none,none,none,none,none,none]/\H4 bl=none/\H' bl=some (.lst ((ups es).map V.int))/\iO m es) (λX hX=>?_) ?_
 .exists _,rfl,_,rfl,a,ns,m,rfl,s4.seq hS,h63,mo,(),λbl es H5 s5 nb' eb ge=>?_;exact hX _ _ ⟨s5,bl,es,rfl,nb',eb,ge⟩
 rintro σ5 H5 ⟨s5,bl,es,rfl,nb',eb,ge⟩;have nbl:bl≠l:=Ne.symm (bA el nb');have er:=s5 _ _ er;have hR:=hR.same s5;have nt:=nt.same s5;have el:=s5 _ _ el;have s5:=s4.trans s5;clear s4 nb';obtain⟨g1l,g2l⟩:=iY ge;have lb:((ups es).map V.int).length=es.length:=by unfold ups;rw[length_map,length_map]
 refine fB (λσ' H'=>aP H5 H'/\∃(h:Addr) (xs:List V) (hs:List Mq.Q2),σ'=[some (.ref a),some (.bl fr),some (.int (m:Int)),some (.ref r),some (.ref n),some (.ref bl),some (.ref h),none,none,none,none,none,none,none,none,none]/\H5 h=none/\H' h=some (.lst xs)/\Fqs Z.K H' xs hs/\LB (hN fr) hs/\hs.length=es.length) (λX hX=>?_) ?_
 .exists _,rfl,bl,_,rfl,.inl (SqL.of eb),(((ups es).map V.int).length:Int),rfl,(),(),λh hh=>?_;rw[Int.toNat_natCast,lb];have sh:=aE hh (.lst []);refine fV (n:=es.length) (λi zs H'=>aP H5 H'/\H' h=some (.lst zs)/\∃ps,Fqs Z.K H' zs ps/\LB (hN fr) ps/\ps.length=i) ⟨sh,aB,[],.nil,⟨λp hp=>by cases hp⟩,rfl⟩ (λi zs H' h=>h.2.1) ?_ ?_
  .rintro i zs H6 hi ⟨s6,e6,ps,F6,L6,hlen⟩ C hC;exists bU.1,bU.2,dA ?_;exists _,rfl,_,rfl,_,_,rfl,rfl,a,ns,26+(0+(i:Int)),26+i,rfl,(),(s5.trans s6).seq hS,h63,(),λv H7 s7=>⟨_,rfl,v,fr,rfl,λp lp bp z H8 s8 e8=>?_⟩;have e6':=(s7.trans s8) _ _ e6;have lz:=F6.length;exists e6',aV (),hC _ _ ⟨(s6.trans (s7.trans s8)).change hh,aB,ps++[p],((F6.same (s7.trans s8)).app (.cons (Fq.of e8) .nil)).upd e6',LB.snoc L6 lp (bp.mono (by cases fr<;>decide)),by rw[List.length_append,hlen];rfl⟩
  rintro zs H6 ⟨s6,e6,ps,F6,L6,hlen⟩;exact hX _ _ ⟨s6,h,zs,ps,rfl,hh,e6,F6,L6,hlen⟩
 rintro σ6 H6 ⟨s6,h,xs,hs,rfl,nh',hh,fh,lh,hlen⟩;have nhl:h≠l:=Ne.symm (bA el nh');have eb:=s6 _ _ eb;have er:=s6 _ _ er;have hR:=hR.same s6;have nt:=nt.same s6;have el:=s6 _ _ el;have s6:=s5.trans s6;clear s5 nh';refine qf1 (λσ' H'=>aP H6 H'/\∃(u hd:Addr),σ'=[some (.ref a),some (.bl fr),some (.int (m:Int)),some (.ref r),some (.ref n),some (.ref bl),some (.ref h),some (.ref u),some (.ref hd),none,none,none,none,none,none,none]/\H6 hd=none/\H' u=some (.lst ((ups (lsP (mk m ds) m es)).map V.int))/\H' hd=some (.lst ((ups es).map V.int))) (λX hX=>?_) ?_
 .exists _,rfl,_,rfl,_,rfl,r,bl,us,m,ds,es,rfl,SqL.of er,hR,nb.pt,nh,(),SqL.of eb,ge.lt,(),λu H7 s7 nu eu=>?_;exists _,rfl,bl,_,rfl,.inl (SqL.of (s7 _ _ eb)),λhd hhd=>?_;obtain⟨H8,q,s8,e8⟩:=nw hhd (.lst ((ups es).map V.int));rw[q];clear q;exact hX _ _ ⟨s7.trans s8,u,hd,rfl,s7.free hhd,s8 _ _ eu,e8⟩
 rintro σ8 H8 ⟨s8,u,hd,rfl,nhd,eu,ehd⟩;have nrd:r≠hd:=bA er nhd;have zd:H hd=none:=s6.free nhd;have nbd:bl≠hd:=bA eb nhd;have nhd':h≠hd:=bA hh nhd;have nld:l≠hd:=bA el nhd;have eb:=s8 _ _ eb;have er:=s8 _ _ er;have hR:=hR.same s8;have nt:=nt.same s8;have el:=s8 _ _ el;have hh:=s8 _ _ hh;have fh:=fh.same s8;have s8:=s6.trans s8;clear s6 nhd;have lsl:=On (mk m ds) m es;generalize hls:lsP (mk m ds) m es=ls at eu lsl;have llu:((ups ls).map V.int).length=ls.length:=by unfold ups;rw[length_map,length_map]
 exists _,rfl,u,_,rfl,.inl (SqL.of eu),_,_,rfl,rfl,_,rfl,rS (λhp=>?_) (λhp=>?_)
 .-- some float
  have ne:lsP (mk m ds) m es≠[]:=λz=>by
   rw[hls] at z;rw[z] at hp;exact absurd hp ∅
  refine fB (λσ' H'=>aP H8 H'/\∃(f1 f2:Addr),σ'=[some (.ref a),some (.bl fr),some (.int (m:Int)),some (.ref r),some (.ref n),some (.ref bl),some (.ref h),some (.ref u),some (.ref hd),some (.ref f1),some (.ref f2),none,none,none,none,none]/\H' f1=some (.lst ((ups ls).map V.int))/\H' f2=some (.lst ((ups ls).map V.int))) (λX hX=>?_) ?_
  .exists _,rfl,_,rfl,_,rfl,n,l,hd,h,m,ds,es,xs,rfl,nt,nb,SqL.of hh,ehd,ge,nh,ne,λt f1 f2 H9 s9 e1 e2 et=>?_;rw[hls] at e1 e2;exists t,_,rfl,et,rfl,?_;exists _,_,rfl,_,_,rfl,rfl,hX _ _ ⟨s9,f1,f2,rfl,e1,e2⟩
  rintro σ9 H9 ⟨s9,f1,f2,rfl,e1,e2⟩;refine fB (λσ' H'=>H'=H9/\σ'=[some (.ref a),some (.bl fr),some (.int (m:Int)),some (.ref r),some (.ref n),some (.ref bl),some (.ref h),some (.ref u),some (.ref hd),some (.ref f1),some (.ref f2),none,none,none,none,none]) (λX hX=>?_) ?_
  .exists _,_,true,rfl,.lst (SqL.of e1),rfl,_,rfl,dE ?_;exists _,rfl,_,rfl,xH (neg:=true) (SqL.of e1) (SqL.of (s9 _ _ eu)) ⟨_,rfl,dE ?_⟩;exists _,rfl,_,rfl,xH (neg:=true) (SqL.of e2) (SqL.of (s9 _ _ eu)) ⟨_,rfl,dE ?_⟩;exists _,rfl,_,rfl,xH (neg:=true) (SqL.of (s9 _ _ ehd)) (SqL.of (s9 _ _ eb)) ⟨_,rfl,dE ?_⟩;exact hX _ _ ⟨rfl,rfl⟩
  rintro σ10 H10 ⟨rfl,rfl⟩;exists _,rfl,_,rfl,f1,f2,_,_,rfl,rfl,e1,e2,Nat.le_of_lt (aV ()),λq1 hq1=>?_;obtain⟨H11,q,sq,eq1⟩:=nw hq1 (.lst ((ups ls).map V.int++(ups ls).map V.int));rw[q];clear q;have em:(ups ls).map V.int++(ups ls).map V.int=(ups ls++ups ls).map V.int:=by rw[map_append]
  rw[em] at eq1;exists q1,rfl,⟨_,SqL.of eq1⟩,λDD hDD=>?_;have sD:=aE hDD (.lst []);refine cB (xs:=(ups ls++ups ls).map V.int) (λi zs H'=>aP H11 H'/\H' DD=some (.lst zs)/\zs=(replicate i true).map V.bl) ⟨sD,aB,rfl⟩ (λi zs H' h=>h.2.1) (λi zs H' _ h=>h.1.seq (SqL.of eq1)) ?_ ?_
  .rintro i zs x H12 hx ⟨s12,e12,rfl⟩ C hC;have hi:=(List.getElem?_eq_some_iff.mp hx).1;rw[getElem?_map] at hx;obtain⟨w,hw,rfl⟩:=Option.map_eq_some_iff.mp hx;rw[<- em,List.length_append,llu] at hi;exists bU.1,bU.2,dA ?_;exists _,rfl,w,rfl,?_;exists e12,aV (by rw[length_map,length_replicate];lia),hC _ _ ⟨s12.change hDD,aB,?_⟩;rw[replicate_succ',map_append];rfl
  .rintro zs H12 ⟨s12,e12,rfl⟩;exists DD,_,rfl,SqL.of e12,?_;rw[Lc];exact q _
 have le:lsP (mk m ds) m es=[]:=by
  rw[hls]
  cases ls with
  |nil=>rfl
  |cons x r=>exact absurd hp ⋯
 clear hls hp eu llu lsl
 try dsimp only
 have lv8:kQ [hd,l] H8:=λx hx=>by
  simp only[mem_cons,not_mem_nil,or_false] at hx;rcases hx with rfl | rfl
  .exists _,ehd
  .exists _,el
 refine Oa (λσ' H'=>aP H8 H'/\∃(tb:Addr) (Zm:List (List Mq.Q2)) (zs:List Mq.Q2),σ'=[some (.ref a),some (.bl fr),some (.int (m:Int)),some (.ref r),some (.ref n),some (.ref bl),some (.ref h),some (.ref u),some (.ref hd),none,none,some (.ref tb),none,none,none,none]/\sW [hd,l] Z.c_Table Z.K H' tb (ups es) Zm zs/\TbF m ds es Zm zs (nE m (kN fr) es)) (λX hX=>?_) ?_
 .exists _,rfl,_,rfl,n,l,hd,m,ds,es,[hd,l],L,_,_,rfl,nt,nb,lv8,ehd,ge,nh,le,sz,λtb Zm zs H9 s9 TA TF=>?_;obtain⟨dx,p0,l0,a0,us0,zc0,ht,_⟩:=TA.e;exists _,rfl,tb,dx,_,rfl,ht,(fC _ _ _ ∅ ∅ ∅),tb,_,_,_,rfl,TA.at,λea H10 s10 nea eea=>?_;exists _,rfl,xH (neg:=true) (SqL.of eea) (SqL.of ((s9.trans s10) _ _ eb)) ⟨_,rfl,dE ?_⟩;have sx:=s9.trans s10;exists _,rfl,_,rfl,_,rfl,_,rfl,_,rfl,_,rfl,n,l,tb,r,hd,h,m,hN fr,_,_,_,L,us,xs,ds,es,hs,Zm,zs,rfl,nt.same sx,nb,TA.at.same s10,TF,SqL.of (sx _ _ er),hR.same sx,hK30,(),sx _ _ ehd,ge,le,sx _ _ hh,fh.same sx,lh,hlen,Os hm,sz,Ia hm ge,λH11 s11=>⟨_,rfl,dE ?_⟩;exact hX _ _ ⟨sx.trans s11,tb,Zm,zs,rfl,TA.same (s10.trans s11),TF⟩
 rintro σ9 H9 ⟨s9,tb,Zm,zs,rfl,TA,TF⟩;have lv9:kQ [hd,l] H9:=λx hx=>by obtain⟨y,e⟩:=lv8 x hx;exists y,s9 _ _ e
 have eb:=s9 _ _ eb;have er:=s9 _ _ er;have hR:=hR.same s9;have nt:=nt.same s9;have el:=s9 _ _ el;have ehd:=s9 _ _ ehd;have hh:=s9 _ _ hh;have fh:=fh.same s9;have s9:=s8.trans s9;clear s8 lv8;have TD:=TF.td;have lX:=TD.lX;refine fB (λσ' H'=>aP H9 H'/\∃(D:Addr) (zk:List V),σ'=[some (.ref a),some (.bl fr),some (.int (m:Int)),some (.ref r),some (.ref n),some (.ref bl),some (.ref h),some (.ref u),some (.ref hd),none,none,some (.ref tb),some (.ref D),none,none,none]/\H9 D=none/\H' D=some (.lst zk)/\LnH Z.K H' zk Zm/\∀x∈zk,∃y,x=.ref y/\H9 y=none) (λX hX=>?_) ?_
 .obtain⟨dx,p0,l0,a0,us0,zc0,ht,_⟩:=TA.e;exists _,rfl,tb,dx,_,rfl,ht,(fC _ _ _ ∅ ∅ ∅),tb,_,Zm,zs,rfl,TA.at,(),λM um H10 s10 nM eM LM nm=>?_;exists M,rfl,⟨_,SqL.of eM⟩,λD hD=>?_;have sD:=aE hD (.lst []);refine cB (xs:=um) (λi zz H'=>aP H10 H'/\H' D=some (.lst zz)/\LnH Z.K H' zz (Zm.take i)/\∀x∈zz,x≠.ref D/\∃y,x=.ref y/\H10 y=none) ⟨sD,aB,by rw[take_zero];exact .nil,λx hx=>by cases hx⟩ (λi zs H' h=>h.2.1) (λi zs H' _ h=>h.1.seq (SqL.of eM)) ?_ ?_
  .rintro i zz x H11 hx ⟨s11,e11,Y72.G,n2⟩ C' hC';have hi:i < Zm.length:=by have:=(List.getElem?_eq_some_iff.mp hx).1;have:=LM.l;lia
   have hc:Zm[i]?=some Zm[i]:=getElem?_eq_getElem hi;obtain⟨ra,rx,rfl,era,Sra⟩:=(LM.same s11).r i x _ hx hc;have lz:=Y72.G.l;rw[length_take] at lz;exists bU.1,bU.2,dA ?_;exists _,rfl,ra,rx,rfl,.inl (SqL.of era),λL1 hL1=>?_;obtain⟨H12,q,sL,eL⟩:=nw hL1 (.lst rx);rw[q];clear q;have e23:=sL _ _ e11;have nLK:L1≠D:=Ne.symm (bA e11 hL1);exists e23,aV (),hC' _ _ ⟨(s11.trans sL).change hD,aB,?_,λy hy=>?_⟩
   .rw[take_add_one,hc];refine((Y72.G.same sL).snoc eL (Sra.same sL)).upd e23 λy hy=>?_;rcases mem_append.mp hy with z | z
    .exact(n2 y z).1
    .have:y=.ref L1:=by simpa using z
     rw[this];exact λz=>nLK (by injection z)
   .rcases mem_append.mp hy with z | z
    .exact n2 y z
    .have:y=.ref L1:=by simpa using z
     rw[this];exists λz=>nLK (by injection z),L1,rfl,s11.free hL1
  rintro zk H11 ⟨s11,e11,Y62.G,n1⟩;rw[LM.l,take_length] at Y62.G;exact hX _ _ ⟨s10.trans s11,D,zk,rfl,s10.free hD,e11,Y62.G,λx hx=>by obtain⟨_,y,e,z⟩:=n1 x hx;exact⟨y,e,s10.free z⟩⟩
 rintro σ10 H10 ⟨s10,D,zk,rfl,nD,eD,GD,nDk⟩;have TA:=TA.sx lv9 s10.sx;have lv10:kQ [hd,l] H10:=λx hx=>by obtain⟨y,e⟩:=lv9 x hx;exists y,s10 _ _ e
 have nDh:D≠hd:=Ne.symm (bA ehd nD);have nDl:D≠l:=Ne.symm (bA el nD);have nDk:∀x∈zk,x≠.ref hd/\x≠.ref l:=λx hx=>by
  obtain⟨y,rfl,ny⟩:=nDk x hx;exists λz=>bA ehd ny (by injection z with z;exact z.symm),λz=>bA el ny (by injection z with z;exact z.symm)
 have eb:=s10 _ _ eb;have er:=s10 _ _ er;have hR:=hR.same s10;have nt:=nt.same s10;have el:=s10 _ _ el;have ehd:=s10 _ _ ehd;have hh:=s10 _ _ hh;have fh:=fh.same s10;have s10:=s9.trans s10;clear s9 lv9 nD;refine fB (λσ' H'=>SX [hd,l] H10 H'/\cK hd H10 H'/\(∃y,H' hd=some (.lst y))/\σ'=[some (.ref a),some (.bl fr),some (.int (m:Int)),some (.ref r),some (.ref n),some (.ref bl),some (.ref h),some (.ref u),some (.ref hd),none,none,some (.ref tb),some (.ref D),none,none,none]) (λX hX=>?_) ?_
 .exists _,rfl,.inl ⟨rfl,_,SqL.of ehd⟩,hd,_,.int 0,rfl,rfl,ehd,aV (),?_;exact hX _ _ ⟨SX.write (aP.refl H10).sx ⋯,cK.write (aP.refl H10).x,⟨_,aB⟩,rfl⟩
 rintro σ11 H11 ⟨s11,x11,⟨yh,ehd'⟩,rfl⟩;have TA:=TA.sx lv10 s11;have eb:=x11 _ _ eb nbd;have er:=x11 _ _ er nrd;have hR:=x11.rts ehd hR;have nt:=nt.x ehd x11 nld;have fh:Fqs Z.K H11 xs hs:=SX.fqs lv10 s11 fh;have s11':=s11;have s11:aP H H11:=s11.same s10 (λx hx=>by
  simp only[mem_cons,not_mem_nil,or_false] at hx;rcases hx with rfl | rfl
  .exact zd
  .exact zl)
 have zs:∀x∈[hd,l],H x=none:=λx hx=>by
  simp only[mem_cons,not_mem_nil,or_false] at hx;rcases hx with rfl | rfl
  .exact zd
  .exact zl
 have lv11:kQ [hd,l] H11:=λx hx=>by
  simp only[mem_cons,not_mem_nil,or_false] at hx;rcases hx with rfl | rfl
  .exists _,ehd'
  .exists _,x11 _ _ el nld
 have hh:=x11 _ _ hh nhd';have eD:=x11 _ _ eD nDh;have GD:LnH Z.K H11 zk Zm:=⟨GD.l,λi x ps h1 h2=>by
  obtain⟨y,xs,e1,e2,e3⟩:=GD.r i x ps h1 h2;exact⟨y,xs,e1,x11 _ _ e2 (λz=>(nDk x (mem_of_getElem? h1)).1 (by rw[e1,z])),SX.fqs lv10 s11' e3⟩⟩
 clear s10 lv10 ehd s11';refine Oa (λσ' H'=>aP H11 H'/\σ'=[some (.ref a),some (.bl fr),some (.int (m:Int)),some (.ref r),some (.ref n),some (.ref bl),some (.ref h),some (.ref u),some (.ref hd),none,none,some (.ref tb),some (.ref D),none,none,none]) (λX hX=>?_) ?_
 .obtain⟨dx,p0,l0,a0,us0,zc0,ht,_⟩:=TA.e;exists _,rfl,tb,dx,_,rfl,ht,(fC _ _ _ ∅ ∅ ∅),tb,_,Zm,_,rfl,TA.at,(),λM um H12 s12 nM eM LM nm=>?_;obtain⟨r0,x0,e0,hr0,F0⟩:=LM.at (iK (show 0 < Zm.length by lia));obtain⟨_,r0',er0,nr0⟩:=nm _ (mem_of_getElem? e0);have:r0=r0':=by injection er0
  subst this;have lx0:=F0.length;have ly0:(Zm.getD 0 []).length=es.length:=(TD.lb (show 0 < es.length by lia)).1;exists M,um,0,.ref r0,rfl,rfl,SqL.of eM,(by exact bY e0),.inl ⟨rfl,_,SqL.of hr0⟩,zl9 2,λt ht'=>?_;obtain⟨H13,q,s13,e13⟩:=nw ht' (.tup [.int 1,.int 1]);rw[q];clear q;exists r0,_,.ref t,rfl,rfl,s13 _ _ hr0,aV (),?_;have s14:=(s12.trans s13).change (o:=.lst (x0++[.ref t])) nr0;generalize upd H13 r0 (.lst (x0++[.ref t]))=H14 at s14 ⊢;exists _,rfl,tb,dx,_,rfl,s14 _ _ ht,(fC _ _ _ ∅ ∅ ∅),tb,_,Zm,_,rfl,TA.at.same s14,λea H15 s15 nea eea=>?_;exists .inl ⟨rfl,_,SqL.of eea⟩,ea,_,.int 0,rfl,rfl,eea,aV (),?_;have s16:=s15.change (o:=.lst ((ups es).map V.int++[.int 0])) nea;generalize upd H15 ea (.lst ((ups es).map V.int++[.int 0]))=H16 at s16 ⊢;have s016:=s14.trans s16;exists _,rfl,tb,dx,_,rfl,s016 _ _ ht,(fC _ _ _ ∅ ∅ ∅),tb,_,Zm,_,rfl,TA.at.same s016,λca yc H17 s17 nca eca _=>?_;exists .inl ⟨rfl,_,SqL.of eca⟩,ca,_,rfl,rfl,eca,?_;have s18:=s17.change (o:=.lst []) nca;exact hX _ _ ⟨s016.trans s18,rfl⟩
 rintro σ12 H12 ⟨s12,rfl⟩;have TA:=TA.same s12;have eb:=s12 _ _ eb;have er:=s12 _ _ er;have hR:=hR.same s12;have nt:=nt.same s12;have hh:=s12 _ _ hh;have fh:=fh.same s12;have eD:=s12 _ _ eD;have GD:=GD.same s12;have lv12:kQ [hd,l] H12:=λx hx=>by obtain⟨y,e⟩:=lv11 x hx;exists y,s12 _ _ e
 have s12:=s11.trans s12;clear s11 x11 lv11 ehd' el;refine fB (λσ' H'=>aP H12 H'/\∃o:Nat,o < es.length/\σ'=[some (.ref a),some (.bl fr),some (.int (m:Int)),some (.ref r),some (.ref n),some (.ref bl),some (.ref h),some (.ref u),some (.ref hd),none,none,some (.ref tb),some (.ref D),some (.int (o:Int)),none,none]) (λX hX=>?_) ?_
 .exists _,rfl,a,ns,5,5,rfl,rfl,s12.seq hS,h63,(),λv H13 s13=>⟨_,rfl,bl,_,rfl,.inl (SqL.of (s13 _ _ eb)),_,_,rfl,rfl,(show (0:Int) < (((ups es).map V.int).length:Int) by lia),?_⟩;rw[lb];have f0:=Int.emod_nonneg v (show (es.length:Int)≠0 by lia);have f9:=Int.emod_lt_of_pos v (show (0:Int) < es.length by lia);refine hX _ _ ⟨s13,(v % (es.length:Int)).toNat,(),?_⟩;rw[Int.toNat_of_nonneg f0];rfl
 rintro σ13 H13 ⟨s13,o,ho,rfl⟩;refine fB (λσ' H'=>aP H13 H'/\∃(un:Addr) (xu:List V) (hv:List Mq.Q2),σ'=[some (.ref a),some (.bl fr),some (.int (m:Int)),some (.ref r),some (.ref n),some (.ref bl),some (.ref h),some (.ref u),some (.ref hd),none,none,some (.ref tb),some (.ref D),some (.int (o:Int)),some (.ref un),none]/\H' un=some (.lst xu)/\Fqs Z.K H' xu hv/\LB (hN fr) hv/\hv.length=es.length) (λX hX=>?_) ?_
 .exists _,rfl,bl,_,rfl,.inl (SqL.of (s13 _ _ eb)),(((ups es).map V.int).length:Int),rfl,(),(),λun hun=>?_;rw[Int.toNat_natCast,lb];have su:=aE hun (.lst []);refine fV (n:=es.length) (λi zs H'=>aP H13 H'/\H' un=some (.lst zs)/\∃ps,Fqs Z.K H' zs ps/\LB (hN fr) ps/\ps.length=i) ⟨su,aB,[],.nil,⟨λp hp=>by cases hp⟩,rfl⟩ (λi zs H' h=>h.2.1) ?_ ?_
  .rintro i zs H14 hi ⟨s14,e14,ps,F14,L14,hlen'⟩ C hC;exists bU.1,bU.2,dA ?_;exists _,rfl,_,rfl,rfl,.inr ⟨_,rfl,zl9 2,λt ht=>?_⟩;have sp:=aE ht (.tup [.int (if decide (V.int (0+(i:Int))=V.int (o:Int))=true then 1 else 0),.int 1]);have fp:∃p:Mq.Q2,Low p/\Mq.Bd (hN fr) p/\Fq Z.K (upd H14 t (.tup [.int (if decide (V.int (0+(i:Int))=V.int (o:Int))=true then 1 else 0),.int 1])) t p:=by
    have h1:1<=hN fr:=by cases fr<;>decide
    by_cases c:decide (V.int (0+(i:Int))=V.int (o:Int))=true
    .rw[if_pos c];exists (1,1),⟨∅,∅⟩,Mq.Bd.mono (n:=1) ⟨show (1:Nat) < 2 ^ 1 by decide,show (1:Nat) < 2 ^ 1 by decide⟩ h1,Fq.of aB
    .rw[if_neg c];exists (0,1),⟨∅,∅⟩,Mq.Bd.mono (n:=1) ⟨show (0:Nat) < 2 ^ 1 by decide,show (1:Nat) < 2 ^ 1 by decide⟩ h1,Fq.of aB
   generalize upd H14 t (.tup [.int (if decide (V.int (0+(i:Int))=V.int (o:Int))=true then 1 else 0),.int 1])=H15 at sp fp ⊢;obtain⟨p,lp,bp,fp⟩:=fp;have e15:=sp _ _ e14;have lz:=F14.length;exists e15,aV (),hC _ _ ⟨(s14.trans sp).change hun,aB,ps++[p],((F14.same sp).app (.cons fp .nil)).upd e15,LB.snoc L14 lp bp,by rw[List.length_append,hlen'];rfl⟩
  rintro zs H14 ⟨s14,e14,ps,F14,L14,hlen'⟩;exact hX _ _ ⟨s14,un,zs,ps,rfl,e14,F14,L14,hlen'⟩
 rintro σ14 H14 ⟨s14,un,xu,hv,rfl,eun,Fun,Lun,lun⟩;have s14:=s13.trans s14;have eb:=s14 _ _ eb;have er:=s14 _ _ er;have hR:=hR.same s14;have nt:=nt.same s14;have hh:=s14 _ _ hh;have fh:=fh.same s14;have TA:=TA.same s14;have eD:=s14 _ _ eD;have GD:=GD.same s14;have lv14:kQ [hd,l] H14:=λx hx=>by obtain⟨y,e⟩:=lv12 x hx;exists y,s14 _ _ e
 have s14:=s12.trans s14;clear s12 s13 lv12;refine fB (λσ' H'=>aP H14 H'/\σ'=[some (.ref a),some (.bl fr),some (.int (m:Int)),some (.ref r),some (.ref n),some (.ref bl),some (.ref h),some (.ref u),some (.ref hd),none,none,some (.ref tb),some (.ref D),some (.int (o:Int)),some (.ref un),none]) (λX hX=>?_) ?_
 .exists _,rfl,_,rfl,_,rfl,_,rfl,_,rfl,bl,_,rfl,.inl (SqL.of eb),λe3 he3=>?_;obtain⟨H15,q,s15,e15⟩:=nw he3 (.lst ((ups es).map V.int));rw[q];clear q;exists _,rfl,n,l,tb,r,e3,un,m,hN fr,_,_,_,L,us,xu,ds,es,hv,Zm,_,rfl,nt.same s15,nb,TA.at.same s15,TF,SqL.of (s15 _ _ er),hR.same s15,hK30,(),e15,ge,le,s15 _ _ eun,Fun.same s15,Lun,lun,Os hm,sz,Ia hm ge,λH16 s16=>⟨_,rfl,dE ?_⟩;have s156:=s15.trans s16;obtain⟨dn,hn⟩:=(nt.same s156).ob;exists _,rfl,n,dn,_,rfl,hn,fD _ _ ∅ ∅,n,l,(m:Int),ds,rfl,nt.same s156,λta ts' H17 s17 na e17 R17=>?_;exists _,rfl,qi0 (neg:=true) (SqL.of e17) (SqL.of ((s156.trans s17) _ _ er)) R17 (hR.same (s156.trans s17)) ⟨_,rfl,dE ?_⟩;exact hX _ _ ⟨s156.trans s17,rfl⟩
 rintro σ15 H15 ⟨s15,rfl⟩;have eb:=s15 _ _ eb;have er:=s15 _ _ er;have hR:=hR.same s15;have nt:=nt.same s15;have hh:=s15 _ _ hh;have fh:=fh.same s15;have TA:=TA.same s15;have eD:=s15 _ _ eD;have GD:=GD.same s15;have lv15:kQ [hd,l] H15:=λx hx=>by obtain⟨y,e⟩:=lv14 x hx;exists y,s15 _ _ e
 have s15:=s14.trans s15;clear s14 lv14;refine fB (λσ' H'=>SX [l] H15 H'/\∃z:Option V,σ'=[some (.ref a),some (.bl fr),some (.int (m:Int)),some (.ref r),some (.ref n),some (.ref bl),some (.ref h),some (.ref u),some (.ref hd),none,none,some (.ref tb),some (.ref D),some (.int (o:Int)),some (.ref un),z]) (λX hX=>?_) ?_
 .exists _,rfl,r,us,rfl,.inl (SqL.of er),_,_,rfl,rfl,_,rfl,rS (λhp=>?_) (λhp=>hX _ _ ⟨(aP.refl _).sx,_,rfl⟩);have hp:0 < ds.length:=by have:=of_decide_eq_true hp;lia
  exists _,rfl,a,ns,5,5,rfl,rfl,s15.seq hS,h63,(),λv H16 s16=>⟨_,_,rfl,rfl,⟨∅,∅⟩,?_⟩;exists _,rfl,_,rfl,_,rfl,_,rfl,_,rfl,_,rfl,n,l,r,bl,h,m,fr,_,us,xs,ds,es,hs,rfl,nt.same s16,nrl,nbl,nhl,s16 _ _ er,hR.same s16,hK,hl,hp,mo,hm,s16 _ _ eb,ge,le,s16 _ _ hh,fh.same s16,lh,hlen,λH17 s17=>⟨_,rfl,dE ?_⟩;exact hX _ _ ⟨s16.sx.trans s17,_,rfl⟩
 rintro σ16 H16 ⟨s16,z15,rfl⟩;have TA:=TA.sx lv15 (s16.mono (λx hx=>by rw[mem_singleton.mp hx];simp));have eb:=s16 _ _ eb (λz=>nbl (mem_singleton.mp z));have lvl:kQ [l] H15:=λx hx=>lv15 x (by rw[mem_singleton.mp hx];simp);have GD:LnH Z.K H16 zk Zm:=⟨GD.l,λi x ps h1 h2=>by
  obtain⟨y,xs,e1,e2,e3⟩:=GD.r i x ps h1 h2;exact⟨y,xs,e1,s16 _ _ e2 (λz=>(nDk x (mem_of_getElem? h1)).2 (by rw[e1,mem_singleton.mp z])),SX.fqs lvl s16 e3⟩⟩
 have eD:=s16 _ _ eD (λz=>nDl (mem_singleton.mp z));clear s15 s16 lv15 lvl fh hR nt er hh;obtain⟨dx,p0,l0,a0,us0,zc0,ht,_⟩:=TA.e;exists _,rfl,tb,dx,_,rfl,ht,(fC _ _ _ ∅ ∅ ∅),tb,_,Zm,_,rfl,TA.at,λea H17 s17 nea eea=>?_;exists _,rfl,xH (neg:=false) (SqL.of eea) (SqL.of (s17 _ _ eb)) ⟨_,rfl,dA ?_⟩;exists _,rfl,tb,dx,_,rfl,s17 _ _ ht,(fC _ _ _ ∅ ∅ ∅),tb,_,Zm,_,rfl,TA.at.same s17,(),λM um H18 s18 nM eM LM nm=>?_;exists _,rfl,qe9 (neg:=false) (SqL.of eM) (SqL.of ((s17.trans s18) _ _ eD)) LM.lns (GD.lns.same (s17.trans s18)) ⟨_,rfl,dA ?_⟩;exists _,rfl,tb,dx,_,rfl,(s17.trans s18) _ _ ht,(fC _ _ _ ∅ ∅ ∅),tb,_,Zm,_,rfl,TA.at.same (s17.trans s18),λeb2 H19 s19 nb2 eb2'=>?_;exists eb2,rfl,⟨_,SqL.of eb2'⟩,λDD hDD=>?_;have sD:=aE hDD (.lst []);refine cB (xs:=(ups es).map V.int) (λi zs H'=>aP H19 H'/\H' DD=some (.lst zs)/\zs=(replicate i true).map V.bl) ⟨sD,aB,rfl⟩ (λi zs H' h=>h.2.1) (λi zs H' _ h=>h.1.seq (SqL.of eb2')) ?_ ?_
 .rintro i zs x H20 hx ⟨s20,e20,rfl⟩ C hC;have hi:=(List.getElem?_eq_some_iff.mp hx).1;rw[getElem?_map] at hx;obtain⟨w,hw,rfl⟩:=Option.map_eq_some_iff.mp hx;rw[lb] at hi;exists bU.1,bU.2,dA ?_;exists _,rfl,w,rfl,?_;exists e20,aV (by rw[length_map,length_replicate];lia),hC _ _ ⟨s20.change hDD,aB,?_⟩;rw[replicate_succ',map_append];rfl
 .rintro zs H20 ⟨s20,e20,rfl⟩;exists DD,_,rfl,SqL.of e20,?_;rw[Lc];exact q _
end
theorem qa6 (c:CZ){fa:Addr}(hfa:c.mg "law"=some (.ref fa))(h:GZ c):
  ∃fd:FuncData,(∀(s:Shared) (v:Value),BindsTo s fd ⟨[v],[]⟩ [("_law_script",v)])/\∀base:Heap,c.K.In base->base.Ns mainGlobals c.mg->aJ c.P c.w c.K c.mg base CX0 12 fa fd ["_law_script"] (Cy c.K):=by
 have e:=hfa.symm.trans h.m80
 cases e
 exists W.fnOf "law" "law" (fM Aa) (eK Aa) (aH Aa) .none c.kV80 c.dc80 c.pm80 c.an80 c.cd80 c.ct80,λs v=>.of_eq rfl,λbase _ _=>?_
 refine Classical.byContradiction λn=>?_
 have e:=Classical.epsilon_spec (p:=λx:CZ×Heap=>GZ x.1/\¬OZ x.1 x.2) ⟨(c,base),h,n⟩
 have i:GZ Z:=by unfold Z;exact e.1
 have j:=@Rlaw i
 unfold FZ Z ZB at j;exact e.2 j
theorem qp9 {l:W.OpenLaw}{XP:(Str->Option Value)->Heap->Prop}{K:Params->Frag}(hn:l.most=some 63)(hdf:d.params.defaults=[])(hY:∀(w:World) (h:Heap),YP w h->(K w.params).In h)(F:∀(w:World) (mg:Str->Option Value) (fa:Addr) (h:Heap),(K w.params).In h->h.Ns mainGlobals mg->mg d.name=some (.ref fa)->
   ∃fd:FuncData,(∀(s:Shared) (u:Value),BindsTo s fd ⟨[u],[]⟩ [("_law_script",u)])/\∀base:Heap,(K w.params).In base->base.Ns mainGlobals mg->aJ l.prog w (K w.params) mg base CX0 12 fa fd ["_law_script"] (Cy (K w.params))):
  W.WalkO q loose XP YP l.row.toRowW d [] (λf vs=>PySem.call f vs):=
 L2.Wy (n:=63) (k:=12) (x:="_law_script") (CX:=λ_=>CX0) (sp:=λw=>Cy (K w.params)) hn ∅ hdf ⟨rfl,∅,∅⟩ hY F (λ_ _ a ns hl _ hS=>⟨a,ns,rfl,hS,hl,λ_=>rfl⟩) λ_ _ _ _ _ z=>z
end K54
local macro_rules | `(tactic| walk_at "F9")=>`(tactic| (refine' L2.zS ?l9 ?c9 ?kk9;(case l9=>k_is);(case c9=>k_is);(case kk9=>show _=_;k_is)))
namespace PySem.W.Fast
noncomputable section
def Q:=Nat
def tw16342472405819207384:=Q
def tw13174613090355764180:=Q
def tw4148872440720425071:=Q
def tw5377331491014764332:=Q
def tw6092107762229329498:=Q
def tw1899440613550162694:=Q
def tw6359724750570709172:=Q
def tw5332695341009900535:=Q
def tw5419703277117297105:=Q
def tw15848723873264756847:=Q
def tw2342954434342424931:=Q
def tw10459392688849281067:=Q
def tw6563508318213658628:=Q
def tw4233380621665661689:=Q
def tw690915879833338841:=Q
def tw1992424401165203063:=Q
def tw14815814972270120760:=Q
def tw7781808694362641234:=Q
def tw1398764055828975839:=Q
def tw3714218524634086434:=Q
def tw5462794754658693909:=Q
def tw1767513153978099417:=Q
def tw2950777252190521329:=Q
def tw3721360335692984233:=Q
def tw369935668959003404:=Q
def tw11394455916942029722:=Q
def tw15870696898646749569:=Q
def tw8805747701763054991:=Q
def tw17888205657519777473:=Q
def tw7232464283386159102:=Q
def tw8440388021013282165:=Q
def tw16728683819668412701:=Q
def tw16614070945870585326:=Q
def tw16702830101783581835:=Q
def tw9682856738438391272:=Q
def tw16588469963133075170:=Q
def tw257030950686925682:=Q
def tw17830171519643105665:=Q
def tw8288720739311689071:=Q
def tw16608677026000934699:=Q
def tw14716356171867085835:=Q
def tw12341401604029448524:=Q
def tw6530006183495862684:=Q
def tw15541993600943074538:=Q
def tw13665773906100896926:=Q
def tw15973795361425468198:=Q
def tw15388604462078706337:=Q
def tw2136963595631202031:=Q
def tw3103386943321776984:=Q
def tw17424825238706070319:=Q
def tw14118912406866595521:=Q
def tw7040213280202859742:=Q
def tw17582773992246636469:=Q
def tw8629164237945681087:=Q
def tw8555523408320972309:=Q
def tw2596084837703142588:=Q
def tw7361998250975282824:=Q
def tw10536712757842863792:=Q
def tw2274507697893718113:=Q
def tw17277386837264756312:=Q
def tw12368374934127064835:=Q
def tw12541407945395238424:=Q
def tw13209792171694272627:=Q
def tw13012186133678343163:=Q
def tw2854138480053100975:=Q
def tw6858387408625037260:=Q
def tw15088319871218415906:=Q
def tw16139630713558439201:=Q
def tw16519370894265037926:=Q
def tw3665691845277375942:=Q
def tw4696354339399844274:=Q
def tw12274049853618604081:=Q
def tw90648616607124264:=Q
def tw15269901907634113117:=Q
def tw8030039373693029803:=Q
def tw18167153145568631575:=Q
def tw13795413590446916130:=Q
def tw518350135591631847:=Q
def tw1454740147618960203:=Q
def tw8102000995599230732:=Q
def tw5611381146789728588:=Q
def tw6680258248262207031:=Q
def tw8920906204179015198:=Q
def tw13719812895410953422:=Q
def tw2482591372972708044:=Q
def tw6365908106758574229:=Q
def tw2629581483366640947:=Q
def tw5857986484556965862:=Q
def tw14486153852209959451:=Q
def tw4958783386621130586:=Q
def tw7321093178016764000:=Q
def tw4371309482099124349:=Q
def tw4647906280886812513:=Q
def tw7995415210976311198:=Q
def tw16422469165662807484:=Q
def tw9397285633491687885:=Q
def tw16482851244083755120:=Q
def tw4865107361588496941:=Q
def tw4972099980567477214:=Q
def tw1893030779198682258:=Q
def tw16604112466111871889:=Q
def tw16676467549546486756:=Q
def tw2663956167105286008:=Q
def tw9538814959482794427:=Q
def tw3772094418828063588:=Q
def tw17639220386212389888:=Q
def tw12960616538852195133:=Q
def tw4208268578505930851:=Q
def tw15430118631418480845:=Q
def tw15936020061843995567:=Q
def tw18416471098592536275:=Q
def tw13923098001201158105:=Q
def tw15495750739149799528:=Q
def tw6892960517394274431:=Q
def tw5289852597342615126:=Q
def tw14885150228847682963:=Q
def tw8315204843028645671:=Q
def tw1642671327121335573:=Q
def tw2649967039272728803:=Q
def tw17066416604838638425:=Q
def tw4984774382827525153:=Q
def tw9516691197151192504:=Q
def tw10790463591744038025:=Q
def tw5056550615377117130:=Q
def tw2637499797754347315:=Q
def tw4894582229417277557:=Q
def tw1240596789856118810:=Q
def tw2984715366838442932:=Q
def tw10694298382241448321:=Q
def tw12856812401942587644:=Q
def tw2480131706575668452:=Q
def tw9228805294596654510:=Q
def tw15479308827849494987:=Q
def tw17509694262171192404:=Q
def tw2111980758868835836:=Q
def tw6402427891864382743:=Q
def tw9727576927530848280:=Q
def tw12133062298557375389:=Q
def tw1973958801201148514:=Q
def tw13216858513536279742:=Q
def tw8538094226475405621:=Q
def tw6883048509866104395:=Q
def tw17754073091883870636:=Q
def tw5371856767166054431:=Q
def tw22995209697709654:=Q
def tw309612061351545100:=Q
def tw3053310022312437697:=Q
def tw14297463211356193800:=Q
def tw2601572686727520695:=Q
def tw8960228484662589244:=Q
def tw6015332699267687556:=Q
def tw15042357896895250585:=Q
def tw1816864155422056725:=Q
def tw7643893291322410313:=Q
def tw5007139468412864088:=Q
def tw12397491158293112033:=Q
def tw7234271833051134216:=Q
def tw11521881911231275373:=Q
def tw11803245404321762354:=Q
def tw5312012957453232629:=Q
def tw10512861787143730867:=Q
def tw1739113583511680932:=Q
def tw5119133442899246392:=Q
def tw13426443896732277471:=Q
def tw10285035743942861756:=Q
def tw16450695647262731205:=Q
def tw4001142960477596298:=Q
def tw17887368411985114380:=Q
def tw5124883134146964664:=Q
def tw17019119439784054840:=Q
def tw7450206118046126695:=Q
def tw16040573475335346502:=Q
def tw17528638235413532524:=Q
def tw2174509924085468712:=Q
def tw9339740214188499027:=Q
def tw12649257399825365684:=Q
def tw6370057787324284257:=Q
def tw4767436782096426457:=Q
def tw938084894227929059:=Q
def tw12860677374835812027:=Q
def tw6452040545977287590:=Q
def tw16988443089202760471:=Q
def tw5745547933186747528:=Q
def tw8919952556257769564:=Q
def tw5715076263990544052:=Q
def tw4903279799395961030:=Q
def tw2319342663171284967:=Q
def tw17529514469776785010:=Q
def tw5590785795307108180:=Q
def tw1170506046312609050:=Q
def tw8538869533118580432:=Q
def tw9951999022864395001:=Q
def tw3901261177810138654:=Q
def tw9340800379205885499:=Q
def tw4391317341372231233:=Q
def tw6338328716337155898:=Q
def tw9171070231083614905:=Q
def tw14915282410049132300:=Q
def tw4309996266741751416:=Q
def tw11256081090852736653:=Q
def tw17214055928510602455:=Q
def tw13539236335349048806:=Q
def tw11576397501533781967:=Q
def tw14070389048054106534:=Q
def tw905400647782378416:=Q
def tw7501395931024744190:=Q
def tw5649638389417622362:=Q
def tw5739348940144822651:=Q
def tw17488345278700565864:=Q
def tw5184752290929676461:=Q
def tw2107877977951648133:=Q
def tw17443416112482304975:=Q
def tw14361706852376004924:=Q
def tw840983431193494343:=Q
def tw6791669299043598338:=Q
def tw11662781223227638501:=Q
def tw15232011503927219520:=Q
def tw16975326631817414412:=Q
def tw5876671761174830534:=Q
def tw17677884666367488203:=Q
def tw6895679584642270290:=Q
def tw14233770705552187871:=Q
def tw1912672407549569829:=Q
def tw8270534888957944545:=Q
def tw10799209484109429694:=Q
def tw4361575795386883803:=Q
def tw17484914809887442888:=Q
def tw12834796721547620323:=Q
def tw13083141173957669404:=Q
def tw16620215015478186263:=Q
def tw17408172897667039328:=Q
def tw12750566385770900711:=Q
def tw13379249809127167755:=Q
def tw17480150729340180243:=Q
def tw6047690758077770662:=Q
def tw2665075958584001:=Q
def tw16558237225226434962:=Q
def tw14457213201077472144:=Q
def tw9562359949962862649:=Q
def tw6966098588894381389:=Q
def tw9085172921626665489:=Q
def tw13108174381566326627:=Q
def tw3004165200587407511:=Q
def tw9795515495215714932:=Q
def tw11091209513015422673:=Q
def tw6523386696446845632:=Q
def tw4557335857072221384:=Q
def tw9708396003141396845:=Q
def tw18289439003320071032:=Q
def tw6147782352116082545:=Q
def tw8513086758533334359:=Q
def tw13739824082371153756:=Q
def tw3779193542692587776:=Q
def tw5083331565945771888:=Q
def tw10158440727645351625:=Q
def tw1574474508542735110:=Q
def tw3041668248370185933:=Q
def tw6404857085211563473:=Q
def tw16806150423665488929:=Q
def tw18226112810193441249:=Q
def tw16375312501706984989:=Q
def tw17547316798359768254:=Q
def tw8017463797158337028:=Q
def tw3396465565249603416:=Q
def tw2500992392835358093:=Q
def tw12037788217374619041:=Q
def tw15529217169970067223:=Q
def tw12801567038442336822:=Q
def tw4910897601380961865:=Q
def tw2333094773290411429:=Q
def tw12255040175006413343:=Q
def tw9310694695826828169:=Q
def tw13951338783846264281:=Q
def tw2129709481369526063:=Q
def tw7090422794367327108:=Q
def tw1544816404205863927:=Q
def tw14049476566959710405:=Q
def tw3154042844569163490:=Q
def tw4123765456213067328:=Q
def tw10840924529264775851:=Q
def tw6329950550253131953:=Q
def tw2816860356072531663:=Q
end
end PySem.W.Fast
open PySem PySem.W PyProof.Rows
set_option maxRecDepth 100000 in
set_option maxHeartbeats 0 in
theorem PySem.Challenge.cw_ohmyard_k54_brought_by_inner_heights_holds : PySem.Challenge.rw_ohmyard_k54_brought_by_inner_heights.Holds := by
  w_on; o_law; k_head; (case hw => w_witness2)
  k_fill
  refine K54.qp9 (l := PySem.Challenge.rw_ohmyard_k54_brought_by_inner_heights) rfl rfl (fun w h Y => PySem.W.kIn_of Y) ?F
  case F =>
    intro w mg fa h KX G hmg
    refine' K54.qa6 {P:=PySem.Challenge.rw_ohmyard_k54_brought_by_inner_heights.prog,w:=w,mg:=mg,K:=PySem.Challenge.cw_ohmyard_k54_brought_by_inner_heights_holds.heap_39 w.params,..} hmg (.mk ?_ ?_ ?_ ?_ ?_ ?_ ?_ ?_ ?_ ?_ ?_ ?_ ?_ ?_ ?_ ?_ ?_ ?_ ?_ ?_ ?_ ?_ ?_ ?_ ?_ ?_ ?_ ?_ ?_ ?_ ?_ ?_ ?_ ?_ ?_ ?_ ?_ ?_ ?_ ?_ ?_ ?_ ?_ ?_ ?_ ?_ ?_ ?_ ?_ ?_ ?_ ?_ ?_ ?_ ?_ ?_ ?_ ?_ ?_ ?_ ?_ ?_ ?_ ?_ ?_ ?_ ?_ ?_ ?_ ?_ ?_ ?_ ?_ ?_ ?_ ?_ ?_ ?_ ?_ ?_ ?_ ?_ ?_ ?_ ?_ ?_ ?_ ?_ ?_ ?_ ?_ ?_ ?_ ?_ ?_ ?_ ?_ ?_ ?_ ?_ ?_ ?_ ?_ ?_ ?_ ?_ ?_ ?_ ?_ ?_ ?_ ?_ ?_ ?_ ?_ ?_ ?_ ?_ ?_ ?_ ?_ ?_ ?_ ?_ ?_ ?_ ?_ ?_ ?_ ?_ ?_ ?_ ?_ ?_ ?_ ?_ ?_ ?_ ?_ ?_ ?_ ?_ ?_ ?_ ?_ ?_ ?_ ?_ ?_ ?_ ?_ ?_ ?_ ?_ ?_ ?_ ?_ ?_ ?_ ?_ ?_ ?_ ?_ ?_ ?_ ?_ ?_ ?_ ?_ ?_ ?_ ?_ ?_ ?_ ?_ ?_ ?_ ?_ ?_ ?_ ?_ ?_ ?_ ?_ ?_ ?_ ?_ ?_ ?_ ?_ ?_ ?_ ?_ ?_ ?_ ?_ ?_ ?_ ?_ ?_ ?_ ⟨(mg_none_of KX G ?_),(mg_none_of KX G ?_),(mg_none_of KX G ?_),(mg_none_of KX G ?_)⟩ ⟨L2.kA ⟨?_,?_,?_,?_⟩ ⟨?_,?_,?_,?_⟩ ⟨?_,?_,?_,?_⟩,L2.kA ?_ ?_ ?_,L2.kA ?_ ?_ ?_,L2.kA ?_ ?_ ?_,L2.kA ?_ ?_ ?_,?_,?_,L2.kA ?_ ?_ ?_,L2.kA ?_ ?_ ?_,L2.kA (L2.kA (L2.wL _ _) ?_ ?_) (L2.kA ?_ (L2.wL _ _) ?_) (L2.kA ?_ ?_ (L2.wL _ _)),(mg_of KX G ?_),L2.kA (mg_of KX G ?_) (mg_of KX G ?_) (mg_of KX G ?_)⟩ (L2.Fq.mod ?_) (L2.Fq.mod ?_) ⟨⟨?_,?_,?_,?_⟩,?_,?_,?_,?_,?_,?_,(mg_of KX G ?_)⟩ ⟨⟨?_,?_,?_,?_⟩,?_,?_,?_,(mg_of KX G ?_)⟩ ⟨(mg_of KX G ?_),⟨?_,?_,?_,?_,?_,?_,?_,?_⟩,?_,?_,?_⟩ ⟨⟨_,_,_,_,_,_,_,_,_,_,_,_,_,_,?_⟩,⟨_,_,_,_,_,_,_,_,_,_,_,_,_,_,_,?_⟩,?_,?_,?_⟩ ⟨⟨_,_,_,_,_,_,_,_,_,_,_,_,_,_,?_⟩,⟨_,_,_,_,_,_,_,_,_,_,_,_,_,_,_,?_⟩,?_,?_,?_⟩ ⟨?_,?_,?_⟩ ⟨?_,?_⟩ ⟨?_,?_⟩ (L2.kA (⟨?_,?_,?_,?_⟩) (⟨?_,?_,?_,?_⟩) (⟨?_,?_,?_,?_⟩)) ⟨?_,?_,?_,?_⟩ ⟨?_,?_,?_,?_⟩)
    any_goals first|(refine mg_of KX G ?_;k_is)|(refine mg_none_of KX G ?_;k_is)
    all_goals try dsimp only
    any_goals first|k_is|walk_at "F9"|kit_is|kts_exm|k_exc|(unfold L2.Ta;k_exc)|(show _=_;k_is)|rfl|decide
    any_goals first|k_is|walk_at "F9"|kit_is|kts_exm|k_exc|(unfold L2.Ta;k_exc)|(show _=_;k_is)|rfl|decide
