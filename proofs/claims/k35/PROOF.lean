import PyProof.Rows.All
import Wide.Line
import OpenK.KOwn
import KE.RegKIsAll
import KE.RegKTryMore
import Wide.FinOn
import Lean
import PyProof.EqAt
import PyProof.EqKinds
import PyProof.TupleCall
import PyProof.Cells
import PyProof.SumWalkG
import PyProof.EnumStmt
import PyProof.EnumMake
import PyProof.InstStoreFacts
import KE.KDictList
import KE.KItem
import KE.KIntText
import PySem.Challenge.RW_ohmyard_k35_whole_only_ones_or_refused
set_option Elab.async false
set_option linter.all false
local macro_rules|`(tactic|exists $x,*)=>`(tactic|refine ⟨$x,*⟩)
local macro_rules|`(())=>`(by lia)
local macro_rules|`(∅)=>`(by decide +kernel)
local macro_rules|`(⋯)=>`(by simp)
set_option maxRecDepth 100000
open PySem.W (Frag)
set_option maxHeartbeats 4000000
open List
theorem wq{α}{l:List α}{i a}:l[i]?=some a<->∃h:i<l.length,l[i]=a:=List.getElem?_eq_some_iff
theorem xj{α}{l m:List α}:(l++m).length=l.length+m.length:=List.length_append
namespace L2
open PySem PySem.Spec PyProof.Rows
abbrev Key:=Sum Int Str
def Al:Key->Value->Bool
 | .inl k,v=>Value.isInt k v
 | .inr x,v=>Value.isStrOf x v
def qt2 (w:World):Key->Int
 | .inl k=>hashInt k
 | .inr x=>hashStr w x
theorem fE:∀{k:Key} {v:Value},Al k v=true->(∃i t,k=Sum.inl i/\v=Value.int i t)\/(∃x t,k=Sum.inr x/\v=Value.str x t)
 | .inl i,v,h=>by
  obtain⟨t,e⟩:=Value.isInt_shape (k:=i) (v:=v) h;exact .inl ⟨i,t,rfl,e⟩
 | .inr x,v,h=>by
  obtain⟨t,e⟩:=Value.isStrOf_shape (x:=x) (v:=v) h;exact .inr ⟨x,t,rfl,e⟩
theorem Pc (i:Int)(t:Tok):Al (.inl i) (.int i t)=true:=by simp[Al,Value.isInt]
theorem Ni (x:Str)(t:Tok):Al (.inr x) (.str x t)=true:=by simp[Al,Value.isStrOf]
theorem qh0 (a b:Int):decide ((Sum.inl a:Key)=Sum.inl b)=(a == b):=by
 by_cases e:a=b
 .subst e;simp
 .have h:¬(Sum.inl a:Key)=Sum.inl b:=λq=>e (Sum.inl.inj q);rw[decide_eq_false h];exact(beq_eq_false_iff_ne.mpr e).symm
theorem qc9 (a b:Str):decide ((Sum.inr a:Key)=Sum.inr b)=decide (a=b):=by
 by_cases e:a=b
 .subst e;simp
 .have h:¬(Sum.inr a:Key)=Sum.inr b:=λq=>e (Sum.inr.inj q);rw[decide_eq_false h,decide_eq_false e]
theorem qf0 (a:Int)(b:Str):decide ((Sum.inl a:Key)=Sum.inr b)=false:=decide_eq_false (λq=>nomatch q)
theorem qh6 (a:Str)(b:Int):decide ((Sum.inr a:Key)=Sum.inl b)=false:=decide_eq_false (λq=>nomatch q)
def fH (prog:Program)(w:World):PySem.KeyKind prog w Key where
 is:=Al
 hash:=qt2 w
 inj:=λv a b ha hb=>by
  rcases fE ha with ⟨i,t,rfl,rfl⟩ | ⟨x,t,rfl,rfl⟩
  .rcases fE hb with ⟨j,u,rfl,e⟩ | ⟨y,u,rfl,e⟩
   .injection e with e1 _;rw[e1]
   .exact nomatch e
  .rcases fE hb with ⟨j,u,rfl,e⟩ | ⟨y,u,rfl,e⟩
   .exact nomatch e
   .injection e with e1 _;rw[e1]
 byValue:=λk v h=>by
  rcases fE h with ⟨i,t,rfl,rfl⟩ | ⟨x,t,rfl,rfl⟩<;>rfl
 pyHash:=λhv h=>by
  rcases fE hv with ⟨i,t,rfl,rfl⟩ | ⟨x,t,rfl,rfl⟩
  .exact wpAny_pyHash_int h
  .exact wpAny_pyHash_str h
 eqBool:=λhu hv h=>by
  rcases fE hu with ⟨i,t,rfl,rfl⟩ | ⟨x,t,rfl,rfl⟩
  .rcases fE hv with ⟨j,u,rfl,rfl⟩ | ⟨y,u,rfl,rfl⟩
   .rw[qh0] at h;exact wpAny_eqBool_int h
   .rw[qf0] at h;exact SeqAt.EqAt.int_str i t y u _ _ _ _ h
  .rcases fE hv with ⟨j,u,rfl,rfl⟩ | ⟨y,u,rfl,rfl⟩
   .rw[qh6] at h;exact SeqAt.EqAt.str_int x t j u _ _ _ _ h
   .rw[qc9] at h;exact wpAny_eqBool_str h
 «strs»:=λk x t v h=>by
  rcases fE h with ⟨i,u,rfl,e⟩ | ⟨y,u,rfl,e⟩
  .exact nomatch e
  .injection e with e1 _
   subst e1
   cases v<;>rfl
theorem Et (prog:Program)(w:World)(i:Int)(t:Tok):(fH prog w).is (.inl i) (.int i t)=true:=Pc i t
theorem Ei (prog:Program)(w:World)(x:Str)(t:Tok):(fH prog w).is (.inr x) (.str x t)=true:=Ni x t
inductive V where
 |non | bl (b:Bool) | int (i:Int) | str (x:Str) | byt (b:Array UInt8) | flt (b:UInt64) | ref (a:Addr) | ty (n:String)
 deriving DecidableEq
abbrev wk:=List V
def cN:V->Value->Prop
 | .non,u=>u=Value.none
 | .bl b,u=>u=Value.bool b
 | .int i,u=>∃t,u=Value.int i t
 | .str x,u=>∃t,u=Value.str x t
 | .byt b,u=>∃t,u=Value.bytes b t
 | .flt b,u=>∃t,u=Value.float b t
 | .ref a,u=>u=Value.ref a
 | .ty n,u=>u=Value.type n
abbrev cJ:wk->List Value->Prop:=Paired cN
theorem cJ.length (r:cJ xs us):xs.length=us.length:=Paired.length r
theorem cJ.get:∀{xs:wk} {us:List Value} {i:Nat} {x:V},cJ xs us->xs[i]?=some x->∃u,us[i]?=some u/\cN x u
 |_,_,_,_,.nil,e=>by simp at e
 |_,_,0,_,.cons r _,e=>by simp at e;subst e;exists _,rfl,r
 |_,_,i+1,x,.cons _ t,e=>by
  obtain⟨u,h1,h2⟩:=cJ.get (i:=i) (x:=x) t (by simpa using e);exists u,by simpa using h1,h2
theorem cJ.set (r:cN x u):∀{xs:wk} {us:List Value} (i:Nat),cJ xs us->cJ (xs.set i x) (us.set i u)
 |_,_,_,.nil=>.nil
 |_,_,0,.cons _ t=>.cons r t
 |_,_,i+1,.cons q t=>.cons q (cJ.set r i t)
theorem cJ.append:∀{xs ys:wk} {us ws:List Value},cJ xs us->cJ ys ws->cJ (xs++ys) (us++ws)
 |_,_,_,_,.nil,s=>s
 |_,_,_,_,.cons r t,s=>.cons r (cJ.append t s)
theorem cJ.take:∀{xs:wk} {us:List Value} (n:Nat),cJ xs us->cJ (xs.take n) (us.take n)
 |_,_,0,_=>.nil
 |_,_,_+1,.nil=>.nil
 |_,_,n+1,.cons r t=>.cons r (cJ.take n t)
theorem cJ.drop:∀{xs:wk} {us:List Value} (n:Nat),cJ xs us->cJ (xs.drop n) (us.drop n)
 |_,_,0,r=>r
 |_,_,_+1,.nil=>.nil
 |_,_,n+1,.cons _ t=>cJ.drop n t
def kR:Option V->Option Value->Prop
 |some v,some u=>cN v u
 |none,none=>True
 |_,_=>False
def KV {κ:Type}:List (κ × V)->List (κ × Value)->Prop:=Paired λ(p:κ × V) (q:κ × Value)=>p.1=q.1/\cN p.2 q.2
def kV:Key->V
 | .inl i=>.int i
 | .inr x=>.str x
inductive HO where
 |lst (xs:wk)
 |tup (xs:wk)
 |dK (kvs:List (Key × V)) | dT (kvs:List (List Key × V))
 |set (S:Int->Bool) (n:Nat)
 |ins (C dx:Addr) (fs:List (Str × V))
 |own (x:Addr)
 |xd (fs:List (Str × V))
 |met (f x:Addr)
 |rng (lo hi:Int)
 |frz (o:Obj) (u:HO)
 |tbl (ps:Array Value)
 |ext (φ:Heap->Prop)
abbrev Hp:=Addr->Option HO
def upd (H:Hp)(a:Addr)(o:HO):Hp:=λb=>if b=a then some o else H b
theorem aB:upd H a o a=some o:=by unfold upd;rw[if_pos rfl]
theorem aV (h:b≠a):upd H a o b=H b:=by unfold upd;rw[if_neg h]
theorem qT:upd (upd H a o) a u=upd H a u:=by
 funext b;unfold upd;split<;>rfl
theorem gX {H:Hp}(h:H a=some o)(h':H b=some u)(d:o≠u):a≠b:=by
 intro e;subst e;rw[h] at h';exact d (Option.some.inj h')
theorem bL {H:Hp}(h:H a=some o)(h':H b=none):a≠b:=by
 intro e;subst e;rw[h] at h';cases h'
section
variable (P:Program) (w:World)
def dP (H:Hp)(h:Heap)(a:Addr):HO->Prop
 | .lst xs=>xs.length<=sizeLine/\∃(its:List Value) (n:Nat),cJ xs its/\h.get? a=some { cls:=.type "list",data:=.seq its.toArray n }
 | .tup xs=>xs.length<=sizeLine/\∃its:List Value,cJ xs its/\IsTup h a its.toArray
 | .dK kvs=>kvs.length<=sizeLine/\(a == sysModules)=false/\∃vs,KV kvs vs/\h.DictOf (fH P w) a vs
 | .dT kvs=>kvs.length<=sizeLine/\(a == sysModules)=false/\∃xs:List (List Key × Addr × Value),
   Paired (λ(p:List Key × V) (q:List Key × Addr × Value)=>p.1=q.1/\H q.2.1=some (.tup (p.1.map kV))/\cN p.2 q.2.2) kvs xs/\
   ∃o es ep,h.get? a=some o/\o.ExactDict/\o.data=.dict es ep/\es.toList=xs.map (entryOfKey (tupleKind (fH P w)))/\(xs.map (·.1)).Nodup
 | .set S n=>h.SetOf (intKind P w) a S n
 | .ins C dx fs=>H dx=some (.own a)/\fs.length<=1000/\dx≠a/\h.get? a=some (W.instObj C dx)/\
   ∃mA,h.Ns1 dx mA/\(∀f,kR (fs.lookup f) (mA f))/\PySem.Within mA (fs.map (·.1))
 | .own _=>∃o,h.get? a=some o
 | .xd fs=>∃mA,h.Ns1 a mA/\∀f,kR (fs.lookup f) (mA f)
 | .rng lo hi=>∃t u v,h.get? a=some { cls:=.type "range",data:=.fields #[.int lo t,.int hi u,.int 1 v] }
 | .frz o u=>h.get? a=some o/\dP H h a u
 | .tbl ps=>h.get? a=some { cls:=.none,data:=.fields ps }
 | .met f x=>h.get? a=some (W.methodObj (.ref f) (.ref x))
 | .ext φ=>φ h/\(∃o,h.get? a=some o)/\∀h1 h2:Heap,φ h1->(∀o,h1.get? a=some o->h2.get? a=some o)->φ h2
def HOk (H:Hp)(h:Heap):Prop:=∀a o,H a=some o->dP P w H h a o
end
section
variable {P:Program} {w:World} {H H':Hp} {h h':Heap} {a:Addr} {o:HO}
theorem dP.lt (x:dP P w H h a o):a < h.objs.size:=by
 cases o with
 |lst xs=>obtain⟨_,_,_,_,e⟩:=x;exact Heap.lt_size e
 |tup xs=>obtain⟨_,_,_,p⟩:=x;exact p.lt
 |dK kvs=>obtain⟨_,_,_,_,o,_,_,e,_⟩:=x;exact Heap.lt_size e
 |dT kvs=>obtain⟨_,_,_,_,o,_,_,e,_⟩:=x;exact Heap.lt_size e
 |set S n=>obtain⟨o,_,_,_,e,_⟩:=x;exact Heap.lt_size e
 |ins C dx fs=>obtain⟨_,_,_,e,_⟩:=x;exact Heap.lt_size e
 |own y=>obtain⟨_,e⟩:=x;exact Heap.lt_size e
 |xd fs=>obtain⟨_,⟨_,_,_,e,_⟩,_⟩:=x;exact Heap.lt_size e
 |rng lo hi=>obtain⟨_,_,_,e⟩:=x;exact Heap.lt_size e
 |frz ob u=>obtain⟨e,_⟩:=x;exact Heap.lt_size e
 |tbl ps=>exact Heap.lt_size (show h.get? a=some _ from x)
 |met f y=>exact Heap.lt_size (show h.get? a=some _ from x)
 |ext φ=>obtain⟨_,⟨_,e⟩,_⟩:=x;exact Heap.lt_size e
theorem Paired.mapP:∀{l₁:List α} {l₂:List β},Paired F l₁ l₂->(∀a b,F a b->G a b)->Paired G l₁ l₂
 |_,_,.nil,_=>.nil
 |_,_,.cons r t,f=>.cons (f _ _ r) (Paired.mapP t f)
theorem dP.stay (x:dP P w H h a o)(k:∀b u,(b=a\/H b=some (.own a))->h.get? b=some u->h'.get? b=some u)(ho:∀b,H b=some (.own a)->H' b=some (.own a))(ht:∀b xs,H b=some (.tup xs)->H' b=some (.tup xs)):dP P w H' h' a o:=by
 induction o with
 |lst xs=>obtain⟨z,its,n,r,e⟩:=x;exists z,its,n,r,k _ _ (.inl rfl) e
 |tup xs=>obtain⟨z,its,r,ob,e,c⟩:=x;exists z,its,r,ob,k _ _ (.inl rfl) e,c
 |dK kvs=>obtain⟨z,y,vs,r,ob,es,ep,e,c⟩:=x;exists z,y,vs,r,ob,es,ep,k _ _ (.inl rfl) e,c
 |dT kvs=>
  obtain⟨z,y,xs,r,ob,es,ep,e,c⟩:=x;exists z,y,xs,Paired.mapP r λp q z=>⟨z.1,ht _ _ z.2.1,z.2.2⟩,ob,es,ep,k _ _ (.inl rfl) e,c
 |set S n=>obtain⟨ob,es,ep,t,e,c⟩:=x;exists ob,es,ep,t,k _ _ (.inl rfl) e,c
 |ins C dx fs=>
  obtain⟨d,z,ne,e,mA,⟨od,es,ep,e2,c⟩,r⟩:=x;exists ho _ d,z,ne,k _ _ (.inl rfl) e,mA,⟨od,es,ep,k _ _ (.inr d) e2,c⟩,r
 |own y=>obtain⟨ob,e⟩:=x;exists ob,k _ _ (.inl rfl) e
 |xd fs=>obtain⟨mA,⟨od,es,ep,e,c⟩,r⟩:=x;exists mA,⟨od,es,ep,k _ _ (.inl rfl) e,c⟩,r
 |rng lo hi=>obtain⟨t,u,v,e⟩:=x;exists t,u,v,k _ _ (.inl rfl) e
 |frz ob u ih=>obtain⟨e,q⟩:=x;exists k _ _ (.inl rfl) e,ih q
 |tbl ps=>
  have e:h.get? a=some { cls:=.none,data:=.fields ps }:=x;show h'.get? a=some { cls:=.none,data:=.fields ps };exact k a _ (.inl rfl) e
 |met f y=>
  have e:h.get? a=some (W.methodObj (.ref f) (.ref y)):=x;show h'.get? a=some (W.methodObj (.ref f) (.ref y));exact k a _ (.inl rfl) e
 |ext φ=>obtain⟨p,⟨o,e⟩,st⟩:=x;exists st _ _ p λo q=>k _ _ (.inl rfl) q,⟨o,k _ _ (.inl rfl) e⟩,st
theorem HOk.lt (x:HOk P w H h)(e:H a=some o):a < h.objs.size:=(x a o e).lt
theorem HOk.fresh (x:HOk P w H h)(e:h.objs.size<=a):H a=none:=by
 cases q:H a with
 |none=>rfl
 |some u=>exact absurd (Nat.lt_of_lt_of_le (x.lt q) e) (Nat.lt_irrefl _)
theorem HOk.kept (x:HOk P w H h)(k:∀b u,h.get? b=some u->h'.get? b=some u):HOk P w H h':=λa o e=>
 (x a o e).stay (λb u _ q=>k b u q) (λ_ q=>q) λ_ _ q=>q
theorem HOk.laid (x:HOk P w H h)(k:∀b u,h.get? b=some u->h'.get? b=some u)(hp:h.objs.size<=a)(new:dP P w (upd H a o) h' a o):HOk P w (upd H a o) h':=λb u e=>by
 have hn:=x.fresh hp
 by_cases hb:b=a
 .subst hb;rw[aB] at e;cases e;exact new
 .rw[aV hb] at e;exact(x b u e).stay (λc v _ q=>k c v q) (λc q=>by rw[aV (bL q hn)];exact q) λc xs q=>by rw[aV (bL q hn)];exact q
end
def Rd (H:Hp)(a:Addr)(u:HO):Prop:=H a=some u\/∃o,H a=some (.frz o u)
theorem Rd.ok (r:Rd H a u)(x:HOk P w H h):dP P w H h a u:=by
 rcases r with r | ⟨o,r⟩
 .exact x a u r
 .obtain⟨_,q⟩:=x a _ r;exact q
def Mut:Option HO->Prop
 |some (.lst _)=>True
 |some (.dK _)=>True
 |some (.dT _)=>True
 |some (.set _ _)=>True
 |some (.ins _ _ _)=>True
 |some (.ext _)=>True
 |_=>False
section
variable {P:Program} {w:World} {H:Hp} {h h':Heap} {x e:Addr} {o':HO}
theorem HOk.write (ok:HOk P w H h)(mu:Mut (H x))(he:e=x\/H e=some (.own x))(k:∀b u,b≠e->h.get? b=some u->h'.get? b=some u)(heo:∃u,h'.get? e=some u)(new:dP P w (upd H x o') h' x o'):HOk P w (upd H x o') h':=λb u q=>by
 have nown:∀c y,H c=some (.own y)->c≠x:=λc y r z=>by subst z;rw[r] at mu;exact mu
 have ntup:∀c xs,H c=some (.tup xs)->c≠x:=λc xs r z=>by subst z;rw[r] at mu;exact mu
 by_cases hb:b=x
 .subst hb;rw[aB] at q;cases q;exact new
 .rw[aV hb] at q
  by_cases hbe:b=e
  .have q':H b=some (.own x):=by
    rcases he with z | z
    .exact absurd (hbe.trans z) hb
    .rw[hbe];exact z
   rw[q] at q';cases q';obtain⟨v,hv⟩:=heo;exists v,by rw[hbe];exact hv
  .refine(ok b u q).stay (λc v hc r=>k c v ?_ r) (λc r=>by rw[aV (nown c b r)];exact r) λc xs r=>by rw[aV (ntup c xs r)];exact r
   rcases hc with rfl | hc
   .exact hbe
   .rintro rfl;rcases he with z | z
    .exact nown c b hc z
    .rw[hc] at z;cases z;exact hb rfl
end
structure Un (fs ex:List Addr) (H H':Hp) (h h':Heap):Prop where
 keep:∀b o,h.get? b=some o->H b=none->b∉fs->b∉ex->h'.get? b=some o
 slot:∀b o,h.get? b=some o->H b=none->b∈fs->b∉ex->∃sl,h'.get? b=some { o with slots:=sl }
 free:∀b o,h.get? b=some o->H b=none->b∉ex->H' b=none
 there:∀b o,h.get? b=some o->b∉ex->∃o',h'.get? b=some o'
 tups:∀b xs,H b=some (.tup xs)->H' b=some (.tup xs)
 frzs:∀b o u,H b=some (.frz o u)->H' b=some (.frz o u)
 tbls:∀b ps,H b=some (.tbl ps)->∃more,H' b=some (.tbl (ps++more))
section
variable {fs fs' ex ex':List Addr} {H H1 H2:Hp} {h h1 h2 h':Heap} {a x e:Addr} {o:HO}
theorem Un.any (u:Un fs ex H H1 h h1)(q:h.get? b=some ob)(n:H b=none)(hx:b∉ex):∃sl,h1.get? b=some { ob with slots:=sl }:=by
 by_cases hb:b∈fs
 .exact u.slot b ob q n hb hx
 .exists ob.slots,u.keep b ob q n hb hx
theorem Un.kept (k:∀b u,h.get? b=some u->h'.get? b=some u):Un fs ex H H h h':=
 ⟨λb ob q _ _ _=>k b ob q,λb ob q _ _ _=>⟨ob.slots,k b ob q⟩,λ_ _ _ n _=>n,λb ob q _=>⟨ob,k b ob q⟩,λ_ _ q=>q,λ_ _ _ q=>q,λ_ ps q=>⟨#[],by rw[q];simp⟩⟩
theorem Un.refl:Un fs ex H H h h:=Un.kept λ_ _ q=>q
theorem Un.laid (k:∀b u,h.get? b=some u->h'.get? b=some u)(hp:h.objs.size<=a)(hn:H a=none):Un fs ex H (upd H a o) h h' where
 keep:=λb u q _ _ _=>k b u q
 slot:=λb u q _ _ _=>⟨u.slots,k b u q⟩
 free:=λb u q n _=>by rw[aV (Nat.ne_of_lt (Nat.lt_of_lt_of_le (Heap.lt_size q) hp))];exact n
 there:=λb u q _=>⟨u,k b u q⟩
 tups:=λb xs q=>by rw[aV (bL q hn)];exact q
 frzs:=λb u xs q=>by rw[aV (bL q hn)];exact q
 tbls:=λb ps q=>⟨#[],by rw[aV (bL q hn),q];simp⟩
theorem Un.write (mu:Mut (H x))(he:e=x\/H e=some (.own x))(k:∀b u,b≠e->h.get? b=some u->h'.get? b=some u)(heo:∃u,h'.get? e=some u):Un fs ex H (upd H x o) h h':=by
 have hx:∀b,H b=none->b≠x:=λb n z=>by subst z;rw[n] at mu;exact mu
 have hb:∀b,H b=none->b≠e:=λb n z=>by
  subst z;rcases he with r | r
  .exact hx b n r
  .rw[n] at r;cases r
 have hm:∀b u,H b=some u->¬Mut (some u)->b≠x:=λb u q nm z=>by subst z;rw[q] at mu;exact nm mu
 refine⟨λb u q n _ _=>k b u (hb b n) q,λb u q n _ _=>⟨u.slots,k b u (hb b n) q⟩,λb u q n _=>by rw[aV (hx b n)];exact n,λb u q _=>?_,
  λb xs q=>by rw[aV (hm b _ q λz=>z)];exact q,λb u xs q=>by rw[aV (hm b _ q λz=>z)];exact q,λb ps q=>⟨#[],by rw[aV (hm b _ q λz=>z),q];simp⟩⟩
 by_cases hbe:b=e
 .subst hbe;exact heo
 .exists u,k b u hbe q
end
def trk (h:Heap)(H:Hp):List Addr:=(List.range h.objs.size).filter λa=>(H a).isSome
def Cq (h:Heap)(H:Hp):Heap:=W.hideAll h (trk h H)
theorem Nz (h:Heap)(H:Hp):(Cq h H).objs.size=h.objs.size:=W.hideAll_size _ _
theorem Sb (e:h.get? b=some o)(n:H b=none):(Cq h H).get? b=some o:=
 W.hideAll_get _ e λhm=>by
  have q:(H b).isSome=true:=(mem_filter.mp hm).2;rw[n] at q;simp at q
theorem Xh (e:(Cq h H).get? b=some o):h.get? b=some o/\H b=none:=by
 have e':h.get? b=some o:=W.of_hideAll (trk h H) e;exists e',?_
 cases q:H b with
 |none=>rfl
 |some x=>
  have hm:b∈trk h H:=mem_filter.mpr ⟨mem_range.mpr (Heap.lt_size e'),by simp[q]⟩;have z:(Cq h H).get? b=none:=W.hideAll_none (trk h H) hm;rw[z] at e;cases e
structure Mod (K:Frag) (mg:Str->Option Value) (base:Heap):Prop where
 kin:K.In base
 glob:base.Ns mainGlobals mg
 blt:∃mb,base.Ns builtinsNs mb/\∀x:Str,x≠"__name__"->mb x=bootBuiltins x
 nolimit:base.NoLimit
structure Cx where
 prog:Program
 w:World
 K:Frag
 mg:Str->Option Value
 base:Heap
 A:Around
 N:List Str
 s₀:Shared
 H₀:Hp
 env:Env
 outer:List Env
 stack:List Env
 ex:List Addr
 fn:Str->Bool
 calm:Bool
 pn:List (Addr × Obj)
 xe:Value->Shared->Prop
abbrev zzW {α:Type}(X:Cx):=wpAny (α:=α) (model X.prog X.w) X.A
def frs (l:List Env):List Addr:=l.filterMap (·.frame)
abbrev Cx.fs (X:Cx):List Addr:=frs X.outer
def Vis (sc:Scope)(x:Str):Prop:=sc.names.lookup x=some .local\/sc.names.lookup x=some .cell\/sc.names.lookup x=some .free
def Loc (sc:Scope)(x:Str):Prop:=sc.names.lookup x=some .local\/sc.names.lookup x=some .cell
def qu1 (env:Env)(h:Heap)(m:Str->Option Value)(x:Str)(u:Value):Prop:=
 (env.kindOf x=some .local/\m x=some u)\/((env.kindOf x=some .cell\/env.kindOf x=some .free)/\∃c,env.cells.lookup x=some c/\h.IsCell c (some u))
structure Cx.Ok (X:Cx):Prop where
 mod:Mod X.K X.mg X.base
 kind:X.env.scope.kind=.function
 glob:X.env.globals=mainGlobals
 blt:X.env.builtins=builtinsNs
 above:X.s₀.heap.objs.size<=X.env.locals
 inj:∀x y c,X.env.cells.lookup x=some c->X.env.cells.lookup y=some c->x=y
 has:∀x,(X.env.kindOf x=some .cell\/X.env.kindOf x=some .free)->∃c,X.env.cells.lookup x=some c
 cab:∀x c,X.fn x=true->X.env.cells.lookup x=some c->X.s₀.heap.objs.size<=c
 hd:X.calm=true->X.A.handled=none
 frames:X.A.frames=some X.stack
 stk:X.stack=X.outer\/(X.stack=X.env :: X.outer/\X.env.frame=some X.env.locals)
 exf:∀b∈X.ex,b≠X.env.locals/\∀x c,X.env.cells.lookup x=some c->c≠b
 bs:∀b o,X.base.get? b=some o->X.s₀.heap.get? b=some o/\X.H₀ b=none
 bsz:X.base.objs.size<=X.s₀.heap.objs.size
 noex:∀b o,X.base.get? b=some o->b∉X.ex
 exfs:∀b∈X.ex,b∉X.fs
 funs:X.s₀.heap.FunFrames X.base X.outer
 frf:∀b∈X.fs,X.H₀ b=none
structure Inv (X:Cx) (pins:List (Addr × Obj)) (σ:List (Option V)) (H:Hp) (s:Shared):Prop where
 ok:X.Ok
 os:s.os=X.s₀.os
 bare:AllBare s.gens
 base:Un X.fs X.ex X.H₀ H X.s₀.heap s.heap
 loc:∃m,s.heap.Ns X.env.locals m/\∀(i:Nat) (x:Str) (v:V),X.N[i]?=some x->σ[i]?=some (some v)->Vis X.env.scope x->∃u,cN v u/\qu1 X.env s.heap m x u
 cell:∀x c,X.env.cells.lookup x=some c->∃v,s.heap.IsCell c v
 free:H X.env.locals=none
 freeC:∀x c,X.env.cells.lookup x=some c->H c=none
 pin:∀p∈X.pn++pins,s.heap.get? p.1=some p.2/\H p.1=none/\p.1≠X.env.locals/\p.1∉X.fs/\∀v,p.2.data≠.cell v
 hok:HOk X.prog X.w H s.heap
 len:σ.length=X.N.length
section
variable {X:Cx} {pins:List (Addr × Obj)} {σ:List (Option V)} {H H':Hp} {s:Shared} {h':Heap}
theorem Cx.Ok.nofr (ok:X.Ok)(e:X.base.get? b=some o):b∉X.fs:=λhb=>by
 have:=(ok.funs.mem hb).1;rw[e] at this;cases this
theorem Inv.bs (I:Inv X pins σ H s):∀b o,X.base.get? b=some o->s.heap.get? b=some o/\H b=none:=λb o e=>
 ⟨I.base.keep b o (I.ok.bs b o e).1 (I.ok.bs b o e).2 (I.ok.nofr e) (I.ok.noex b o e),I.base.free b o (I.ok.bs b o e).1 (I.ok.bs b o e).2 (I.ok.noex b o e)⟩
theorem Inv.bk (I:Inv X pins σ H s):∀b o,X.base.get? b=some o->s.heap.get? b=some o:=λb o e=>(I.bs b o e).1
theorem Inv.mod (I:Inv X pins σ H s):Mod X.K X.mg X.base:=I.ok.mod
theorem Inv.kIn (I:Inv X pins σ H s):X.K.In s.heap:=I.ok.mod.kin.keeps I.bk
theorem Inv.lt (I:Inv X pins σ H s):X.env.locals < s.heap.objs.size:=let ⟨_,hn,_⟩:=I.loc;hn.lt
theorem Inv.sz (I:Inv X pins σ H s):X.s₀.heap.objs.size<=s.heap.objs.size:=Nat.le_trans I.ok.above (Nat.le_of_lt I.lt)
theorem Inv.nofs (I:Inv X pins σ H s)(h:s.heap.objs.size<=a):a∉X.fs:=λhb=>by
 obtain⟨_,o,ho,_⟩:=I.ok.funs.mem hb;exact absurd (Nat.lt_of_lt_of_le (Heap.lt_size ho) (Nat.le_trans I.sz h)) (Nat.lt_irrefl _)
theorem Inv.cne (I:Inv X pins σ H s):∀x c,X.env.cells.lookup x=some c->c≠X.env.locals:=λx c e z=>by
 obtain⟨v,o,ho,hd⟩:=I.cell x c e;obtain⟨m,⟨o',es,ep,ho',hd',_⟩,_⟩:=I.loc;rw[z,ho'] at ho;cases ho;rw[hd'] at hd;cases hd
theorem Inv.funs (I:Inv X pins σ H s):s.heap.FunFrames X.base X.outer:=by
 have all:∀(l:List Env),(∀b∈frs l,b∈X.fs)->X.s₀.heap.FunFrames X.base l->s.heap.FunFrames X.base l:=by
  intro l
  induction l with
  |nil=>intro _ _;trivial
  |cons env r ih=>
   intro hs hl;obtain⟨hk,⟨L,o,hf,hn,ho,hd⟩,hr⟩:=hl;have hL:L∈X.fs:=hs L (by unfold frs;rw[filterMap_cons,hf];exact mem_cons_self);obtain⟨sl,e⟩:=I.base.slot L o ho (I.ok.frf L hL) hL λz=>I.ok.exfs L z hL;exists hk,⟨L,_,hf,hn,e,hd⟩,ih (λb hb=>hs b (by unfold frs;rw[filterMap_cons,hf];exact mem_cons_of_mem _ hb)) hr
 exact all X.outer (λ_ hb=>hb) I.ok.funs
theorem Inv.stack (I:Inv X pins σ H s):s.heap.FunFrames X.base X.stack:=by
 rcases I.ok.stk with e | ⟨e,hf⟩
 .rw[e];exact I.funs
 .rw[e];obtain⟨m,hn,_⟩:=I.loc;refine .cons (by rw[I.ok.kind];decide) hf hn ?_ I.funs;exact Heap.get?_none_of_le (Nat.le_trans I.ok.bsz I.ok.above)
theorem Inv.stkSub (I:Inv X pins σ H s):∀b∈frs X.stack,b∈X.env.locals :: X.fs:=λb hb=>by
 rcases I.ok.stk with e | ⟨e,hf⟩
 .rw[e] at hb;exact mem_cons_of_mem _ hb
 .rw[e] at hb;unfold frs at hb;rw[filterMap_cons,hf] at hb;exact hb
theorem Inv.stkFree (I:Inv X pins σ H s):∀b∈frs X.stack,H b=none:=λb hb=>by
 rcases mem_cons.mp (I.stkSub b hb) with e | hb
 .rw[e];exact I.free
 .obtain⟨_,o,ho,_⟩:=I.ok.funs.mem hb;exact I.base.free b o ho (I.ok.frf b hb) λz=>I.ok.exfs b z hb
theorem Inv.step {ch:List Addr}(I:Inv X pins σ H s)(hch:∀b∈ch,(b∈X.ex\/X.s₀.heap.objs.size<=b)/\b≠X.env.locals/\(∀x c,X.env.cells.lookup x=some c->c≠b)/\∀p∈X.pn++pins,p.1≠b)(keep:∀b o,b≠X.env.locals->b∉X.fs->b∉ch->s.heap.get? b=some o->H b=none->h'.get? b=some o)(slot:∀b o,b≠X.env.locals->b∈X.fs->b∉ch->s.heap.get? b=some o->H b=none->∃sl,h'.get? b=some { o with slots:=sl })(free:∀b o,b∉ch->s.heap.get? b=some o->H b=none->H' b=none)(there:∀b o,b∉ch->s.heap.get? b=some o->∃o',h'.get? b=some o')(tups:∀b xs,H b=some (.tup xs)->H' b=some (.tup xs))(frzs:∀b o u,H b=some (.frz o u)->H' b=some (.frz o u))(tbls:∀b ps,H b=some (.tbl ps)->∃more,H' b=some (.tbl (ps++more)))(ns:∀m,s.heap.Ns X.env.locals m->h'.Ns X.env.locals m)(hok:HOk X.prog X.w H' h')(hg:AllBare g'):
  Inv X pins σ H' { s with heap:=h',gens:=g',drawn:=d',toks:=t' }:=by
 have neL:∀b o,X.s₀.heap.get? b=some o->b≠X.env.locals:=λb o e=>Nat.ne_of_lt (Nat.lt_of_lt_of_le (Heap.lt_size e) I.ok.above);have neC:∀b o,X.s₀.heap.get? b=some o->b∉X.ex->b∉ch:=λb o e hx hb=>by
  rcases (hch b hb).1 with z | z
  .exact hx z
  .exact absurd (Nat.lt_of_lt_of_le (Heap.lt_size e) z) (Nat.lt_irrefl _)
 have cellK:∀x c,X.env.cells.lookup x=some c->∀v,s.heap.IsCell c v->h'.IsCell c v:=λx c e v ⟨o,ho,hd⟩=>by
  have nch:c∉ch:=λz=>(hch c z).2.2.1 x c e rfl
  by_cases hc:c∈X.fs
  .obtain⟨sl,q⟩:=slot c o (I.cne x c e) hc nch ho (I.freeC x c e);exists _,q,hd
  .exists o,keep c o (I.cne x c e) hc nch ho (I.freeC x c e),hd
 exists I.ok,I.os,hg,⟨λb o e n hb hx=>?_,λb o e n hb hx=>?_,λb o e n hx=>?_,λb o e hx=>?_,λb xs e=>tups b xs (I.base.tups b xs e),λb o xs e=>frzs b o xs (I.base.frzs b o xs e),λb ps e=>?_⟩,?_,λx c e=>?_,?_,λx c e=>?_,λp hp=>?_,hok,I.len
 .exact keep b o (neL b o e) hb (neC b o e hx) (I.base.keep b o e n hb hx) (I.base.free b o e n hx)
 .obtain⟨sl,e1⟩:=I.base.slot b o e n hb hx;obtain⟨sl',e2⟩:=slot b _ (neL b o e) hb (neC b o e hx) e1 (I.base.free b o e n hx);exists sl',e2
 .obtain⟨o',e1⟩:=I.base.there b o e hx;exact free b o' (neC b o e hx) e1 (I.base.free b o e n hx)
 .obtain⟨o',e1⟩:=I.base.there b o e hx;exact there b o' (neC b o e hx) e1
 .obtain⟨m1,e1⟩:=I.base.tbls b ps e;obtain⟨m2,e2⟩:=tbls b _ e1;exists m1++m2,by rw[e2,Array.append_assoc]
 .obtain⟨m,hn,hl⟩:=I.loc;exists m,ns m hn,λi x v e1 e2 e3=>?_;obtain⟨u,r,l⟩:=hl i x v e1 e2 e3;exists u,r,?_;rcases l with l | ⟨k,c,e,z⟩
  .exact .inl l
  .exact .inr ⟨k,c,e,cellK x c e _ z⟩
 .obtain⟨v,z⟩:=I.cell x c e;exists v,cellK x c e v z
 .obtain⟨m,⟨o,_,_,ho,_⟩,_⟩:=I.loc;exact free _ o (λz=>(hch _ z).2.1 rfl) ho I.free
 .obtain⟨v,o,ho,hd⟩:=I.cell x c e;exact free c o (λz=>(hch c z).2.2.1 x c e rfl) ho (I.freeC x c e)
 .obtain⟨e,n,ne,nf,d⟩:=I.pin p hp;have nch:p.1∉ch:=λz=>(hch p.1 z).2.2.2 p hp rfl;exists keep p.1 p.2 ne nf nch e n,free p.1 p.2 nch e n,ne,nf,d
theorem Inv.un (I:Inv X pins σ H s)(u:Un X.fs [] H H' s.heap h')(hok:HOk X.prog X.w H' h'):Inv X pins σ H' { s with heap:=h',toks:=t' }:=by
 obtain⟨m,⟨o,es,ep,ho,r⟩,_⟩:=id I.loc;obtain⟨sl,hL⟩:=u.any ho I.free ⋯;exact I.step (g':=s.gens) (d':=s.drawn) (ch:=[]) (λ_ z=>nomatch z) (λb o _ hb _ e n=>u.keep b o e n hb ⋯) (λb o _ hb _ e n=>u.slot b o e n hb ⋯) (λb o _ e n=>u.free b o e n ⋯) (λb o _ e=>u.there b o e ⋯) u.tups u.frzs u.tbls (λm' hm=>by
  obtain⟨o',es',ep',ho',r'⟩:=hm;rw[ho] at ho';cases ho';exact⟨_,es',ep',hL,r'⟩) hok I.bare
theorem Inv.call (I:Inv X pins σ H s)(u:Un (frs X.stack) ch H H' s.heap h')(hok:HOk X.prog X.w H' h')(hg:AllBare g')(hch:∀b∈ch,(b∈X.ex\/X.s₀.heap.objs.size<=b)/\b≠X.env.locals/\(∀x c,X.env.cells.lookup x=some c->c≠b)/\∀p∈X.pn++pins,p.1≠b):
  Inv X pins σ H' { s with heap:=h',gens:=g',drawn:=d',toks:=t' }:=by
 obtain⟨m,⟨o,es,ep,ho,r⟩,_⟩:=id I.loc;obtain⟨sl,hL⟩:=u.any ho I.free λz=>(hch _ z).2.1 rfl;exact I.step (ch:=ch) hch (λb o hL hb hc e n=>u.keep b o e n (λz=>(mem_cons.mp (I.stkSub b z)).elim hL hb) hc) (λb o _ _ hc e n=>u.any e n hc) (λb o hc e n=>u.free b o e n hc) (λb o hc e=>u.there b o e hc) u.tups u.frzs u.tbls (λm' hm=>by
  obtain⟨o',es',ep',ho',r'⟩:=hm;rw[ho] at ho';cases ho';exact⟨_,es',ep',hL,r'⟩) hok hg
theorem Inv.turned (I:Inv X pins σ H s)(k:∀b o,b≠it->s.heap.get? b=some o->h'.get? b=some o)(hn:H it=none)(hL:it≠X.env.locals)(h1:it∈X.ex\/X.s₀.heap.objs.size<=it)(h2:∀x c,X.env.cells.lookup x=some c->c≠it)(h3:∀p∈X.pn++pins,p.1≠it):Inv X pins σ H { s with heap:=h',toks:=t' }:=by
 have nit:∀b u,H b=some u->b≠it:=λb u e z=>by rw[z,hn] at e;cases e
 refine I.step (g':=s.gens) (d':=s.drawn) (ch:=[it]) (λb hb=>?_) (λb o _ _ hc e _=>k b o (λz=>hc (by simp[z])) e) (λb o _ _ hc e _=>⟨o.slots,k b o (λz=>hc (by simp[z])) e⟩) (λ_ _ _ _ n=>n)
  (λb o hc e=>⟨o,k b o (λz=>hc (by simp[z])) e⟩) (λ_ _ e=>e) (λ_ _ _ e=>e) (λb ps e=>⟨#[],by rw[e];simp⟩) (λm hm=>?_) (λb u e=>?_) I.bare
 .have e:b=it:=by simpa using hb
  subst e;exists h1,hL,h2,h3
 .obtain⟨o,es,ep,ho,r⟩:=hm;exists o,es,ep,k _ o (Ne.symm hL) ho,r
 .refine(I.hok b u e).stay (λc v hc q=>k c v ?_ q) (λ_ q=>q) λ_ _ q=>q;rcases hc with z | z
  .rw[z];exact nit b u e
  .exact nit c _ z
theorem Inv.tok (I:Inv X pins σ H s)(t:Nat):Inv X pins σ H { s with toks:=t }:=I.un (h':=s.heap) (t':=t) Un.refl I.hok
theorem Inv.kept (I:Inv X pins σ H s)(k:∀b u,s.heap.get? b=some u->h'.get? b=some u):Inv X pins σ H { s with heap:=h',toks:=t' }:=I.un (Un.kept k) (I.hok.kept k)
theorem Inv.laid (I:Inv X pins σ H s)(k:∀b u,s.heap.get? b=some u->h'.get? b=some u)(hp:s.heap.objs.size<=a)(new:dP X.prog X.w (upd H a o) h' a o):
  Inv X pins σ (upd H a o) { s with heap:=h',toks:=t' }:=I.un (Un.laid k hp (I.hok.fresh hp)) (I.hok.laid k hp new)
theorem Inv.write (I:Inv X pins σ H s)(mu:Mut (H x))(he:e=x\/H e=some (.own x))(k:∀b u,b≠e->s.heap.get? b=some u->h'.get? b=some u)(heo:∃u,h'.get? e=some u)(new:dP X.prog X.w (upd H x o) h' x o):Inv X pins σ (upd H x o) { s with heap:=h',toks:=t' }:=I.un (Un.write mu he k heo) (I.hok.write mu he k heo new)
theorem Inv.weak (I:Inv X pins σ H s)(hl:σ'.length=σ.length)(w:∀(i:Nat) v,σ'[i]?=some (some v)->σ[i]?=some (some v)):Inv X pins σ' H s:=
 ⟨I.ok,I.os,I.bare,I.base,let ⟨m,hn,hl'⟩:=I.loc;⟨m,hn,λi x v e1 e2 e3=>hl' i x v e1 (w i v e2) e3⟩,I.cell,I.free,I.freeC,I.pin,I.hok,hl.trans I.len⟩
theorem Inv.pins_of (I:Inv X pins σ H s)(h:∀p∈pins',s.heap.get? p.1=some p.2/\H p.1=none/\p.1≠X.env.locals/\p.1∉X.fs/\∀v,p.2.data≠.cell v):Inv X pins' σ H s:=
 ⟨I.ok,I.os,I.bare,I.base,I.loc,I.cell,I.free,I.freeC,λp hp=>(mem_append.mp hp).elim (λz=>I.pin p (mem_append_left _ z)) (h p),I.hok,I.len⟩
theorem wM {N:List Str}(hN:N.Nodup){i j:Nat}(a:N[i]?=some x)(b:N[j]?=some x):i=j:=by
 obtain⟨h1,e1⟩:=wq.mp a;obtain⟨h2,e2⟩:=wq.mp b;exact(getElem_inj hN).mp (e1.trans e2.symm)
theorem zO (I:Inv X pins σ H s)(hN:X.N.Nodup)(hi:X.N[i]?=some x)(hx:Loc X.env.scope x)(r:cN v u)(h:∀s',Inv X pins (σ.set i (some v)) H s'->(∃a,Heap.SameBut a s.heap s'.heap/\(a=X.env.locals\/X.env.cells.lookup x=some a))->Q .unit s')(hf:X.fn x=true\/X.env.scope.names.lookup x=some .local:=by first | exact .inl rfl | exact .inr rfl | assumption):wpAny M A (storeName X.env x u) Q E s:=by
 obtain⟨m,hn,hl⟩:=id I.loc;have hcls:(X.env.scope.kind == .class || (X.env.scope.kind == .module && X.env.locals != X.env.globals))=false:=by rw[I.ok.kind];rfl
 have hiσ:i < σ.length:=by rw[I.len];exact(wq.mp hi).1
 have cne:=I.cne;have tracked:∀{a:Addr} {h':Heap},(∃o,s.heap.get? a=some o/\H a=none)->Heap.SameBut a s.heap h'->HOk X.prog X.w H h':=λ{a h'} ha hs b ob e=>by
  obtain⟨_,_,hfree⟩:=ha;refine(I.hok b ob e).stay (λc w' hc q=>(hs.2 c ?_).trans q) (λ_ q=>q) λ_ _ q=>q;rintro rfl;rcases hc with rfl | hc
  .rw[hfree] at e;cases e
  .rw[hfree] at hc;cases hc
 rcases hx with hk | hk
 .refine wpAny_storeName_local hk hn (λh' hn' hs=>?_) hcls;obtain⟨oL,_,_,hoL,_⟩:=id hn;refine h _ ⟨I.ok,I.os,I.bare,⟨λb o e n hb hx=>?_,λb o e n hb hx=>?_,I.base.free,λb o e hx=>?_,I.base.tups,I.base.frzs,I.base.tbls⟩,⟨_,hn',λj y v' e1 e2 e3=>?_⟩,λy c e=>?_,I.free,I.freeC,λp hp=>?_,tracked ⟨oL,hoL,I.free⟩ hs,by simpa using I.len⟩ ⟨_,hs,.inl rfl⟩
  .exact(hs.2 b (Nat.ne_of_lt (Nat.lt_of_lt_of_le (Heap.lt_size e) I.ok.above))).trans (I.base.keep b o e n hb hx)
  .obtain⟨sl,e1⟩:=I.base.slot b o e n hb hx;exists sl,(hs.2 b (Nat.ne_of_lt (Nat.lt_of_lt_of_le (Heap.lt_size e) I.ok.above))).trans e1
  .obtain⟨o',e1⟩:=I.base.there b o e hx;exists o',(hs.2 b (Nat.ne_of_lt (Nat.lt_of_lt_of_le (Heap.lt_size e) I.ok.above))).trans e1
  .by_cases hj:j=i
   .subst hj;rw[hi] at e1;cases e1;rw[getElem?_set_self hiσ] at e2
    cases e2
    exists u,r,.inl ⟨hk,⋯⟩
   .rw[getElem?_set_ne (Ne.symm hj)] at e2;obtain⟨u',r',q⟩:=hl j y v' e1 e2 e3;exists u',r',?_;rcases q with ⟨k,e⟩ | ⟨k,c,e,z⟩
    .refine .inl ⟨k,?_⟩;have:y≠x:=λe=>hj (wM hN e1 (e ▸ hi));simp[this,e]
    .exact .inr ⟨k,c,e,z.sameBut hs (cne y c e)⟩
  .obtain⟨w',z⟩:=I.cell y c e;exists w',z.sameBut hs (cne y c e)
  .obtain⟨e,n,ne,nf,d⟩:=I.pin p hp;exists (hs.2 p.1 ne).trans e,n,ne,nf,d
 .have hfn:X.fn x=true:=by
   rcases hf with z | z
   .exact z
   .rw[z] at hk;cases hk
  obtain⟨c,hc⟩:=I.ok.has x (.inl hk);obtain⟨w',z⟩:=I.cell x c hc;refine wpAny_storeName_cell I.ok.kind hk hc z (λh' hc' hs=>?_);obtain⟨oc,hoc,hocd⟩:=id z;refine h { s with heap:=h' } ⟨I.ok,I.os,I.bare,⟨λb o e n hb hx=>?_,λb o e n hb hx=>?_,I.base.free,λb o e hx=>?_,I.base.tups,I.base.frzs,I.base.tbls⟩,⟨m,hn.sameBut hs (Ne.symm (cne x c hc)),λj y v' e1 e2 e3=>?_⟩,λy c' e=>?_,I.free,I.freeC,λp hp=>?_,tracked ⟨oc,hoc,I.freeC x c hc⟩ hs,by simpa using I.len⟩ ⟨c,hs,.inr hc⟩
  .exact(hs.2 b (Nat.ne_of_lt (Nat.lt_of_lt_of_le (Heap.lt_size e) (I.ok.cab x c hfn hc)))).trans (I.base.keep b o e n hb hx)
  .obtain⟨sl,e1⟩:=I.base.slot b o e n hb hx;exists sl,(hs.2 b (Nat.ne_of_lt (Nat.lt_of_lt_of_le (Heap.lt_size e) (I.ok.cab x c hfn hc)))).trans e1
  .obtain⟨o',e1⟩:=I.base.there b o e hx;exists o',(hs.2 b (Nat.ne_of_lt (Nat.lt_of_lt_of_le (Heap.lt_size e) (I.ok.cab x c hfn hc)))).trans e1
  .by_cases hj:j=i
   .subst hj;rw[hi] at e1;cases e1;rw[getElem?_set_self hiσ] at e2
    cases e2
    exists u,r,.inr ⟨.inl hk,c,hc,hc'⟩
   .rw[getElem?_set_ne (Ne.symm hj)] at e2;obtain⟨u',r',q⟩:=hl j y v' e1 e2 e3;exists u',r',?_;rcases q with q | ⟨k,c',e,z'⟩
    .exact .inl q
    .refine .inr ⟨k,c',e,z'.sameBut hs ?_⟩;rintro rfl;exact hj (wM hN e1 (I.ok.inj _ _ _ e hc ▸ hi))
  .by_cases hcc:c'=c
   .subst hcc;exists _,hc'
   .obtain⟨w2,z2⟩:=I.cell y c' e;exists w2,z2.sameBut hs hcc
  .obtain⟨e,n,ne,nf,d⟩:=I.pin p hp;exists (hs.2 p.1 ?_).trans e,n,ne,nf,d;intro q;rw[q,hoc] at e;have q':oc=p.2:=Option.some.inj e;exact d w' (by rw[<- q'];exact hocd)
theorem jY (I:Inv X pins σ H s)(hN:X.N.Nodup)(hi:X.N[i]?=some x)(hx:Loc X.env.scope x)(r:cN v u)(h:∀s',Inv X pins (σ.set i (some v)) H s'->Q .unit s')(hf:X.fn x=true\/X.env.scope.names.lookup x=some .local:=by first | exact .inl rfl | exact .inr rfl | assumption):wpAny M A (storeName X.env x u) Q E s:=
 zO I hN hi hx r (λs' I' _=>h s' I') hf
theorem Inv.call' (I:Inv X pins σ H s)(ho:s'.os=s.os)(u:Un (frs X.stack) ch H H' s.heap s'.heap)(hok:HOk X.prog X.w H' s'.heap)(hg:AllBare s'.gens)(hch:∀b∈ch,(b∈X.ex\/X.s₀.heap.objs.size<=b)/\b≠X.env.locals/\(∀x c,X.env.cells.lookup x=some c->c≠b)/\∀p∈X.pn++pins,p.1≠b):Inv X pins σ H' s':=by
 obtain⟨h',g',d',t',o'⟩:=s';have e:o'=s.os:=ho;subst e;exact I.call (g':=g') (t':=t') (d':=d') u hok hg hch
end
abbrev XK:=Value->Option Addr->Hp->Prop
abbrev St:=List (Option V)
abbrev VK:=V->Hp->Prop
abbrev TE:=St->Hp->VK->Prop
abbrev TT:=St->Hp->(Bool->Hp->Prop)->Prop
abbrev TA:=St->Hp->(wk->Hp->Prop)->Prop
structure kE where
 nx:St->Hp->Prop
 rt:VK
 bk:St->Hp->Prop:=λ_ _=>False
 ct:St->Hp->Prop:=λ_ _=>False
abbrev TS:=kE->St->Hp->Prop
def EP (X:Cx)(pins:List (Addr × Obj))(σ:St)(Q:VK)(u:Value)(s':Shared):Prop:=∃v H',Inv X pins σ H' s'/\cN v u/\Q v H'
def TP (X:Cx)(pins:List (Addr × Obj))(σ:St)(Q:Bool->Hp->Prop)(b:Bool)(s':Shared):Prop:=∃H',Inv X pins σ H' s'/\Q b H'
def AP (X:Cx)(pins:List (Addr × Obj))(σ:St)(Q:wk->Hp->Prop)(us:List Value)(s':Shared):Prop:=∃vs H',Inv X pins σ H' s'/\cJ vs us/\Q vs H'
def SP (X:Cx)(pins:List (Addr × Obj))(D:kE)(f:Flow)(s':Shared):Prop:=
 match f with
 | .next=>∃σ' H',Inv X pins σ' H' s'/\D.nx σ' H'
 | .brk=>∃σ' H',Inv X pins σ' H' s'/\D.bk σ' H'
 | .cont=>∃σ' H',Inv X pins σ' H' s'/\D.ct σ' H'
 | .ret u=>∃v σ' H',Inv X pins σ' H' s'/\cN v u/\D.rt v H'
def PE (X:Cx)(e:Expr)(t:TE):Prop:=
 ∀(pins:List (Addr × Obj)) (s:Shared) (σ:St) (H:Hp) (Q:VK),Inv X pins σ H s->t σ H Q->zzW X (eval e X.env) (EP X pins σ Q) X.xe s
def PT (X:Cx)(e:Expr)(t:TT):Prop:=
 ∀(pins:List (Addr × Obj)) (s:Shared) (σ:St) (H:Hp) (Q:Bool->Hp->Prop),Inv X pins σ H s->t σ H Q->zzW X (isTrue e X.env (eval e X.env)) (TP X pins σ Q) X.xe s
def PW (X:Cx)(e:Expr)(t:TT):Prop:=
 ∀(whole:Sem Value) (pins:List (Addr × Obj)) (s:Shared) (σ:St) (H:Hp) (Q:Bool->Hp->Prop),Inv X pins σ H s->t σ H Q->zzW X (isTrue e X.env whole) (TP X pins σ Q) X.xe s
theorem PW.pt (h:PW X e t):PT X e t:=h _
def PA (X:Cx)(es:List Expr)(t:TA):Prop:=
 ∀(pos:Pos) (pins:List (Addr × Obj)) (s:Shared) (σ:St) (H:Hp) (Q:wk->Hp->Prop),Inv X pins σ H s->t σ H Q->zzW X (spliced (backTo pos (starEach es X.env))) (AP X pins σ Q) X.xe s
def PS (X:Cx)(st:Stmt)(t:TS):Prop:=
 ∀(pins:List (Addr × Obj)) (s:Shared) (σ:St) (H:Hp) (D:kE),Inv X pins σ H s->t D σ H->zzW X (exec st X.env) (SP X pins D) X.xe s
def PSs (X:Cx)(st:List Stmt)(t:TS):Prop:=
 ∀(pins:List (Addr × Obj)) (s:Shared) (σ:St) (H:Hp) (D:kE),Inv X pins σ H s->t D σ H->zzW X (execs st X.env) (SP X pins D) X.xe s
theorem thn (h:wpAny M A t Q E s)(hQ:∀a s,Q a s->Q' a s):wpAny M A t Q' E s:=wpAny_mono h hQ λ_ _ x=>x
section
variable {X:Cx}
inductive Nx (i:Nat) (σ:St) (H:Hp) (Q:VK):Prop where
 |mk (v):σ[i]?=some (some v)->Q v H->Nx i σ H Q
def tC (v:V):TE:=λ_ H Q=>Q v H
theorem Qr (hN:X.N[i]?=some x)(hv:Vis X.env.scope x)(hd:(x == ("__debug__":Str))=false:=by decide)(hcd:(x == ("__classdict__":Str))=false:=by decide):PE X (.Name x pos) (Nx i):=by
 intro pins s σ H Q I h;obtain⟨v,e,h⟩:=h;obtain⟨m,hn,hl⟩:=I.loc;obtain⟨u,r,l⟩:=hl i x v hN e hv;have fin:EP X pins σ Q u s:=⟨v,H,I,r,h⟩
 rcases l with ⟨hk,hm⟩ | ⟨hk,c,hc,hcell⟩
 .exact wpAny_Name (wpAny_loadName_local I.ok.kind hk hn hm fin) hd
 .rcases hk with hk | hk
  .exact wpAny_Name (wpAny_loadName_cell I.ok.kind hk hc hcell fin) hd
  .exact wpAny_Name (wpAny_loadName_free I.ok.kind hk hc hcell fin hcd) hd
theorem aE {i j pos}:PE X (.Constant (.int i) j pos) (tC (.int i)):=λ_ _ _ H _ I h=>wpAny_Constant_int ⟨.int i,H,I.tok _,⟨_,rfl⟩,h⟩
theorem fD {b j pos}:PE X (.Constant (.bool b) j pos) (tC (.bl b)):=λ_ _ _ H _ I h=>Constant_bool ⟨.bl b,H,I,rfl,h⟩
theorem xS {j pos}:PE X (.Constant .none j pos) (tC .non):=λ_ _ _ H _ I h=>Constant_none ⟨.non,H,I,rfl,h⟩
theorem cL {x j pos}:PE X (.Constant (.str x) j pos) (tC (.str x)):=λ_ _ _ H _ I h=>Calls.Constant_str ⟨.str x,H,I.tok _,⟨_,rfl⟩,h⟩
def Gl (X:Cx)(x:Str):Prop:=X.env.kindOf x=some .globalImplicit
theorem kP (I:Inv X pins σ H s)(hg:Gl X x)(hm:X.mg x=some u)(h:Q u s)(hd:(x == ("__debug__":Str))=false:=by decide):zzW X (eval (.Name x pos) X.env) Q E s:=
 Calls.Name_function_global I.ok.kind hg (Calls.loadGlobal_global (by rw[I.ok.glob];exact I.mod.glob.keeps I.bk) hm h) hd
theorem kZ (I:Inv X pins σ H s)(hg:Gl X x)(hm:X.mg x=none)(hv:bootBuiltins x=some u)(h:Q u s)(hn:x≠"__name__":=by decide)(hd:(x == ("__debug__":Str))=false:=by decide):zzW X (eval (.Name x pos) X.env) Q E s:=by
 obtain⟨mb,h1,h2⟩:=I.mod.blt;exact Calls.Name_function_global I.ok.kind hg (Calls.loadGlobal_builtin (by rw[I.ok.glob];exact I.mod.glob.keeps I.bk) hm (by rw[I.ok.blt];exact h1.keeps I.bk) ((h2 x hn).trans hv) h) hd
theorem fL (hg:Gl X x)(hm:X.mg x=some u)(r:cN v u)(hd:(x == ("__debug__":Str))=false:=by decide):PE X (.Name x pos) (tC v):=
 λ_ _ _ H _ I h=>kP I hg hm ⟨v,H,I,r,h⟩ hd
theorem We (hg:Gl X x)(hm:X.mg x=none)(hv:bootBuiltins x=some u)(r:cN v u)(hn:x≠"__name__":=by decide)(hd:(x == ("__debug__":Str))=false:=by decide):PE X (.Name x pos) (tC v):=
 λ_ _ _ H _ I h=>kZ I hg hm hv ⟨v,H,I,r,h⟩ hn hd
variable {a b:Expr} {ta tb:TE} {pos:Pos}
def PC (X:Cx)(op:CmpOp)(a b:Expr)(t:TE):Prop:=
 ∀(pins:List (Addr × Obj)) (s:Shared) (σ:St) (H:Hp) (Q:VK),Inv X pins σ H s->t σ H Q->
  zzW X (eval a X.env) (λv s₁=>zzW X (eval b X.env) (λu s₂=>zzW X (compareOp op v u) (EP X pins σ Q) X.xe s₂) X.xe s₁) X.xe s
theorem Er (b:Expr)(h:op≠.In)(h2:op≠.NotIn):behindInMarks op b=false:=by
 have e1:(op == CmpOp.In)=false:=by cases op<;>first | rfl | exact absurd rfl h
 have e2:(op == CmpOp.NotIn)=false:=by cases op<;>first | rfl | exact absurd rfl h2
 cases b<;>simp[behindInMarks,e1,e2]
def qv2 (ta:TE):TE:=λσ H Q=>ta σ H λx H1=>Q (.bl (decide (x=.non))) H1
def qp9 (ta:TE):TE:=λσ H Q=>ta σ H λx H1=>Q (.bl (!decide (x=.non))) H1
theorem cN.none_iff (r:cN x v):(v == Value.none)=decide (x=.non):=by
 cases x with
 |non=>cases r;rfl
 |bl _=>cases r;rfl
 |int _=>obtain⟨t,rfl⟩:=r;rfl
 |str _=>obtain⟨t,rfl⟩:=r;rfl
 |byt _=>obtain⟨t,rfl⟩:=r;rfl
 |flt _=>obtain⟨t,rfl⟩:=r;rfl
 |ref _=>cases r;rfl
 |ty _=>cases r;rfl
theorem wR {j pos'}(ha:PE X a ta):PC X .Is a (.Constant .none j pos') (qv2 ta):=by
 intro pins s σ H Q I h;refine thn (ha pins s σ H _ I h) λv s1 ⟨x,H1,I1,r1,q1⟩=>?_;exact Constant_none (is_none_gen ⟨.bl _,H1,I1,by rw[r1.none_iff];rfl,q1⟩)
theorem Wu {j pos'}(ha:PE X a ta):PC X .IsNot a (.Constant .none j pos') (qp9 ta):=by
 intro pins s σ H Q I h;refine thn (ha pins s σ H _ I h) λv s1 ⟨x,H1,I1,r1,q1⟩=>?_;exact Constant_none (isnot_none_gen ⟨.bl _,H1,I1,by rw[r1.none_iff];rfl,q1⟩)
inductive BlT (x:V) (q:Bool->Prop):Prop where
 |mk (c:Bool) (_:x=.bl c) (_:q c):BlT x q
def tB (t:TE):TT:=λσ H Q=>t σ H λx H1=>BlT x λc=>Q c H1
theorem qd3 (h:PC X op a b t)(h1:behindInMarks op b=false:=by first | exact Er _ ∅ ∅ | rfl):PE X (.Compare a [op] [b] pos) t:=λpins s σ H Q I hw=>wpAny_Compare1 (h pins s σ H Q I hw) h1
theorem oN (h:PC X op a b t)(h1:behindInMarks op b=false:=by first | exact Er _ ∅ ∅ | rfl):PT X (.Compare a [op] [b] pos) (tB t):=by
 intro pins s σ H Q I hw;refine wpAny_isTrue_Compare1 (thn (h pins s σ H _ I hw) λv s1 h1=>thn h1 λu s2 h2=>thn h2 λc s3 ⟨x,H1,I1,r1,q1⟩=>?_) h1;obtain⟨d,rfl,q⟩:=q1
 cases r1
 exact wpAny_truthy_bool ⟨H1,I1,q⟩
theorem cT (h:PE X e t)(he:∀whole,isTrue e X.env whole=(do let v <- whole;standAt e.pos;holding [v] (truthy v)):=by intro _;rfl):PT X e (tB t):=by
 intro pins s σ H Q I hw;refine isTrue_plain (thn (h pins s σ H _ I hw) λv s1 ⟨x,H1,I1,r1,q1⟩=>?_) (he _);obtain⟨d,rfl,q⟩:=q1
 cases r1
 exact wpAny_truthy_bool ⟨H1,I1,q⟩
variable {tA tB':TT} {rest:List Expr}
def qt9 (t u:TT):TT:=λσ H Q=>t σ H λc H1=>if c=true then u σ H1 Q else Q false H1
def tOr (t u:TT):TT:=λσ H Q=>t σ H λc H1=>if c=true then Q true H1 else u σ H1 Q
def qv6 (t:TT):TT:=λσ H Q=>t σ H λc H1=>Q (!c) H1
theorem jI (ha:PT X a tA):PW X (.BoolOp .And [a] pos) tA:=by
 intro wh pins s σ H Q I h;refine isTrue_and (thn (ha pins s σ H Q I h) λc s1 e=>?_)
 cases c with
 |true=>exact isTrue_and_nil e
 |false=>exact e
theorem gS (ha:PT X a tA):PW X (.BoolOp .Or [a] pos) tA:=by
 intro wh pins s σ H Q I h;refine isTrue_or (thn (ha pins s σ H Q I h) λc s1 e=>?_)
 cases c with
 |false=>exact isTrue_or_nil e
 |true=>exact e
theorem kY (ha:PT X a tA)(hb:PW X (.BoolOp .And (b :: rest) pos) tB'):PW X (.BoolOp .And (a :: b :: rest) pos) (qt9 tA tB'):=by
 intro wh pins s σ H Q I h;refine isTrue_and (thn (ha pins s σ H _ I h) λc s1 ⟨H1,I1,q1⟩=>?_)
 cases c with
 |true=>exact hb wh pins s1 σ H1 Q I1 q1
 |false=>exact⟨H1,I1,q1⟩
theorem gP (ha:PT X a tA)(hb:PW X (.BoolOp .Or (b :: rest) pos) tB'):PW X (.BoolOp .Or (a :: b :: rest) pos) (tOr tA tB'):=by
 intro wh pins s σ H Q I h;refine isTrue_or (thn (ha pins s σ H _ I h) λc s1 ⟨H1,I1,q1⟩=>?_)
 cases c with
 |true=>exact⟨H1,I1,q1⟩
 |false=>exact hb wh pins s1 σ H1 Q I1 q1
theorem dU (ha:PT X a tA):PT X (.UnaryOp .Not a pos) (qv6 tA):=by
 intro pins s σ H Q I h;exact isTrue_not (ha pins s σ H (λc H1=>Q (!c) H1) I h)
def qr5 (ta tb:TE):TE:=λσ H Q=>ta σ H λx H1=>BlT x λc=>if c=true then tb σ H1 Q else Q (.bl false) H1
def qr3 (ta:TE):TE:=λσ H Q=>ta σ H λx H1=>BlT x λc=>Q (.bl (!c)) H1
theorem oX {op}(h:PE X a t):PE X (.BoolOp op [a] pos) t:=λpins s σ H Q I hw=>BoolOp_one (h pins s σ H Q I hw)
theorem kT (ha:PE X a ta)(hb:PE X (.BoolOp .And (b :: rest) pos) tb):PE X (.BoolOp .And (a :: b :: rest) pos) (qr5 ta tb):=by
 intro pins s σ H Q I h;refine BoolOp_and (thn (ha pins s σ H _ I h) λv s1 ⟨x,H1,I1,r1,q1⟩=>?_);obtain⟨c,rfl,q1⟩:=q1
 cases r1
 refine wpAny_truthy_bool ?_
 cases c with
 |true=>exact hb pins s1 σ H1 Q I1 q1
 |false=>exact⟨.bl false,H1,I1,rfl,q1⟩
theorem qj2 (ha:PE X a ta):PE X (.UnaryOp .Not a pos) (qr3 ta):=by
 intro pins s σ H Q I h;refine UnaryOp_ (thn (ha pins s σ H _ I h) λv s1 ⟨x,H1,I1,r1,q1⟩=>?_);obtain⟨c,rfl,q1⟩:=q1
 cases r1
 exact not_of (wpAny_truthy_bool ⟨.bl (!c),H1,I1,rfl,q1⟩)
def tIf (t:TT)(ta tb:TE):TE:=λσ H Q=>t σ H λc H1=>if c=true then ta σ H1 Q else tb σ H1 Q
theorem lH (hc:PT X c tA)(ha:PE X a ta)(hb:PE X b tb):PE X (.IfExp c a b pos) (tIf tA ta tb):=by
 intro pins s σ H Q I h;refine wpAny_IfExp (thn (hc pins s σ H _ I h) λd s1 ⟨H1,I1,q1⟩=>?_)
 cases d with
 |true=>exact ha pins s1 σ H1 Q I1 q1
 |false=>exact hb pins s1 σ H1 Q I1 q1
end
def SqL (K:Frag)(H:Hp)(a:Addr)(xs:wk):Prop:=
 Rd H a (.lst xs)\/
  ∃(o:Obj) (its:Array Value) (n:Nat),K.lookup a=some o/\o.cls=.type "list"/\o.dict=none/\o.data=.seq its n/\its.size<=sizeLine/\cJ xs its.toList
def SqT (K:Frag)(H:Hp)(a:Addr)(xs:wk):Prop:=
 Rd H a (.tup xs)\/
  ∃(o:Obj) (its:Array Value) (n:Nat),K.lookup a=some o/\o.cls=.type "tuple"/\o.data=.seq its n/\its.size<=sizeLine/\cJ xs its.toList
def qu4:Value->Option V
 | .none=>some .non
 | .bool b=>some (.bl b)
 | .int i _=>some (.int i)
 | .str x _=>some (.str x)
 | .bytes b _=>some (.byt b)
 | .float b _=>some (.flt b)
 | .ref a=>some (.ref a)
 | .type n=>some (.ty n)
 |_=>none
theorem cN.abs (r:cN x u):qu4 u=some x:=by
 cases x with
 |non=>cases r;rfl
 |bl _=>cases r;rfl
 |int _=>obtain⟨t,rfl⟩:=r;rfl
 |str _=>obtain⟨t,rfl⟩:=r;rfl
 |byt _=>obtain⟨t,rfl⟩:=r;rfl
 |flt _=>obtain⟨t,rfl⟩:=r;rfl
 |ref _=>cases r;rfl
 |ty _=>cases r;rfl
theorem cN.inj (r:cN x u)(q:cN y u):x=y:=Option.some.inj (r.abs.symm.trans q.abs)
theorem cJ.inj:∀{xs ys:wk} {us:List Value},cJ xs us->cJ ys us->xs=ys
 |_,_,_,.nil,.nil=>rfl
 |_,_,_,.cons r t,.cons r' t'=>by rw[r.inj r',cJ.inj t t']
section
variable {X:Cx} {pins:List (Addr × Obj)} {σ:St} {H:Hp} {s:Shared} {a:Addr} {xs ys:wk}
theorem SqL.of {K:Frag}(h:H a=some (.lst xs)):SqL K H a xs:=.inl (.inl h)
theorem SqT.of {K:Frag}(h:H a=some (.tup xs)):SqT K H a xs:=.inl (.inl h)
theorem Inv.list (I:Inv X pins σ H s)(h:SqL X.K H a xs):∃its:List Value,cJ xs its/\PlainL s.heap a its.toArray/\xs.length<=sizeLine:=by
 rcases h with h | ⟨o,its,n,hk,hc,hd,hs,hz,r⟩
 .obtain⟨z,its,n,r,e⟩:=h.ok I.hok;exists its,r,⟨_,n,e,rfl,rfl,rfl⟩,z
 .exists its.toList,r,⟨o,n,I.kIn a o hk,hc,hd,by simpa using hs⟩,?_;have e:=r.length;simp only[Array.length_toList] at e;lia
theorem Inv.tuple (I:Inv X pins σ H s)(h:SqT X.K H a xs):∃its:List Value,cJ xs its/\IsTup s.heap a its.toArray/\xs.length<=sizeLine:=by
 rcases h with h | ⟨o,its,n,hk,hc,hs,hz,r⟩
 .obtain⟨z,its,r,p⟩:=h.ok I.hok;exists its,r,p,z
 .exists its.toList,r,⟨o,I.kIn a o hk,hc,n,by simpa using hs⟩,?_;have e:=r.length;simp only[Array.length_toList] at e;lia
theorem Inv.list_inj (I:Inv X pins σ H s)(h:SqL X.K H a xs)(h':SqL X.K H a ys):xs=ys:=by
 obtain⟨its,r,⟨o,n,e,_,_,d⟩,_⟩:=I.list h;obtain⟨its',r',⟨o',n',e',_,_,d'⟩,_⟩:=I.list h';rw[e] at e';cases e';rw[d] at d';injection d' with d1 _
 have:its=its':=by simpa using congrArg Array.toList d1
 subst this;exact r.inj r'
theorem Inv.tuple_inj (I:Inv X pins σ H s)(h:SqT X.K H a xs)(h':SqT X.K H a ys):xs=ys:=by
 obtain⟨its,r,⟨o,e,_,n,d⟩,_⟩:=I.tuple h;obtain⟨its',r',⟨o',e',_,n',d'⟩,_⟩:=I.tuple h';rw[e] at e';cases e';rw[d] at d';injection d' with d1 _
 have:its=its':=by simpa using congrArg Array.toList d1
 subst this;exact r.inj r'
end
abbrev Cx.wish (X:Cx)(E:Value->Shared->Prop):Cx:={ X with xe:=E }
abbrev Cx.nox (X:Cx):Cx:=X.wish λ_ _=>False
theorem Cx.Ok.wish {X:Cx}(ok:X.Ok)(E:Value->Shared->Prop):(X.wish E).Ok:=
 ⟨ok.mod,ok.kind,ok.glob,ok.blt,ok.above,ok.inj,ok.has,ok.cab,ok.hd,ok.frames,ok.stk,ok.exf,ok.bs,ok.bsz,ok.noex,ok.exfs,ok.funs,ok.frf⟩
theorem Cx.Ok.unwish {X:Cx}(ok:(X.wish E).Ok):X.Ok:=
 ⟨ok.mod,ok.kind,ok.glob,ok.blt,ok.above,ok.inj,ok.has,ok.cab,ok.hd,ok.frames,ok.stk,ok.exf,ok.bs,ok.bsz,ok.noex,ok.exfs,ok.funs,ok.frf⟩
section
variable {X:Cx} {pins:List (Addr × Obj)} {σ:St} {H:Hp} {s:Shared} {E:Value->Shared->Prop}
theorem Inv.wish (I:Inv X pins σ H s)(E:Value->Shared->Prop):Inv (X.wish E) pins σ H s:=⟨I.ok.wish E,I.os,I.bare,I.base,I.loc,I.cell,I.free,I.freeC,I.pin,I.hok,I.len⟩
theorem Inv.unwish (I:Inv (X.wish E) pins σ H s):Inv X pins σ H s:=⟨I.ok.unwish,I.os,I.bare,I.base,I.loc,I.cell,I.free,I.freeC,I.pin,I.hok,I.len⟩
theorem SP.unwish (h:SP (X.wish E) pins D f s'):SP X pins D f s':=by
 cases f with
 |next=>obtain⟨σ',H',I,q⟩:=h;exists σ',H',I.unwish,q
 |brk=>obtain⟨σ',H',I,q⟩:=h;exists σ',H',I.unwish,q
 |cont=>obtain⟨σ',H',I,q⟩:=h;exists σ',H',I.unwish,q
 |ret u=>obtain⟨v,σ',H',I,r,q⟩:=h;exists v,σ',H',I.unwish,r,q
theorem PSs.nox {st:List Stmt}(h:PSs X.nox st t):PSs X st t:=λpins s σ H D I hw=>
 wpAny_mono (h pins s σ H D (I.wish _) hw) (λ_ _ q=>q.unwish) λ_ _ z=>False.elim z
end
section
variable {X:Cx} {st:Stmt} {rest:List Stmt} {t u:TS} {e:Expr} {te:TE} {pos:Pos}
def qo6:TS:=λD σ H=>D.nx σ H
def iD (t u:TS):TS:=λD σ H=>t { D with nx:=u D } σ H
theorem bQ:PSs X [] qo6:=λ_ _ σ H _ I h=>wpAny_execs_nil ⟨σ,H,I,h⟩
theorem aC (h1:PS X st t)(h2:PSs X rest u):PSs X (st :: rest) (iD t u):=by
 intro pins s σ H D I h;refine wpAny_execs_cons (thn (h1 pins s σ H { D with nx:=u D } I h) λf s1 q=>?_)
 cases f with
 |next=>
  obtain⟨σ',H',I',q⟩:=q;exact h2 pins s1 σ' H' D I' q
 |ret v=>exact q
 |brk=>exact q
 |cont=>exact q
theorem aF (h1:PS X st t):PSs X [st] t:=by
 intro pins s σ H D I h;refine wpAny_execs_cons (thn (h1 pins s σ H D I h) λf s1 q=>?_)
 cases f with
 |next=>exact wpAny_execs_nil q
 |ret v=>exact q
 |brk=>exact q
 |cont=>exact q
def qm7:TS:=λD σ H=>D.ct σ H
theorem Em:PS X (.Continue pos) qm7:=λ_ _ σ H _ I h=>wpAny_Continue ⟨σ,H,I,h⟩
theorem Inv.quiet (I:Inv X pins σ H s):interactive X.env=false:=by simp[interactive,I.ok.kind]
def qk8 (te:TE):TS:=λD σ H=>te σ H λ_ H1=>D.nx σ H1
theorem cC (he:PE X e te)(hs:swapsWith e none pos.line X.env=pure false:=by rfl):PS X (.Expr e pos) (qk8 te):=by
 intro pins s σ H D I h;exact wpAny_Expr_any (thn (he pins s σ H _ I h) λv s1 ⟨x,H1,I1,r1,q1⟩=>⟨σ,H1,I1,q1⟩) I.quiet hs
def qt4 (te:TE):TS:=λD σ H=>te σ H D.rt
theorem aW (he:PE X e te):PS X (.Return (some e) pos) (qt4 te):=by
 intro pins s σ H D I h;exact wpAny_Return_some (thn (he pins s σ H _ I h) λv s1 ⟨x,H1,I1,r1,q1⟩=>⟨x,σ,H1,I1,r1,q1⟩)
def qu2 (c:TT)(t u:TS):TS:=λD σ H=>c σ H λb H1=>if b=true then t D σ H1 else u D σ H1
theorem cD (hc:PT X c tc)(ha:PSs X a t)(hb:PSs X b u):PS X (.If c a b pos) (qu2 tc t u):=by
 intro pins s σ H D I h;refine wpAny_If (thn (hc pins s σ H _ I h) λd s1 ⟨H1,I1,q1⟩=>?_)
 cases d with
 |true=>exact ha pins s1 σ H1 D I1 q1
 |false=>exact hb pins s1 σ H1 D I1 q1
def Rv:TS:=λ_ _ _=>False
theorem iE:PS X st Rv:=λ_ _ _ _ _ _ h=>h.elim
theorem Op:PSs X sts Rv:=λ_ _ _ _ _ _ h=>h.elim
end
abbrev TG:=V->St->Hp->(St->Hp->Prop)->Prop
abbrev TGs:=wk->St->Hp->(St->Hp->Prop)->Prop
def PG (X:Cx)(target:Expr)(t:TG):Prop:=
 ∀(pins:List (Addr × Obj)) (s:Shared) (σ:St) (H:Hp) (v:V) (u:Value) (Q:St->Hp->Prop),Inv X pins σ H s->cN v u->t v σ H Q->
  zzW X (assign target X.env u) (λ_ s'=>∃σ' H',Inv X pins σ' H' s'/\Q σ' H') X.xe s
def PGs (X:Cx)(ts:List Expr)(t:TGs):Prop:=
 ∀(pins:List (Addr × Obj)) (s:Shared) (σ:St) (H:Hp) (vs:wk) (us:List Value) (Q:St->Hp->Prop),Inv X pins σ H s->cJ vs us->t vs σ H Q->
  zzW X (assignInOrder ((assignEach ts X.env).map (·.2)) us) (λ_ s'=>∃σ' H',Inv X pins σ' H' s'/\Q σ' H') X.xe s
abbrev qd7:=V->V->V->Hp->(Hp->Prop)->Prop
def qs2 (X:Cx)(t:qd7):Prop:=
 ∀(pins:List (Addr × Obj)) (s:Shared) (σ:St) (H:Hp) (o i v:V) (ov iv u:Value) (Q:Hp->Prop),Inv X pins σ H s->cN o ov->cN i iv->cN v u->t o i v H Q->
  zzW X (setItem ov iv u) (λ_ s'=>∃H',Inv X pins σ H' s'/\Q H') X.xe s
abbrev TIp:=V->V->Hp->VK->Prop
def PIp (X:Cx)(op:Operator)(t:TIp):Prop:=
 ∀(pins:List (Addr × Obj)) (s:Shared) (σ:St) (H:Hp) (x y:V) (v u:Value) (Q:VK),Inv X pins σ H s->cN x v->cN y u->t x y H Q->
  zzW X (inplaceOp op v u) (EP X pins σ Q) X.xe s
section
variable {X:Cx} {pos:Pos}
def iM (i:Nat):TG:=λv σ H Q=>Q (σ.set i (some v)) H
theorem aM (hN:X.N.Nodup)(hi:X.N[i]?=some x)(hx:Loc X.env.scope x)(hf:X.fn x=true\/X.env.scope.names.lookup x=some .local:=by first | exact .inl rfl | exact .inr rfl | assumption):PG X (.Name x pos) (iM i):=by
 intro pins s σ H v u Q I r h;exact wpAny_assign_Name (jY I hN hi hx r (λs' I'=>⟨_,H,I',h⟩) hf)
theorem qQ0 (hN:X.N.Nodup)(hi:X.N[i]?=some x:=by rfl)(hx:Loc X.env.scope x:=by exact .inl rfl)(hf:X.fn x=true\/X.env.scope.names.lookup x=some .local:=by first | exact .inl rfl | exact .inr rfl | assumption):PG X (.Name x pos) (iM i):=aM hN hi hx hf
def Eg:TGs:=λvs σ H Q=>vs=[]/\Q σ H
def kH (t:TG)(u:TGs):TGs:=λvs σ H Q=>∃v r,vs=v :: r/\t v σ H λσ' H'=>u r σ' H' Q
theorem eJ:PGs X [] Eg:=by
 intro pins s σ H vs us Q I r h;obtain⟨e,h⟩:=h;subst e
 cases r
 exact assignInOrder_nil ⟨σ,H,I,h⟩
theorem bO (h1:PG X e t)(h2:PGs X es u)(hs:(assignEach (e :: es) X.env).map (·.2)=assign e X.env :: (assignEach es X.env).map (·.2):=by rfl):PGs X (e :: es) (kH t u):=by
 intro pins s σ H vs us Q I r h;obtain⟨v,vr,e1,h⟩:=h;subst e1
 cases r with
 |cons r rr=>
  rw[hs];refine assignInOrder_cons (thn (h1 pins s σ H _ _ _ I r h) λ_ s1 ⟨σ1,H1,I1,q1⟩=>?_);exact h2 pins s1 σ1 H1 _ _ Q I1 rr q1
def Fi (K:Frag)(n:Nat)(t:TGs):TG:=λv σ H Q=>∃a xs,v=.ref a/\SqT K H a xs/\xs.length=n/\t xs σ H Q
theorem fP (hc:X.calm=true)(h:PGs X es t)(hn:(assignEach es X.env).length=n:=by rfl)(hst:(assignEach es X.env).findIdx? (·.1)=none:=by rfl):PG X (.Tuple es k pos) (Fi X.K n t):=by
 intro pins s σ H v u Q I r hw;obtain⟨a,xs,e1,hq,hl,hw⟩:=hw;subst e1
 cases r
 obtain⟨its,rv,ht,hz⟩:=I.tuple hq;refine assign_Tuple_tuple (I.ok.hd hc) ht (by simp[hn,<- hl,rv.length]) hst λh' hx=>?_;have I1:Inv X pins σ H { s with heap:=h' }:=I.kept (t':=s.toks) λb o e=>hx b o (Nat.ne_of_lt (Heap.lt_size e)) e;exact h pins _ σ H xs _ Q I1 (by simpa using rv) hw
def qt7 (to ti:TE)(t:qd7):TG:=λv σ H Q=>to σ H λo H1=>ti σ H1 λi H2=>t o i v H2 λH3=>Q σ H3
theorem qK (ho:PE X o to)(hi:PE X i ti)(hs:qs2 X t)(ha:∀v,assign (.Subscript o i pos) X.env v=(do
   let ov <- holding [v] (eval o X.env)
   let iv <- holding [v,ov] (eval i X.env)
   standAt pos
   holding [v,ov,iv] (setItem ov iv v)
   release [v,ov,iv] []):=by intro _;rfl):PG X (.Subscript o i pos) (qt7 to ti t):=by
 intro pins s σ H v u Q I r h;rw[ha];refine wpAny_bind (wpAny_holding (thn (ho pins s σ H _ I h) λov s1 ⟨x,H1,I1,r1,q1⟩=>?_));refine wpAny_bind (wpAny_holding (thn (hi pins s1 σ H1 _ I1 q1) λiv s2 ⟨y,H2,I2,r2,q2⟩=>?_));refine wpAny_bind (wpAny_standAt (wpAny_bind (wpAny_holding (thn (hs pins s2 σ H2 x y v ov iv u _ I2 r1 r2 r q2) λ_ s3 ⟨H3,I3,q3⟩=>?_))));exact wpAny_release ⟨σ,H3,I3,q3⟩
def qk1 (te:TE)(g:TG):TS:=λD σ H=>te σ H λx H1=>g x σ H1 D.nx
theorem jD (he:PE X e te)(hg:PG X tg g)(hs:swapsWithSole [tg] e pos.line X.env=pure false:=by rfl)(hw:swappedStores [tg] e X.env=pure none:=by rfl)(h1:(assignEach [tg] X.env).map (·.2)=[assign tg X.env]:=by rfl):PS X (.Assign [tg] e pos) (qk1 te g):=by
 intro pins s σ H D I h;refine wpAny_Assign_stores (thn (he pins s σ H _ I h) λv s1 ⟨x,H1,I1,r1,q1⟩=>?_) hs hw;rw[h1];exact thn (hg pins s1 σ H1 x v _ I1 r1 q1) λ_ s2 q=>q
theorem aT (hN:X.N.Nodup)(hi:X.N[i]?=some x)(hx:Loc X.env.scope x)(he:PE X e te)(hs:swapsWith e (some (.Name x pos')) pos.line X.env=pure false:=by rfl)(hf:X.fn x=true\/X.env.scope.names.lookup x=some .local:=by first | exact .inl rfl | exact .inr rfl | assumption):
  PS X (.Assign [.Name x pos'] e pos) (qk1 te (iM i)):=by
 intro pins s σ H D I h;refine wpAny_Assign_Name (thn (he pins s σ H _ I h) λv s1 ⟨y,H1,I1,r1,q1⟩=>?_) hs;exact jY I1 hN hi hx r1 (λs2 I2=>⟨_,H1,I2,q1⟩) hf
theorem qQ1 (hN:X.N.Nodup)(he:PE X e te)(hi:X.N[i]?=some x:=by rfl)(hx:Loc X.env.scope x:=by exact .inl rfl)(hs:swapsWith e (some (.Name x pos')) pos.line X.env=pure false:=by rfl)(hf:X.fn x=true\/X.env.scope.names.lookup x=some .local:=by first | exact .inl rfl | exact .inr rfl | assumption):
  PS X (.Assign [.Name x pos'] e pos) (qk1 te (iM i)):=aT hN hi hx he hs hf
inductive Zz (i j:Nat) (D:kE) (σ:St) (vs:wk) (H1:Hp):Prop where
 |mk (v w):vs=[v,w]->D.nx ((σ.set i (some v)).set j (some w)) H1->Zz i j D σ vs H1
def qu6 (i j:Nat)(ta:TA):TS:=λD σ H=>ta σ H λvs H1=>Zz i j D σ vs H1
theorem Qy {kt k2 pt2}(hc:X.calm=true)(hN:X.N.Nodup)(hi:X.N[i]?=some x)(hj:X.N[j]?=some y)(hij:i≠j)(hx:X.env.scope.names.lookup x=some .local)(hy:X.env.scope.names.lookup y=some .local)(ha:PA X [a,b] ta)(hw:swappedStores [.Tuple [.Name x px,.Name y py] kt pt] (.Tuple [a,b] k2 pt2) X.env=pure (some [x,y]))(hs:swapsWithSole [.Tuple [.Name x px,.Name y py] kt pt] (.Tuple [a,b] k2 pt2) pos.line X.env=pure false:=by rfl):
  PS X (.Assign [.Tuple [.Name x px,.Name y py] kt pt] (.Tuple [a,b] k2 pt2) pos) (qu6 i j ta):=by
 intro pins s σ H D I h;rw[exec_Assign_arm];refine wpAny_bind (wpAny_standAt ?_);rw[hs];refine wpAny_bind (wpAny_pure ?_);rw[if_neg ∅];refine wpAny_bind (Tuple_ (thn (ha _ pins s σ H _ I h) λus s1 ⟨vs,H1,I1,r1,q1⟩=>?_));obtain⟨v,w,e1,q1⟩:=q1;subst e1;obtain⟨u1,u2,rfl,rv,rw'⟩:∃u1 u2,us=[u1,u2]/\cN v u1/\cN w u2:=by
  cases r1 with
  |cons p q=>
   cases q with
   |cons p' q'=>
    cases q'
    exists _,_,rfl,p,p'
 refine wpAny_newObj_type ?_ (by show 2<=sizeLine;decide);have I2:Inv X pins σ H1 { s1 with heap:=s1.heap.push { cls:=.type "tuple",data:=.seq [u1,u2].toArray } }:=I1.kept (t':=s1.toks) λb o e=>Heap.get?_push_of_some _ e;rw[hw];refine wpAny_bind (wpAny_pure ?_);show zzW X (do rule "assign.swapped-stores";let items <- unpackItems (.ref s1.heap.objs.size) 2 none;assignInOrder [λv=>bindName X.env y v,λv=>bindName X.env x v] items.reverse;pure Flow.next) _ _ _;refine wpAny_bind (wpAny_rule (wpAny_bind (unpackItems_tuple (items:=#[u1,u2]) (I.ok.hd hc) (IsTup.new s1.heap _) λh' hx'=>?_)));have I3:=I2.kept (h':=h') (t':=s1.toks) λb o e=>hx' b o (Nat.ne_of_lt (Heap.lt_size e)) e;show wpAny _ _ (assignInOrder [λv=>bindName X.env y v,λv=>bindName X.env x v] [u2,u1] >>= λ_=>pure Flow.next) _ _ _;refine wpAny_bind (assignInOrder_cons (wpAny_bindName (jY I3 hN hj (.inl hy) rw' (λs2 I4=>?_) (.inr hy))));refine assignInOrder_cons (wpAny_bindName (jY I4 hN hi (.inl hx) rv (λs3 I5=>assignInOrder_nil (wpAny_pure ?_)) (.inr hx)));rw[set_comm _ _ (Ne.symm hij)] at I5;exists _,H1,I5,q1
def qu9 (i:Nat)(te:TE)(ti:TIp):TS:=λD σ H=>∃x,σ[i]?=some (some x)/\te σ H λy H1=>ti x y H1 λz H2=>D.nx (σ.set i (some z)) H2
theorem Ho (hN:X.N.Nodup)(hi:X.N[i]?=some x)(hx:Loc X.env.scope x)(he:PE X e te)(ho:PIp X op ti)(hf:X.fn x=true\/X.env.scope.names.lookup x=some .local:=by first | exact .inl rfl | exact .inr rfl | assumption):
  PS X (.AugAssign (.Name x pos') op e pos) (qu9 i te ti):=by
 intro pins s σ H D I h;obtain⟨v,e1,h⟩:=h;obtain⟨m,hn,hl⟩:=I.loc;have vis:Vis X.env.scope x:=by rcases hx with k | k;exact .inl k;exact .inr (.inl k)
 obtain⟨u,r,l⟩:=hl i x v hi e1 vis;refine wpAny_AugAssign_Name ?_;have go:zzW X (eval e X.env) (λw s₂=>zzW X (inplaceOp op u w) (λr s₃=>zzW X (storeName X.env x r) (λ_=>SP X pins D .next) X.xe s₃) X.xe s₂) X.xe s:=by
  refine thn (he pins s σ H _ I h) λw s1 ⟨y,H1,I1,r1,q1⟩=>?_;refine thn (ho pins s1 σ H1 v y u w _ I1 r r1 q1) λz s2 ⟨zv,H2,I2,r2,q2⟩=>?_;exact jY I2 hN hi hx r2 (λs3 I3=>⟨_,H2,I3,q2⟩) hf
 rcases l with ⟨hk,hm⟩ | ⟨hk,c,hc,hcell⟩
 .exact wpAny_loadName_local I.ok.kind hk hn hm go
 .rcases hk with hk | hk
  .exact wpAny_loadName_cell I.ok.kind hk hc hcell go
  .rcases hx with k | k
   .have:X.env.scope.names.lookup x=some .free:=hk;rw[k] at this;cases this
   .have:X.env.scope.names.lookup x=some .free:=hk;rw[k] at this;cases this
def ipI (f:Int->Int->Int):TIp:=λx y H Q=>∃i j,x=.int i/\y=.int j/\Q (.int (f i j)) H
theorem Gx:PIp X .Add (ipI λi j=>i+j):=by
 intro pins s σ H x y v u Q I r1 r2 h;obtain⟨i,j,e1,e2,q⟩:=h;subst e1;subst e2;obtain⟨t,rfl⟩:=r1;obtain⟨t',rfl⟩:=r2;exact iadd_int ⟨.int _,H,I.tok _,⟨_,rfl⟩,q⟩
def Tf (c:TT)(tb:TS):TS:=λD σ H=>∃W:Nat->St->Hp->Prop,(∃m,W m σ H)/\∀m σ H,W m σ H->
 c σ H λb H1=>if b=true then ∃N:St->Hp->Prop,(∀σ' H',N σ' H'->∃m',m' < m/\W m' σ' H')/\tb { D with nx:=N,ct:=N,bk:=D.nx } σ H1 else D.nx σ H1
theorem xZ (hp:PassesOwn (model X.prog X.w) X.A X.env X.xe)(hc:PT X c tc)(hb:PSs X body tb):PS X (.While c body [] pos) (Tf tc tb):=by
 intro pins s σ H D I h;obtain⟨W,⟨m0,w0⟩,turn⟩:=h;refine wpAny_While (codeAny_whileLoop (λn s'=>∃σ' H',Inv X pins σ' H' s'/\W n σ' H') ?_ m0 ⟨σ,H,I,w0⟩);rintro n s1 ⟨σ1,H1,I1,w1⟩;refine wpAny_passesOwn hp (thn (hc pins s1 σ1 H1 _ I1 (turn n σ1 H1 w1)) λb s2 ⟨H2,I2,q2⟩=>?_)
 cases b with
 |true=>
  obtain⟨N,hN,q2⟩:=q2;rw[if_pos rfl];refine wpAny_passesOwn hp (thn (hb pins s2 σ1 H2 _ I2 q2) λf s3 q3=>?_)
  cases f with
  |next=>
   obtain⟨σ3,H3,I3,n3⟩:=q3;obtain⟨m',hm,w3⟩:=hN σ3 H3 n3;exists m',hm,σ3,H3,I3,w3
  |cont=>
   obtain⟨σ3,H3,I3,n3⟩:=q3;obtain⟨m',hm,w3⟩:=hN σ3 H3 n3;exists m',hm,σ3,H3,I3,w3
  |brk=>exact q3
  |ret v=>exact q3
 |false=>
  rw[if_neg Bool.false_ne_true];exact wpAny_execs_nil ⟨σ1,H2,I2,q2⟩
end
structure It where
 go:Nat->Hp->Prop
 yld:Nat->Hp->V->Hp->Prop
 stop:Nat->Hp->Prop
def pH (X:Cx)(pins:List (Addr × Obj))(H:Hp)(b:Addr):Prop:=
 H b=none/\b≠X.env.locals/\b∉X.fs/\(b∈X.ex\/X.s₀.heap.objs.size<=b)/\(∀x c,X.env.cells.lookup x=some c->c≠b)/\∀p∈X.pn++pins,p.1≠b
theorem Inv.fpOk (I:Inv X pins σ H s)(hb:s.heap.objs.size<=b)(hn:H' b=none):pH X pins H' b:=by
 exists hn,Nat.ne_of_gt (Nat.lt_of_lt_of_le I.lt hb),I.nofs hb,.inr (Nat.le_trans I.sz hb),λx c e z=>?_,λp hp z=>?_
 .obtain⟨v,q⟩:=I.cell x c e;exact absurd (Nat.lt_of_lt_of_le q.lt (by rw[z];exact hb)) (Nat.lt_irrefl _)
 .exact absurd (Nat.lt_of_lt_of_le (Heap.lt_size (I.pin p hp).1) (by rw[z];exact hb)) (Nat.lt_irrefl _)
structure Pf (P:Program) (w:World) (K:Frag) (tg:Expr) (J:It) (fp:List Addr) (it:Addr) (tn:Nat->Heap->Prop):Prop where
 mem:it∈fp
 obj:∀i h,tn i h->∀b∈fp,∃o,h.get? b=some o/\∀v,o.data≠.cell v
 keep:∀i h h',tn i h->(∀b∈fp,∀o,h.get? b=some o->h'.get? b=some o)->tn i h'
 item:∀(X:Cx),X.prog=P->X.w=w->X.K=K->X.calm=true->∀(i:Nat) (pins:List (Addr × Obj)) (s:Shared) (σ:St) (H:Hp) (E:Value->Shared->Prop),Inv X pins σ H s->(∀b∈fp,pH X pins H b)->tn i s.heap->J.go i H->
  wpAny (model P w) X.A (pyNext (.ref it)) (λr s1=>∃u,r=some u/\
   wpAny (model P w) X.A (letOwnedTupleGo tg (.ref it) u) (λ_ s2=>∃x H',Inv X pins σ H' s2/\cN x u/\J.yld i H x H'/\tn (i+1) s2.heap/\∀b∈fp,H' b=none) E s1) E s
 done:∀(X:Cx),X.prog=P->X.w=w->X.K=K->X.calm=true->∀(i:Nat) (pins:List (Addr × Obj)) (s:Shared) (σ:St) (H:Hp) (E:Value->Shared->Prop),Inv X pins σ H s->(∀b∈fp,pH X pins H b)->tn i s.heap->J.stop i H->
  wpAny (model P w) X.A (pyNext (.ref it)) (λr s1=>r=none/\Inv X pins σ H s1) E s
 self:∀(A:Around) (i:Nat) (s:Shared) (Q:Value->Shared->Prop) (E:Value->Shared->Prop),tn i s.heap->Q (.ref it) s->wpAny (model P w) A (pyIter (.ref it)) Q E s
abbrev TI:=St->Hp->(It->Hp->Prop)->Prop
def PIE (X:Cx)(pins:List (Addr × Obj))(σ:St)(tg:Expr)(R:It->Hp->Prop)(itv:Value)(s2:Shared):Prop:=
 ∃(it:Addr) (fp:List Addr) (tn:Nat->Heap->Prop) (J:It) (H':Hp),itv=.ref it/\Inv X pins σ H' s2/\Pf X.prog X.w X.K tg J fp it tn/\tn 0 s2.heap/\(∀b∈fp,pH X pins H' b)/\R J H'
def PI (X:Cx)(tg iter:Expr)(wi:TI):Prop:=
 ∀(pins:List (Addr × Obj)) (s:Shared) (σ:St) (H:Hp) (R:It->Hp->Prop),Inv X pins σ H s->wi σ H R->
  zzW X (eval iter X.env) (λv s1=>zzW X (pyIter v) (PIE X pins σ tg R) X.xe s1) X.xe s
theorem Tz (ho : s.heap.get? it = some o)(hc : o.cls = .type n)(hd : o.data = .fields vs)(hn : ["enumerate", "zip", "dict_itemiterator", "dict_reverseitemiterator", "odict_iterator", "itertools.zip_longest", "itertools.pairwise"].contains n = false)(hQ : Q .unit s): wpAny M A (letOwnedTupleGo tg (.ref it) u) Q E s := by
  unfold letOwnedTupleGo
  cases tg <;> first
    | exact wpAny_pure hQ
    | (cases u <;> first
        | exact wpAny_pure hQ
        | (refine wpAny_bind (wpAny_load ho ?_)
           rw [hc, hd];show wpAny M A (if (["enumerate", "zip", "dict_itemiterator", "dict_reverseitemiterator", "odict_iterator", "itertools.zip_longest", "itertools.pairwise"].contains n && vs[0]? == some (rawInt _)) = true then _ else _) Q E s;rw [if_neg (by intro h; rw [hn, Bool.false_and] at h; cases h)];exact wpAny_pure hQ))
def Itl (K:Frag)(a:Addr):It:=
 ⟨λi H=>∃xs x,SqL K H a xs/\xs[i]?=some x,λi H x H'=>H'=H/\∀xs,SqL K H a xs->xs[i]?=some x,λi H=>∃xs,SqL K H a xs/\xs.length<=i⟩
def Itt (K:Frag)(a:Addr):It:=
 ⟨λi H=>∃xs x,SqT K H a xs/\xs[i]?=some x,λi H x H'=>H'=H/\∀xs,SqT K H a xs->xs[i]?=some x,λi H=>∃xs,SqT K H a xs/\xs.length<=i⟩
def Itr (lo:Int)(n:Nat):It:=⟨λi _=>i < n,λi H x H'=>H'=H/\x=.int (lo+i),λi _=>n<=i⟩
theorem Ob {K:Frag}(a it:Addr):Pf P w K tg (Itl K a) [it] it (λi h=>h.IsListIter it a i) where
 mem:=by simp
 obj:=λi h st b hb=>by
  have e:b=it:=by simpa using hb
  subst e;obtain⟨o,e,c,d⟩:=st;exists o,e,λv z=>by rw[d] at z;cases z
 keep:=λi h h' st k=>st.at λo e=>k it ⋯ o e
 item:=by
  intro X hP hw hK hc i pins s σ H E I hf st hg;subst hP hw hK;obtain⟨xs,x,hq,hx⟩:=hg;obtain⟨its,rv,p,hz⟩:=I.list hq;obtain⟨u,hu,ru⟩:=rv.get hx;obtain⟨f0,f1,f2,f3,f4,f5⟩:=hf it ⋯;refine wpAny_pyNext_list_item st p.isList (x:=u) (by simpa using hu) λh' st' sb=>?_;have I1:Inv X pins σ H { s with heap:=h' }:=I.turned (t':=s.toks) (λb o hb e=>(sb.2 b hb).trans e) f0 f1 f3 f4 f5;obtain⟨o,e,c,d⟩:=id st';exists u,rfl,Tz (s:={ s with heap:=h' }) e c d ∅ ⟨x,H,I1,ru,⟨rfl,λys hy=>by rw[I.list_inj hy hq];exact hx⟩,st',λb hb=>(hf b hb).1⟩
 done:=by
  intro X hP hw hK hc i pins s σ H E I hf st hg;subst hP hw hK;obtain⟨xs,hq,hx⟩:=hg;obtain⟨its,rv,p,hz⟩:=I.list hq;obtain⟨f0,f1,f2,f3,f4,f5⟩:=hf it ⋯;have hl:=rv.length;exact wpAny_pyNext_list_end (I.ok.hd hc) st p.isList (by simp;lia) λh' eb=>⟨rfl,I.turned (t':=s.toks) (λb o hb e=>eb b o hb e) f0 f1 f3 f4 f5⟩
 self:=λ_ _ _ _ _ st h=>wpAny_pyIter_listiter st h
theorem Hw {K:Frag}(a it:Addr):Pf P w K tg (Itt K a) [it] it (λi h=>h.IsTupleIter it a i) where
 mem:=by simp
 obj:=λi h st b hb=>by
  have e:b=it:=by simpa using hb
  subst e;obtain⟨o,e,c,d⟩:=st;exists o,e,λv z=>by rw[d] at z;cases z
 keep:=λi h h' st k=>st.at λo e=>k it ⋯ o e
 item:=by
  intro X hP hw hK hc i pins s σ H E I hf st hg;subst hP hw hK;obtain⟨xs,x,hq,hx⟩:=hg;obtain⟨its,rv,p,hz⟩:=I.tuple hq;obtain⟨u,hu,ru⟩:=rv.get hx;obtain⟨f0,f1,f2,f3,f4,f5⟩:=hf it ⋯;refine wpAny_pyNext_tuple_item st (show s.heap.IsTuple a its.toArray from p) (x:=u) (by simpa using hu) λh' st' sb=>?_;have I1:Inv X pins σ H { s with heap:=h' }:=I.turned (t':=s.toks) (λb o hb e=>(sb.2 b hb).trans e) f0 f1 f3 f4 f5;obtain⟨o,e,c,d⟩:=id st';exists u,rfl,Tz (s:={ s with heap:=h' }) e c d ∅ ⟨x,H,I1,ru,⟨rfl,λys hy=>by rw[I.tuple_inj hy hq];exact hx⟩,st',λb hb=>(hf b hb).1⟩
 done:=by
  intro X hP hw hK hc i pins s σ H E I hf st hg;subst hP hw hK;obtain⟨xs,hq,hx⟩:=hg;obtain⟨its,rv,p,hz⟩:=I.tuple hq;obtain⟨f0,f1,f2,f3,f4,f5⟩:=hf it ⋯;have hl:=rv.length;exact wpAny_pyNext_tuple_end (I.ok.hd hc) st (show s.heap.IsTuple a its.toArray from p) (by simp;lia) λh' eb=>⟨rfl,I.turned (t':=s.toks) (λb o hb e=>eb b o hb e) f0 f1 f3 f4 f5⟩
 self:=λ_ _ _ _ _ st h=>wpAny_pyIter_tupleiter st h
theorem Im {K:Frag}(it:Addr)(lo:Int)(n:Nat):Pf P w K tg (Itr lo n) [it] it (λi h=>IsRangeIter h it (lo+(i:Nat)*1) ((n:Int) - (i:Nat)) 1) where
 mem:=by simp
 obj:=λi h st b hb=>by
  have e:b=it:=by simpa using hb
  subst e;exact⟨_,st,λv z=>by
   have z':Data.fields _=Data.cell v:=z
   cases z'⟩
 keep:=λi h h' st k=>k it ⋯ _ st
 item:=by
  intro X hP hw hK hc i pins s σ H E I hf st hg;subst hP hw hK;obtain⟨f0,f1,f2,f3,f4,f5⟩:=hf it ⋯;have W:=Walks.range (prog:=X.prog) (w:=X.w) (I.ok.hd hc) it lo 1 n;refine W.item i s _ _ hg st λv h' tk hv st' kk=>?_;obtain⟨t,rfl⟩:=hv;have I1:Inv X pins σ H { s with heap:=h',toks:=tk }:=I.turned (λb o hb e=>kk b o (by simpa using hb) e) f0 f1 f3 f4 f5;exists _,rfl,Tz (s:={ s with heap:=h',toks:=tk }) (n:="range_iterator") st' rfl rfl ∅ ⟨.int (lo+i),H,I1,⟨t,?_⟩,⟨rfl,rfl⟩,st',λb hb=>(hf b hb).1⟩;rw[Int.mul_one]
 done:=by
  intro X hP hw hK hc i pins s σ H E I hf st hg;subst hP hw hK;obtain⟨f0,f1,f2,f3,f4,f5⟩:=hf it ⋯;exact wpAny_pyNext_range_end (I.ok.hd hc) st (by have:n<=i:=hg;lia) λh' eb=>⟨rfl,I.turned (t':=s.toks) (λb o hb e=>eb b o hb e) f0 f1 f3 f4 f5⟩
 self:=λ_ _ _ _ _ st h=>wpAny_pyIter_rangeiter st h
section
variable {X:Cx} {tg:Expr}
def qn4 (K:Frag)(tl:TE):TI:=λσ H R=>tl σ H λx H1=>∃a,x=.ref a/\(∃xs,SqL K H1 a xs)/\R (Itl K a) H1
def qt1 (K:Frag)(tl:TE):TI:=λσ H R=>tl σ H λx H1=>∃a,x=.ref a/\(∃xs,SqT K H1 a xs)/\R (Itt K a) H1
theorem cG (hl:PE X l tl):PI X tg l (qn4 X.K tl):=by
 intro pins s σ H R I h;refine thn (hl pins s σ H _ I h) λv s1 ⟨x,H1,I1,r1,q1⟩=>?_;obtain⟨a,e,⟨xs,hq⟩,q⟩:=q1;subst e
 cases r1
 obtain⟨its,rv,p,hz⟩:=I1.list hq;refine wpAny_pyIter_list p.isList ?_;exists s1.heap.objs.size,[s1.heap.objs.size],_,_,H1,rfl,I1.kept (t':=s1.toks) λb o e=>Heap.get?_push_of_some _ e,Ob a _,⟨_,Heap.get?_push_size _ rfl,rfl,rfl⟩,λb hb=>?_,q;have e:b=s1.heap.objs.size:=by simpa using hb
 subst e;exact I1.fpOk (Nat.le_refl _) (I1.hok.fresh (Nat.le_refl _))
theorem qe7 (hl:PE X l tl):PI X tg l (qt1 X.K tl):=by
 intro pins s σ H R I h;refine thn (hl pins s σ H _ I h) λv s1 ⟨x,H1,I1,r1,q1⟩=>?_;obtain⟨a,e,⟨xs,hq⟩,q⟩:=q1;subst e
 cases r1
 obtain⟨its,rv,p,hz⟩:=I1.tuple hq;refine wpAny_pyIter_tuple (show s1.heap.IsTuple a its.toArray from p) ?_;exists s1.heap.objs.size,[s1.heap.objs.size],_,_,H1,rfl,I1.kept (t':=s1.toks) λb o e=>Heap.get?_push_of_some _ e,Hw a _,⟨_,Heap.get?_push_size _ rfl,rfl,rfl⟩,λb hb=>?_,q;have e:b=s1.heap.objs.size:=by simpa using hb
 subst e;exact I1.fpOk (Nat.le_refl _) (I1.hok.fresh (Nat.le_refl _))
theorem Ef {lo hi:Int}(I:Inv X pins σ H s)(h1:-(2 ^ 62)<=lo)(h2:lo < 2 ^ 62)(h3:-(2 ^ 62)<=hi)(h4:hi < 2 ^ 62)(q:R (Itr lo (hi - lo).toNat) H):zzW X (pyIter (.ref s.heap.objs.size)) (PIE X pins σ tg R) E { s with heap:=s.heap.push { cls:=.type "range",data:=.fields #[.int lo t,.int hi u,.int 1 v] },toks:=tk }:=by
 refine wpAny_pyIter_range (IsRange.new ..) (small_one h1 h2 h3 h4) ?_;have I1:Inv X pins σ H { s with heap:=s.heap.push { cls:=.type "range",data:=.fields #[.int lo t,.int hi u,.int 1 v] },toks:=tk }:=I.kept λb o e=>Heap.get?_push_of_some _ e;refine⟨(s.heap.push { cls:=.type "range",data:=.fields #[.int lo t,.int hi u,.int 1 v] }).objs.size,[(s.heap.push { cls:=.type "range",data:=.fields #[.int lo t,.int hi u,.int 1 v] }).objs.size],_,_,H,rfl,
  I1.kept (t':=tk) λb o e=>Heap.get?_push_of_some _ e,Im _ lo (hi - lo).toNat,?_,λb hb=>?_,q⟩
 .have e1:lo+((0:Nat):Int)*1=lo:=by simp
  have e2:(((hi - lo).toNat:Nat):Int) - ((0:Nat):Int)=Builtin.Range.rangeSize lo hi 1:=by rw[rangeSize_one];split<;>lia
  show IsRangeIter _ _ (lo+((0:Nat):Int)*1) ((((hi - lo).toNat:Nat):Int) - ((0:Nat):Int)) 1;rw[e1,e2];exact Heap.get?_push_size _ rfl
 .have e:b=(s.heap.push { cls:=.type "range",data:=.fields #[.int lo t,.int hi u,.int 1 v] }).objs.size:=by simpa using hb
  subst e;exact I1.fpOk (Nat.le_refl _) (I1.hok.fresh (Nat.le_refl _))
def qm3 (ta:TA):TI:=λσ H R=>ta σ H λvs H1=>∃j:Int,vs=[.int j]/\-(2 ^ 62)<=j/\j < 2 ^ 62/\R (Itr 0 j.toNat) H1
def qm4 (ta:TA):TI:=λσ H R=>ta σ H λvs H1=>∃i j:Int,vs=[.int i,.int j]/\(-(2 ^ 62)<=i/\i < 2 ^ 62/\-(2 ^ 62)<=j/\j < 2 ^ 62)/\R (Itr i (j - i).toNat) H1
theorem fA (hg:Gl X "range")(hm:X.mg "range"=none)(ha:PA X [a] ta)(hs:starEach [a] X.env=[(false,eval a X.env)]:=by rfl):PI X tg (.Call (.Name "range" p) [a] [] pos) (qm3 ta):=by
 intro pins s σ H R I h;refine Call_ (kZ I hg hm boot_range (PyProof.Rows.callWith_type1 (thn (ha pos pins s σ H _ I h) λus s1 ⟨vs,H1,I1,r1,q1⟩=>?_) hs rfl));obtain⟨j,e,q1,q2,q⟩:=q1;subst e
 cases r1 with
 |cons r rr=>
  cases rr
  obtain⟨t,rfl⟩:=r;exact call_range_1 (Ef I1 () () q1 q2 (by simpa using q))
theorem Nb (hg:Gl X "range")(hm:X.mg "range"=none)(ha:PA X [a,b] ta)(hs:starEach [a,b] X.env=[(false,eval a X.env),(false,eval b X.env)]:=by rfl)(hs2:starEach [b] X.env=[(false,eval b X.env)]:=by rfl):
  PI X tg (.Call (.Name "range" p) [a,b] [] pos) (qm4 ta):=by
 intro pins s σ H R I h;refine Call_ (kZ I hg hm boot_range (PyProof.Rows.callWith_type1 (thn (ha pos pins s σ H _ I h) λus s1 ⟨vs,H1,I1,r1,q1⟩=>?_) (by rw[hs,hs2]) (by rw[hs2];rfl)));obtain⟨i,j,e,⟨q1,q2,q3,q4⟩,q⟩:=q1;subst e
 cases r1 with
 |cons r rr=>
  cases rr with
  |cons r' rr=>
   cases rr
   obtain⟨t,rfl⟩:=r;obtain⟨t',rfl⟩:=r';exact call_range_2 (Ef I1 q1 q2 q3 q4 q)
def qs6 (wi:TI)(g:TG)(tb:TS):TS:=λD σ H=>wi σ H λJ H1=>∃W:Nat->Nat->St->Hp->Prop,(∃m,W 0 m σ H1)/\∀i m σ H,W i m σ H->
 (J.stop i H/\D.nx σ H)\/(J.go i H/\∃N:St->Hp->Prop,(∀σ' H',N σ' H'->∃m',m' < m/\W (i+1) m' σ' H')/\∀x H',J.yld i H x H'->g x σ H' λσ2 H2=>tb { D with nx:=N,ct:=N,bk:=D.nx } σ2 H2)
def wY (fp:List Addr)(h:Heap):List (Addr × Obj):=fp.filterMap λb=>(h.get? b).map λo=>(b,o)
theorem nQ (hb:b∈fp)(e:h.get? b=some o):(b,o)∈wY fp h:=mem_filterMap.mpr ⟨b,hb,by rw[e];rfl⟩
theorem Nj (hp:p∈wY fp h):p.1∈fp/\h.get? p.1=some p.2:=by
 obtain⟨b,hb,e⟩:=mem_filterMap.mp hp
 cases q:h.get? b with
 |none=>rw[q] at e;cases e
 |some o=>
  rw[q] at e;have e':(b,o)=p:=Option.some.inj e;subst e';exists hb,q
theorem Inv.pinned (I:Inv X pins σ H s)(hf:∀b∈fp,pH X pins H b)(ho:∀b∈fp,∃o,s.heap.get? b=some o/\∀v,o.data≠.cell v):Inv X (pins++wY fp s.heap) σ H s:=
 I.pins_of λp hp=>(mem_append.mp hp).elim (λz=>I.pin p (mem_append_right _ z)) λz=>by
  obtain⟨hb,e⟩:=Nj z;obtain⟨f0,f1,f2,_⟩:=hf p.1 hb;obtain⟨o,e',d⟩:=ho p.1 hb;rw[e] at e';cases e';exists e,f0,f1,f2,d
theorem Inv.unpinned (I:Inv X (pins++pl) σ H s):Inv X pins σ H s:=I.pins_of λp hp=>I.pin p (mem_append_right _ (mem_append_left _ hp))
theorem eO {iter:Expr}(hp:PassesOwn (model X.prog X.w) X.A X.env X.xe)(hc:X.calm=true)(hi:PI X tg iter wi)(hg:PG X tg g)(hb:PSs X body tb)(hs:∀x,foldedSetIterable iter X.env x=pure x:=by intro _;rfl):PS X (.For tg iter body [] pos) (qs6 wi g tb):=by
 intro pins s σ H D I h;refine wpAny_For (thn (hi pins s σ H _ I h) λv s1 h1=>thn h1 λitv s2 h2=>?_) hs;obtain⟨it,fp,tn,J,H2,e,I2,T,st2,f2,W,⟨m0,w0⟩,turn⟩:=h2;subst e;have stat:∀{H':Hp},(∀b∈fp,H' b=none)->∀b∈fp,pH X pins H' b:=λhn b hb=>⟨hn b hb,(f2 b hb).2⟩
 refine codeAny_forLoop_any (λn s'=>∃i σ' H',Inv X pins σ' H' s'/\tn i s'.heap/\(∀b∈fp,H' b=none)/\W i n σ' H') ?_ m0 ⟨0,σ,H2,I2,st2,λb hb=>(f2 b hb).1,w0⟩;rintro n s3 ⟨i,σ3,H3,I3,st3,fr3,w3⟩;rcases turn i n σ3 H3 w3 with ⟨stop,qn⟩ | ⟨go,N,hN,step⟩
 .refine wpAny_passesOwn hp (thn (T.done X rfl rfl rfl hc i pins s3 σ3 H3 X.xe I3 (stat fr3) st3 stop) λr s4 ⟨hr,I4⟩=>?_);subst hr;exact wpAny_execs_nil ⟨σ3,H3,I4,qn⟩
 .refine wpAny_passesOwn hp (thn (T.item X rfl rfl rfl hc i pins s3 σ3 H3 X.xe I3 (stat fr3) st3 go) λr s4 ⟨u,hr,h4⟩=>?_);subst hr;refine wpAny_passesOwn hp (thn h4 λ_ s5 ⟨x,H5,I5,r5,y5,st5,fr5⟩=>?_);have I5':=I5.pinned (stat fr5) (T.obj _ _ st5);refine wpAny_passesOwn hp (thn (hg _ s5 σ3 H5 x u _ I5' r5 (step x H5 y5)) λ_ s6 ⟨σ6,H6,I6,q6⟩=>?_);refine wpAny_passesOwn hp (thn (hb _ s6 σ6 H6 _ I6 q6) λf s7 q7=>?_);have again:∀{σ7:St} {H7:Hp},Inv X (pins++wY fp s5.heap) σ7 H7 s7->N σ7 H7->∃m,m < n/\∃i σ' H',Inv X pins σ' H' s7/\tn i s7.heap/\(∀b∈fp,H' b=none)/\W i m σ' H':=λ{σ7 H7} I7 n7=>by
   obtain⟨m',hm,w7⟩:=hN σ7 H7 n7;exists m',hm,i+1,σ7,H7,I7.unpinned,T.keep _ _ _ st5 λb hb o e=>(I7.pin (b,o) (mem_append_right _ (mem_append_right _ (nQ hb e)))).1,λb hb=>?_,w7;obtain⟨o,e,d⟩:=T.obj _ _ st5 b hb;exact(I7.pin (b,o) (mem_append_right _ (mem_append_right _ (nQ hb e)))).2.1
  cases f with
  |next=>obtain⟨σ7,H7,I7,n7⟩:=q7;exact again I7 n7
  |cont=>obtain⟨σ7,H7,I7,n7⟩:=q7;exact again I7 n7
  |brk=>obtain⟨σ7,H7,I7,q7⟩:=q7;exists σ7,H7,I7.unpinned,q7
  |ret v=>obtain⟨x7,σ7,H7,I7,r7,q7⟩:=q7;exists x7,σ7,H7,I7.unpinned,r7,q7
end
theorem eU {K:Frag}{g:TG}{tb:TS}{D:kE}(Pv:Nat->St->Hp->Prop)(h0:Pv 0 σ H)(hl:∀i σ H,i<=xs.length->Pv i σ H->SqL K H a xs)(hs:∀i x σ H,xs[i]?=some x->Pv i σ H->g x σ H λσ2 H2=>tb { D with nx:=Pv (i+1),ct:=Pv (i+1),bk:=D.nx } σ2 H2)(hd:∀σ H,Pv xs.length σ H->D.nx σ H):
  ∃W:Nat->Nat->St->Hp->Prop,(∃m,W 0 m σ H)/\∀i m σ H,W i m σ H->
   ((Itl K a).stop i H/\D.nx σ H)\/((Itl K a).go i H/\∃N:St->Hp->Prop,(∀σ' H',N σ' H'->∃m',m' < m/\W (i+1) m' σ' H')/\∀x H',(Itl K a).yld i H x H'->g x σ H' λσ2 H2=>tb { D with nx:=N,ct:=N,bk:=D.nx } σ2 H2):=by
 exists λi m σ H=>m=xs.length - i/\i<=xs.length/\Pv i σ H,⟨xs.length,⋯,Nat.zero_le _,h0⟩,?_;rintro i m σ H ⟨rfl,hi,p⟩;have q:=hl i σ H hi p
 by_cases hlt:i < xs.length
 .refine .inr ⟨⟨xs,xs[i],q,by simp[hlt]⟩,Pv (i+1),λσ' H' p'=>⟨xs.length - (i+1),(),rfl,hlt,p'⟩,λx H' y=>?_⟩;obtain⟨e,y⟩:=y;subst e;exact hs i x σ _ (y xs q) p
 .have e:i=xs.length:=by lia
  subst e;exact .inl ⟨⟨xs,q,Nat.le_refl _⟩,hd σ H p⟩
theorem Xf {K:Frag}{g:TG}{tb:TS}{D:kE}(Pv:Nat->St->Hp->Prop)(h0:Pv 0 σ H)(hl:∀i σ H,i<=xs.length->Pv i σ H->SqT K H a xs)(hs:∀i x σ H,xs[i]?=some x->Pv i σ H->g x σ H λσ2 H2=>tb { D with nx:=Pv (i+1),ct:=Pv (i+1),bk:=D.nx } σ2 H2)(hd:∀σ H,Pv xs.length σ H->D.nx σ H):
  ∃W:Nat->Nat->St->Hp->Prop,(∃m,W 0 m σ H)/\∀i m σ H,W i m σ H->
   ((Itt K a).stop i H/\D.nx σ H)\/((Itt K a).go i H/\∃N:St->Hp->Prop,(∀σ' H',N σ' H'->∃m',m' < m/\W (i+1) m' σ' H')/\∀x H',(Itt K a).yld i H x H'->g x σ H' λσ2 H2=>tb { D with nx:=N,ct:=N,bk:=D.nx } σ2 H2):=by
 exists λi m σ H=>m=xs.length - i/\i<=xs.length/\Pv i σ H,⟨xs.length,⋯,Nat.zero_le _,h0⟩,?_;rintro i m σ H ⟨rfl,hi,p⟩;have q:=hl i σ H hi p
 by_cases hlt:i < xs.length
 .refine .inr ⟨⟨xs,xs[i],q,by simp[hlt]⟩,Pv (i+1),λσ' H' p'=>⟨xs.length - (i+1),(),rfl,hlt,p'⟩,λx H' y=>?_⟩;obtain⟨e,y⟩:=y;subst e;exact hs i x σ _ (y xs q) p
 .have e:i=xs.length:=by lia
  subst e;exact .inl ⟨⟨xs,q,Nat.le_refl _⟩,hd σ H p⟩
theorem mC {lo:Int}{g:TG}{tb:TS}{D:kE}(Pv:Nat->St->Hp->Prop)(h0:Pv 0 σ H)(hs:∀i σ H,i < n->Pv i σ H->g (.int (lo+i)) σ H λσ2 H2=>tb { D with nx:=Pv (i+1),ct:=Pv (i+1),bk:=D.nx } σ2 H2)(hd:∀σ H,Pv n σ H->D.nx σ H):
  ∃W:Nat->Nat->St->Hp->Prop,(∃m,W 0 m σ H)/\∀i m σ H,W i m σ H->
   ((Itr lo n).stop i H/\D.nx σ H)\/((Itr lo n).go i H/\∃N:St->Hp->Prop,(∀σ' H',N σ' H'->∃m',m' < m/\W (i+1) m' σ' H')/\∀x H',(Itr lo n).yld i H x H'->g x σ H' λσ2 H2=>tb { D with nx:=N,ct:=N,bk:=D.nx } σ2 H2):=by
 exists λi m σ H=>m=n - i/\i<=n/\Pv i σ H,⟨n,⋯,Nat.zero_le _,h0⟩,?_;rintro i m σ H ⟨rfl,hi,p⟩
 by_cases hlt:i < n
 .refine .inr ⟨hlt,Pv (i+1),λσ' H' p'=>⟨n - (i+1),(),rfl,hlt,p'⟩,λx H' y=>?_⟩;obtain⟨e,y⟩:=y;subst e y;exact hs i σ _ hlt p
 .have e:i=n:=by lia
  subst e;exact .inl ⟨Nat.le_refl _,hd σ H p⟩
theorem wF (Pv:St->Hp->Prop)(μ:St->Hp->Nat)(h0:Pv σ H)(hs:∀σ H,Pv σ H->c σ H λb H1=>if b=true then tb { D with nx:=λσ' H'=>Pv σ' H'/\μ σ' H' < μ σ H,ct:=λσ' H'=>Pv σ' H'/\μ σ' H' < μ σ H,bk:=D.nx } σ H1 else D.nx σ H1)(mono:∀σ H Q Q',(∀b H1,Q b H1->Q' b H1)->c σ H Q->c σ H Q'):Tf c tb D σ H:=by
 exists λm σ H=>m=μ σ H/\Pv σ H,⟨_,rfl,h0⟩,?_;rintro m σ H ⟨rfl,p⟩;refine mono σ H _ _ (λb H1 q=>?_) (hs σ H p)
 cases b with
 |true=>exact⟨_,λσ' H' ⟨p',l⟩=>⟨_,l,rfl,p'⟩,q⟩
 |false=>exact q
abbrev R2:=V->V->Hp->VK->Prop
def OpR (X:Cx)(f:Value->Value->Sem Value)(r:R2):Prop:=
 ∀(pins:List (Addr × Obj)) (s:Shared) (σ:St) (H:Hp) (x y:V) (v u:Value) (Q:VK),Inv X pins σ H s->cN x v->cN y u->r x y H Q->
  zzW X (f v u) (EP X pins σ Q) X.xe s
def UnR (X:Cx)(f:Value->Sem Value)(r:V->Hp->VK->Prop):Prop:=
 ∀(pins:List (Addr × Obj)) (s:Shared) (σ:St) (H:Hp) (x:V) (v:Value) (Q:VK),Inv X pins σ H s->cN x v->r x H Q->
  zzW X (f v) (EP X pins σ Q) X.xe s
def lQ (X:Cx)(f:Value)(r:wk->Hp->VK->Prop):Prop:=
 ∀(pins:List (Addr × Obj)) (s:Shared) (σ:St) (H:Hp) (xs:wk) (us:List Value) (Q:VK),Inv X pins σ H s->cJ xs us->r xs H Q->
  zzW X (call f us) (EP X pins σ Q) X.xe s
def tOp (r:R2)(ta tb:TE):TE:=λσ H Q=>ta σ H λx H1=>tb σ H1 λy H2=>r x y H2 Q
def tUn (r:V->Hp->VK->Prop)(ta:TE):TE:=λσ H Q=>ta σ H λx H1=>r x H1 Q
inductive rI (C:Int->Int->Prop) (g:Int->Int->V) (x:V) (y:V) (H:Hp) (Q:VK):Prop where
 |mk (i j):x=.int i->y=.int j->C i j->Q (g i j) H->rI C g x y H Q
inductive rI0 (g:Int->Int->V) (x:V) (y:V) (H:Hp) (Q:VK):Prop where
 |mk (i j):x=.int i->y=.int j->Q (g i j) H->rI0 g x y H Q
inductive rU (g:Int->V) (x:V) (H:Hp) (Q:VK):Prop where
 |mk (i):x=.int i->Q (g i) H->rU g x H Q
section
variable {X:Cx} {a b c:Expr} {ta tb tc:TE} {pos:Pos}
theorem qa7 (ha:PE X a ta)(hb:PE X b tb){R:V->V->Hp->Prop}(I:Inv X pins σ H s)(h:ta σ H λx H1=>tb σ H1 λy H2=>R x y H2){f:Value->Value->Sem Value}(hf:∀v u s2 x y H2,Inv X pins σ H2 s2->cN x v->cN y u->R x y H2->zzW X (f v u) Q X.xe s2):
  zzW X (eval a X.env) (λv s₁=>zzW X (eval b X.env) (λu s₂=>zzW X (f v u) Q X.xe s₂) X.xe s₁) X.xe s:=by
 refine thn (ha pins s σ H _ I h) λv s1 ⟨x,H1,I1,r1,q1⟩=>?_;refine thn (hb pins s1 σ H1 _ I1 q1) λu s2 ⟨y,H2,I2,r2,q2⟩=>?_;exact hf v u s2 x y H2 I2 r1 r2 q2
theorem bC (ho:OpR X (binaryOp op) r)(ha:PE X a ta)(hb:PE X b tb):PE X (.BinOp a op b pos) (tOp r ta tb):=by
 intro pins s σ H Q I h;exact wpAny_BinOp (qa7 ha hb I h λv u s2 x y H2 I2 rx ry q=>ho pins s2 σ H2 x y v u Q I2 rx ry q)
theorem zJ (ho:UnR X (unaryOp op) r)(ha:PE X a ta):PE X (.UnaryOp op a pos) (tUn r ta):=by
 intro pins s σ H Q I h;exact UnaryOp_ (thn (ha pins s σ H _ I h) λv s1 ⟨x,H1,I1,r1,q1⟩=>ho pins s1 σ H1 x v Q I1 r1 q1)
theorem opI {g:Int->Int->Int}(rule:∀(i j:Int) (t u:Tok) (s:Shared) (Q:Value->Shared->Prop) (E:Value->Shared->Prop),C i j->Q (.int (g i j) s.toks) { s with toks:=s.toks+1 }->zzW X (f (.int i t) (.int j u)) Q E s):
  OpR X f (rI C λi j=>.int (g i j)):=by
 intro pins s σ H x y v u Q I rx ry h;obtain⟨i,j,rfl,rfl,hc,q⟩:=h;obtain⟨t,rfl⟩:=rx;obtain⟨t',rfl⟩:=ry;exact rule i j t t' s _ _ hc ⟨.int (g i j),H,I.tok _,⟨_,rfl⟩,q⟩
theorem qr9 {g:Int->Int->Int}(rule:∀(i j:Int) (t u:Tok) (s:Shared) (Q:Value->Shared->Prop) (E:Value->Shared->Prop),Q (.int (g i j) s.toks) { s with toks:=s.toks+1 }->zzW X (f (.int i t) (.int j u)) Q E s):
  OpR X f (rI0 λi j=>.int (g i j)):=by
 intro pins s σ H x y v u Q I rx ry h;obtain⟨i,j,rfl,rfl,q⟩:=h;obtain⟨t,rfl⟩:=rx;obtain⟨t',rfl⟩:=ry;exact rule i j t t' s _ _ ⟨.int (g i j),H,I.tok _,⟨_,rfl⟩,q⟩
theorem qj8 {g:Int->Int->Bool}(rule:∀(i j:Int) (t u:Tok) (s:Shared) (Q:Value->Shared->Prop) (E:Value->Shared->Prop),Q (.bool (g i j)) s->zzW X (f (.int i t) (.int j u)) Q E s):
  OpR X f (rI0 λi j=>.bl (g i j)):=by
 intro pins s σ H x y v u Q I rx ry h;obtain⟨i,j,rfl,rfl,q⟩:=h;obtain⟨t,rfl⟩:=rx;obtain⟨t',rfl⟩:=ry;exact rule i j t t' s _ _ ⟨.bl (g i j),H,I,rfl,q⟩
def qs9 (i j:Int):Prop:=0 < j/\j < 1073741824
def qi3 (i j:Int):Prop:=(-(2 ^ 64) < i/\i < 2 ^ 64)\/(-(2 ^ 64) < j/\j < 2 ^ 64)
theorem qi3.ok (h:qi3 i j):IntMulOk i j:=by
 rcases h with ⟨h1,h2⟩ | ⟨h1,h2⟩
 .exact .of_left (intBits_le_64 h1 h2)
 .exact .of_right (intBits_le_64 h1 h2)
theorem gF:OpR X (binaryOp .Add) (rI0 λi j=>.int (i+j)):=qr9 λ_ _ _ _ _ _ _ q=>add_int q
theorem jC:OpR X (binaryOp .Sub) (rI0 λi j=>.int (i - j)):=qr9 λ_ _ _ _ _ _ _ q=>sub_int q
theorem lB:OpR X (binaryOp .Mult) (rI qi3 λi j=>.int (i*j)):=opI λ_ _ _ _ _ _ _ hc q=>mul_int q hc.ok
theorem Bu:OpR X (binaryOp .FloorDiv) (rI qs9 λi j=>.int (i / j)):=opI λi j _ _ _ _ _ hc q=>by
 have h1:(0:Int) < j:=hc.1;have h2:j < 1073741824:=hc.2;exact floordiv_int () (by rw[Int.fdiv_eq_ediv_of_nonneg i ()];exact q) (.inl (PyProof.noPylong_small ()))
theorem gG:OpR X (binaryOp .Mod) (rI (λ_ j=>0 < j) λi j=>.int (i % j)):=opI λi j _ _ _ _ _ hc q=>by
 have h1:(0:Int) < j:=hc;exact mod_int' () (by rw[Int.fmod_eq_emod_of_nonneg i ()];exact q)
theorem vO:OpR X (binaryOp .Mod) (rI (λ_ j=>j≠0) λi j=>.int (i.fmod j)):=opI λ_ _ _ _ _ _ _ hc q=>mod_int' hc q
theorem unI {g:Int->Int}(rule:∀(i:Int) (t:Tok) (s:Shared) (Q:Value->Shared->Prop) (E:Value->Shared->Prop),Q (.int (g i) s.toks) { s with toks:=s.toks+1 }->zzW X (f (.int i t)) Q E s):
  UnR X f (rU λi=>.int (g i)):=by
 intro pins s σ H x v Q I rx h;obtain⟨i,rfl,q⟩:=h;obtain⟨t,rfl⟩:=rx;exact rule i t s _ _ ⟨.int (g i),H,I.tok _,⟨_,rfl⟩,q⟩
theorem rW:UnR X (unaryOp .USub) (rU λi=>.int (-i)):=unI λ_ _ _ _ _ q=>neg_int q
end
def qn7:V->V->Bool
 | .non,.non=>true | .non,.int _=>true | .int _,.non=>true | .non,.bl _=>true | .bl _,.non=>true | .non,.str _=>true | .str _,.non=>true
 | .int _,.int _=>true | .bl _,.bl _=>true | .str _,.str _=>true | .byt _,.byt _=>true
 | .int _,.str _=>true | .str _,.int _=>true | .bl _,.str _=>true | .str _,.bl _=>true
 |_,_=>false
def rEq:R2:=λx y H Q=>qn7 x y=true/\Q (.bl (decide (x=y))) H
def rNe:R2:=λx y H Q=>qn7 x y=true/\Q (.bl (!decide (x=y))) H
theorem Ks:decide (V.int i=V.int j)=(i == j):=by
 rw[Bool.eq_iff_iff];simp
theorem Sd:decide (V.bl i=V.bl j)=(i == j):=by
 rw[Bool.eq_iff_iff];simp
theorem Ll:decide (V.str i=V.str j)=(i == j):=by
 rw[Bool.eq_iff_iff];simp
theorem Lu:decide (V.byt i=V.byt j)=(i.toList == j.toList):=by
 rw[Bool.eq_iff_iff]
 cases i
 cases j
 simp
section
variable {X:Cx} {a b c:Expr} {ta tb tc:TE} {pos:Pos}
theorem dQ (I:Inv X pins σ H s)(q:Q (.bl k) H)(e:k=k'):EP X pins σ Q (.bool k') s:=by
 subst e;exists .bl k,H,I,rfl,q
theorem dY:OpR X (compareOp .Eq) rEq:=by
 intro pins s σ H x y v u Q I rx ry h;obtain⟨hs,q⟩:=h
 cases x with
 |non=>
  cases rx
  cases y with
  |non=>cases ry;exact PySem.EqNone.eq_none_none (dQ I q ⋯)
  |bl j=>cases ry;exact PySem.EqNone.eq_none_bool (dQ I q ⋯)
  |int j=>obtain⟨t',rfl⟩:=ry;exact PySem.EqNone.eq_none_int (dQ I q ⋯)
  |str j=>obtain⟨t',rfl⟩:=ry;exact PySem.EqNone.eq_none_str (dQ I q ⋯)
  |_=>exact absurd (show false=true from hs) Bool.false_ne_true
 |bl i=>
  cases rx
  cases y with
  |non=>cases ry;exact PySem.EqNone.eq_bool_none (dQ I q ⋯)
  |bl j=>cases ry;exact eq_bool (dQ I q Sd)
  |str j=>obtain⟨t',rfl⟩:=ry;exact PySem.EqMixed.eq_bool_str (dQ I q ⋯)
  |_=>exact absurd (show false=true from hs) Bool.false_ne_true
 |int i=>
  obtain⟨t,rfl⟩:=rx
  cases y with
  |non=>cases ry;exact PySem.EqNone.eq_int_none (dQ I q ⋯)
  |int j=>obtain⟨t',rfl⟩:=ry;exact eq_int (dQ I q Ks)
  |str j=>obtain⟨t',rfl⟩:=ry;exact PySem.EqMixed.eq_int_str (dQ I q ⋯)
  |_=>exact absurd (show false=true from hs) Bool.false_ne_true
 |str i=>
  obtain⟨t,rfl⟩:=rx
  cases y with
  |non=>cases ry;exact PySem.EqNone.eq_str_none (dQ I q ⋯)
  |bl j=>cases ry;exact PySem.EqMixed.eq_str_bool (dQ I q ⋯)
  |int j=>obtain⟨t',rfl⟩:=ry;exact PySem.EqMixed.eq_str_int (dQ I q ⋯)
  |str j=>obtain⟨t',rfl⟩:=ry;exact eq_str (dQ I q Ll)
  |_=>exact absurd (show false=true from hs) Bool.false_ne_true
 |byt i=>
  obtain⟨t,rfl⟩:=rx
  cases y with
  |byt j=>obtain⟨t',rfl⟩:=ry;exact W.eq_bytes (dQ I q Lu)
  |_=>exact absurd (show false=true from hs) Bool.false_ne_true
 |_=>cases y<;>exact absurd (show false=true from hs) Bool.false_ne_true
theorem jL:OpR X (compareOp .NotEq) rNe:=by
 intro pins s σ H x y v u Q I rx ry h;obtain⟨hs,q⟩:=h
 cases x with
 |non=>
  cases rx
  cases y with
  |non=>cases ry;exact PySem.EqNone.ne_none_none (dQ I q ⋯)
  |bl j=>cases ry;exact PySem.EqNone.ne_none_bool (dQ I q ⋯)
  |int j=>obtain⟨t',rfl⟩:=ry;exact PySem.EqNone.ne_none_int (dQ I q ⋯)
  |str j=>obtain⟨t',rfl⟩:=ry;exact PySem.EqNone.ne_none_str (dQ I q ⋯)
  |_=>exact absurd (show false=true from hs) Bool.false_ne_true
 |bl i=>
  cases rx
  cases y with
  |non=>cases ry;exact PySem.EqNone.ne_bool_none (dQ I q ⋯)
  |bl j=>cases ry;exact ne_bool (dQ I q (congrArg not Sd))
  |str j=>obtain⟨t',rfl⟩:=ry;exact PySem.EqMixed.ne_bool_str (dQ I q ⋯)
  |_=>exact absurd (show false=true from hs) Bool.false_ne_true
 |int i=>
  obtain⟨t,rfl⟩:=rx
  cases y with
  |non=>cases ry;exact PySem.EqNone.ne_int_none (dQ I q ⋯)
  |int j=>obtain⟨t',rfl⟩:=ry;exact ne_int (dQ I q (congrArg not Ks))
  |str j=>obtain⟨t',rfl⟩:=ry;exact PySem.EqMixed.ne_int_str (dQ I q ⋯)
  |_=>exact absurd (show false=true from hs) Bool.false_ne_true
 |str i=>
  obtain⟨t,rfl⟩:=rx
  cases y with
  |non=>cases ry;exact PySem.EqNone.ne_str_none (dQ I q ⋯)
  |bl j=>cases ry;exact PySem.EqMixed.ne_str_bool (dQ I q ⋯)
  |int j=>obtain⟨t',rfl⟩:=ry;exact PySem.EqMixed.ne_str_int (dQ I q ⋯)
  |str j=>obtain⟨t',rfl⟩:=ry;exact ne_str (dQ I q (congrArg not Ll))
  |_=>exact absurd (show false=true from hs) Bool.false_ne_true
 |byt i=>
  obtain⟨t,rfl⟩:=rx
  cases y with
  |byt j=>obtain⟨t',rfl⟩:=ry;exact W.ne_bytes (dQ I q (congrArg not Lu))
  |_=>exact absurd (show false=true from hs) Bool.false_ne_true
 |_=>cases y<;>exact absurd (show false=true from hs) Bool.false_ne_true
theorem yJ:OpR X (compareOp .Lt) (rI0 λi j=>.bl (decide (i < j))):=qj8 λ_ _ _ _ _ _ _ q=>lt_int q
theorem uL:OpR X (compareOp .Gt) (rI0 λi j=>.bl (decide (j < i))):=qj8 λ_ _ _ _ _ _ _ q=>gt_int q
theorem Ma:OpR X (compareOp .GtE) (rI0 λi j=>.bl (decide (j<=i))):=qj8 λ_ _ _ _ _ _ _ q=>ge_int q
theorem bM (b:Expr)(h:op≠.In:=by decide)(h2:op≠.NotIn:=by decide):behindInMarks op b=false:=by
 have e1:(op == CmpOp.In)=false:=by cases op<;>first | rfl | exact absurd rfl h
 have e2:(op == CmpOp.NotIn)=false:=by cases op<;>first | rfl | exact absurd rfl h2
 cases b<;>simp[behindInMarks,e1,e2]
theorem fU (ho:OpR X (compareOp op) r)(ha:PE X a ta)(hb:PE X b tb)(hm:behindInMarks op b=false):PE X (.Compare a [op] [b] pos) (tOp r ta tb):=by
 intro pins s σ H Q I h;exact wpAny_Compare1 (qa7 ha hb I h λv u s2 x y H2 I2 rx ry q=>ho pins s2 σ H2 x y v u Q I2 rx ry q) hm
def qm5 (t:TE):TT:=λσ H Q=>t σ H λx H'=>BlT x λk=>Q k H'
theorem bK (ho:OpR X (compareOp op) r)(ha:PE X a ta)(hb:PE X b tb)(hm:behindInMarks op b=false):PT X (.Compare a [op] [b] pos) (qm5 (tOp r ta tb)):=by
 intro pins s σ H Q I h;refine wpAny_isTrue_Compare1 (thn (ha pins s σ H _ I h) λv s1 ⟨x,H1,I1,r1,q1⟩=>thn (hb pins s1 σ H1 _ I1 q1) λu s2 ⟨y,H2,I2,r2,q2⟩=>
  thn (ho pins s2 σ H2 x y v u _ I2 r1 r2 q2) λc s3 ⟨z,H3,I3,r3,k,e,q3⟩=>?_) hm
 subst e
 cases r3
 exact wpAny_truthy_bool ⟨H3,I3,q3⟩
theorem Cs:(sizeLine:Nat) < 2 ^ 63:=by rw[sizeLine_eq];decide
theorem rT (r:cJ [x] us):∃u,us=[u]/\cN x u:=by
 cases r with
 |cons r1 r2=>cases r2;exists _,rfl,r1
theorem Rq (r:cJ [x,y] us):∃u w',us=[u,w']/\cN x u/\cN y w':=by
 cases r with
 |cons r1 r2=>
  cases r2 with
  |cons r3 r4=>cases r4;exists _,_,rfl,r1,r3
theorem Gg:lQ X (.builtin "abs") (λxs H Q=>∃i,xs=[.int i]/\Q (.int (if i < 0 then -i else i)) H):=by
 intro pins s σ H xs us Q I r h;obtain⟨i,rfl,q⟩:=h;obtain⟨u,rfl,t,rfl⟩:=rT r;exact call_abs_int λu tk=>⟨.int (if i < 0 then -i else i),H,I.tok _,⟨_,rfl⟩,q⟩
theorem Oq (hc:X.calm=true):lQ X (.builtin "min") (λxs H Q=>∃i j,xs=[.int i,.int j]/\Q (.int (if j < i then j else i)) H):=by
 intro pins s σ H xs us Q I r h;obtain⟨i,j,rfl,q⟩:=h;obtain⟨u,w',rfl,⟨t,rfl⟩,⟨t',rfl⟩⟩:=Rq r;refine min_two_ints (I.ok.hd hc) λh' tk k=>⟨_,H,I.kept k,?_,q⟩
 by_cases hj:j < i
 .rw[if_pos hj,if_pos hj];exists _,rfl
 .rw[if_neg hj,if_neg hj];exists _,rfl
theorem Os:lQ X (.type "int") (λxs H Q=>(∃i,xs=[.int i]/\Q (.int i) H)\/∃k,xs=[.bl k]/\Q (.int (if k then 1 else 0)) H):=by
 intro pins s σ H xs us Q I r h;rcases h with ⟨i,rfl,q⟩ | ⟨k,rfl,q⟩
 .obtain⟨u,rfl,t,rfl⟩:=rT r;exact call_int_int ⟨.int i,H,I,⟨_,rfl⟩,q⟩
 .obtain⟨u,rfl,r1⟩:=rT r
  cases r1
  exact call_int_bool ⟨.int (if k then 1 else 0),H,I.tok _,⟨_,rfl⟩,q⟩
end
structure Iv (h:Heap) (x dx C:Addr) (mA:Str->Option Value):Prop where
 obj:h.get? x=some (W.instObj C dx)
 ns:h.Ns1 dx mA
 ne:dx≠x
theorem zG {h:Heap}(n:h.Ns1 dx mA):∃od,h.get? dx=some od/\∀name,W.lookIn name od=some (mA name):=by
 obtain⟨o,es,ep,ho,hd,hk,_,hm⟩:=n;exists o,ho,λname=>?_;have e:=hm name;unfold nsFind findBy at e;rw[<- Array.find?_toList] at e;unfold W.lookIn;rw[hd];dsimp only;split
 .rename_i y q
  rw[q] at e;exact congrArg some e
 .rename_i q
  rw[q] at e;have a:es.toList.any (·.refKey)=false:=by
   rw[any_eq_false];intro y hy;obtain⟨z,t,hkey⟩:=hk y (Array.mem_toList_iff.mp hy);simp[DictEntry.refKey,hkey]
  have a':¬es.toList.any (·.refKey)=true:=by rw[a];exact Bool.false_ne_true
  rw[if_neg a'];exact congrArg some e
theorem Iv.look (I:Iv h x dx C mA):∃od,W.InstAt h x (W.instObj C dx) C (some od)/\∀name,W.lookIn name od=some (mA name):=
 let ⟨od,ho,hl⟩:=zG I.ns
 ⟨od,⟨I.obj,rfl,rfl,ho⟩,hl⟩
section
variable {prog:Program} {w:World} {A:Around} {E:Value->Shared->Prop} {s:Shared} {K:Frag} {x dx C f:Addr} {mA:Str->Option Value} {name:Str} {v:Value}
theorem kL {expr:Bool}{Q:Value->Shared->Prop}(X:K.In s.heap)(I:Iv s.heap x dx C mA)(hg:W.plainGet K C name=true)(hh:W.hasDictIn K C=true)(ha:W.findIn K (.ref C) name=some none)(hv:mA name=some v)(hv':W.handedIn v=true)(h:Q v { s with toks:=s.toks+1 }) :
  wpAny (model prog w) A (getAttr (.ref x) name expr) Q E s:=by
 obtain⟨od,J,hl⟩:=I.look;exact W.get_value X J (W.plainGet_of hg).1 (W.findObj_own hh ha rfl (by rw[hl,hv])) hv' h
theorem Qa (X:K.In s.heap)(I:Iv s.heap x dx C mA)(hg:W.plainGet K C name=true)(hf:W.findIn K (.ref C) name=some (some (.ref f)))(ht:W.isFn K (.ref f)=true)(hv:mA name=none)(h:Q (.ref f,[.ref x]) s):
  wpAny (model prog w) A (getMethod (.ref x) name pl) Q E s:=by
 obtain⟨od,J,hl⟩:=I.look;exact W.method_fn X J (W.plainGet_of hg).1 (W.plainGet_of hg).2 hf (beq_iff_eq.mp ht) (by show (W.lookIn name od).map (·.isSome)=some false;rw[hl,hv];rfl) h
theorem Wg (X:K.In s.heap)(I:Iv s.heap x dx C mA)(hs:W.findIn K (.ref C) "__setattr__"=some (some (.builtin "object.__setattr__")))(hp:W.plainOver K C=true)(ht:W.takerIn K C name=some none)(hh:W.hasDictIn K C=true)(hw:PySem.Within mA ns)(hsz:ns.length<=sizeLine)(h:∀h',Iv h' x dx C (λy=>if y=name then some v else mA y)->Heap.SameBut dx s.heap h'->Q .unit { s with heap:=h',toks:=s.toks+2 }):
  wpAny (model prog w) A (setAttr (.ref x) name v) Q E s:=by
 obtain⟨od,J,hl⟩:=I.look;refine W.set_plain X J hs (W.osa_open (s:={ s with toks:=s.toks+1 }) (r:=none) X J hp ht λb=>?_);obtain⟨cd,hc,hd'⟩:=W.any_some hh;have hx:s.heap.get? x=some ⟨.ref C,some dx,.plain,#[]⟩:=I.obj;refine wpAny_bind (wpAny_pure (wpAny_bind (wpAny_bind (wpAny_loadPart hx (wpAny_bind (W.Looks.here (s:={ s with toks:=s.toks+1 }) (W.looks_clsIn X hc) ?_))))));rw[hd'];refine wpAny_pure (a:=some dx) (wpAny_bind (wpAny_pure (wpAny_bind ?_)));refine wpAny_nsSet1 (s:={ s with toks:=s.toks+1 }) I.ns λh' hn2 hs2=>?_;obtain⟨oD,esD,epD,hoD,hdD,hcD⟩:=hn2.count (PySem.Within.cons name v hw);refine wpAny_bind (wpAny_lookBehind hoD (by rw[hdD];exact pastItsLine_dict (Nat.le_trans hcD (by rw[length_cons];lia))) ?_);exact wpAny_pure (h _ ⟨(hs2.2 _ (Ne.symm I.ne)).trans I.obj,hn2,I.ne⟩ hs2)
theorem Gc (X:K.In s.heap)(hm:W.makesIn K C=true)(hi:W.findIn K (.ref C) "__init__"=some (some (.ref f)))(hf:W.typeIn K (.ref f)=some (.type "function"))(h:codeAny (model prog w) (A.under (.builtin "type.__call__" ⟨.ref C :: vs,kw⟩)) (.call (.ref f) ⟨.ref (s.heap.objs.size+1) :: vs,kw⟩) (W.InitBack (s.heap.objs.size+1) R)
   { s with heap:=(s.heap.push W.emptyDict).push (W.instObj C s.heap.objs.size) }):
  codeAny (model prog w) A (.call (.ref C) ⟨vs,kw⟩) R s:=by
 obtain⟨hh,g,d,t,os⟩:=s;exact W.make_core (W.makes_of X hm) (W.looks_findIn X hi) (λself=>W.bind_fn X self hf) (.inl rfl) h
end
def gD (f:Str)(v:V):List (Str × V)->List (Str × V)
 | []=>[(f,v)]
 | (g,x) :: r=>if g=f then (g,v) :: r else (g,x) :: gD f v r
theorem bY (f g:Str)(v:V):∀fs:List (Str × V),(gD f v fs).lookup g=if g=f then some v else fs.lookup g
 | []=>by
  show List.lookup g [(f,v)]=_
  by_cases h:g=f
  .have hb:(g == f)=true:=beq_iff_eq.mpr h;simp only[List.lookup,hb,if_pos h]
  .have hb:(g == f)=false:=beq_eq_false_iff_ne.mpr h;simp only[List.lookup,hb,if_neg h]
 | (k,x) :: r=>by
  have ih:=bY f g v r;rw[show gD f v ((k,x) :: r)=(if k=f then (k,v) :: r else (k,x) :: gD f v r) from rfl]
  by_cases hk:k=f
  .rw[if_pos hk]
   by_cases h:g=k
   .have hb:(g == k)=true:=beq_iff_eq.mpr h;simp only[List.lookup,hb,if_pos (h.trans hk)]
   .have hb:(g == k)=false:=beq_eq_false_iff_ne.mpr h;simp only[List.lookup,hb,if_neg (λe:g=f=>h (e.trans hk.symm))]
  .rw[if_neg hk]
   by_cases h:g=k
   .have hb:(g == k)=true:=beq_iff_eq.mpr h;simp only[List.lookup,hb,if_neg (λe:g=f=>hk (h.symm.trans e))]
   .have hb:(g == k)=false:=beq_eq_false_iff_ne.mpr h;simp only[List.lookup,hb];exact ih
theorem uE (f:Str)(v:V):∀fs:List (Str × V),f∈(gD f v fs).map (·.1)/\∀g,g∈fs.map (·.1)->g∈(gD f v fs).map (·.1)
 | []=>⟨by simp[gD],λg h=>by simp at h⟩
 | (k,x) :: r=>by
  obtain⟨i1,i2⟩:=uE f v r;rw[show gD f v ((k,x) :: r)=(if k=f then (k,v) :: r else (k,x) :: gD f v r) from rfl]
  by_cases hk:k=f
  .rw[if_pos hk];subst hk;exists ⋯,λg h=>by simpa using h
  .rw[if_neg hk];exists ?_,λg h=>?_
   .rw[map_cons];exact mem_cons_of_mem _ i1
   .rw[map_cons] at h ⊢;rcases mem_cons.mp h with e | e
    .exact mem_cons.mpr (.inl e)
    .exact mem_cons_of_mem _ (i2 g e)
theorem gJ (f:Str)(v:V):∀fs:List (Str × V),(gD f v fs).length<=fs.length+1
 | []=>by simp[gD]
 | (k,x) :: r=>by
  have ih:=gJ f v r;rw[show gD f v ((k,x) :: r)=(if k=f then (k,v) :: r else (k,x) :: gD f v r) from rfl]
  by_cases hk:k=f
  .rw[if_pos hk,length_cons,length_cons];lia
  .rw[if_neg hk,length_cons,length_cons];lia
theorem kR.some_of (r:kR (some v) o):∃u,o=some u/\cN v u:=by
 cases o with
 |none=>exact(show False from r).elim
 |some u=>exact⟨u,rfl,r⟩
theorem kR.none_of (r:kR none o):o=none:=by
 cases o with
 |none=>rfl
 |some u=>exact(show False from r).elim
theorem zK (r:cN v u):W.handedIn u=true:=by
 cases v with
 |non=>cases (show u=Value.none from r);rfl
 |bl b=>cases (show u=Value.bool b from r);rfl
 |int i=>obtain⟨t,e⟩:=(show ∃t,u=Value.int i t from r);cases e;rfl
 |str x=>obtain⟨t,e⟩:=(show ∃t,u=Value.str x t from r);cases e;rfl
 |byt b=>obtain⟨t,e⟩:=(show ∃t,u=Value.bytes b t from r);cases e;rfl
 |flt b=>obtain⟨t,e⟩:=(show ∃t,u=Value.float b t from r);cases e;rfl
 |ref a=>cases (show u=Value.ref a from r);rfl
 |ty n=>cases (show u=Value.type n from r);rfl
section
variable {P:Program} {w:World} {H H':Hp} {h h':Heap} {a C dx:Addr} {fs fs':List (Str × V)}
theorem vQ (hok:HOk P w H h)(e:H a=some (.ins C dx fs)):∃mA,Iv h a dx C mA/\(∀f,kR (fs.lookup f) (mA f))/\PySem.Within mA (fs.map (·.1))/\fs.length<=1000/\H dx=some (.own a):=by
 obtain⟨d,z,ne,ob,mA,n,r,q⟩:=(show dP P w H h a (.ins C dx fs) from hok a _ e)
 exists mA,⟨ob,n,ne⟩,r,q,z,d
end
structure Cls (K:Frag) (C:Addr):Prop where
 pg:W.plainGet K C Str.empty=true
 hd:W.hasDictIn K C=true
 po:W.plainOver K C=true
 sa:W.findIn K (.ref C) "__setattr__"=some (some (.builtin "object.__setattr__"))
theorem Cls.get {K:Frag}(c:Cls K C)(f:Str):W.plainGet K C f=true:=c.pg
def iN (K:Frag)(C:Addr)(f:Str):Prop:=W.findIn K (.ref C) f=some none
theorem iN.taker {K:Frag}(n:iN K C f):W.takerIn K C f=some none:=by
 unfold W.takerIn;rw[show W.findIn K (.ref C) f=some none from n];rfl
structure iG (K:Frag) (C:Addr) (m:Str) (f:Addr):Prop where
 at_:W.findIn K (.ref C) m=some (some (.ref f))
 fn:W.isFn K (.ref f)=true
 kp:W.keepIn K (.ref f)=true
section
variable {X:Cx} {pins:List (Addr × Obj)} {σ:St} {H:Hp} {s:Shared} {a C dx:Addr} {fs:List (Str × V)} {f:Str} {v:V} {A:Around} {E:Value->Shared->Prop}
theorem Ik (I:Inv X pins σ H s)(e:H a=some (.ins C dx fs))(c:Cls X.K C)(n:iN X.K C f)(l:fs.lookup f=some v)(h:∀u s',Inv X pins σ H s'->cN v u->Q u s'):wpAny (model X.prog X.w) A (getAttr (.ref a) f b) Q E s:=by
 obtain⟨mA,O,r,_,_,_⟩:=vQ I.hok e;obtain⟨u,hu,ru⟩:=kR.some_of (v:=v) (o:=mA f) (by rw[<- l];exact r f);exact kL I.kIn O (c.get f) c.hd n hu (zK ru) (h u _ (I.tok _) ru)
theorem mQ (I:Inv X pins σ H s)(e:H a=some (.ins C dx fs))(c:Cls X.K C)(k:iG X.K C m g)(l:fs.lookup m=none)(h:Q (.ref g,[.ref a]) s):wpAny (model X.prog X.w) A (getMethod (.ref a) m pl) Q E s:=by
 obtain⟨mA,O,r,_,_,_⟩:=vQ I.hok e;have hn:mA m=none:=kR.none_of (by rw[<- l];exact r m);exact Qa I.kIn O (c.get m) k.at_ k.fn hn h
theorem Jz (I:Inv X pins σ H s)(e:H a=some (.ins C dx fs))(c:Cls X.K C)(n:iN X.K C f)(hl:fs.length < 1000)(ry:cN y u)(h:∀s',Inv X pins σ (upd H a (.ins C dx (gD f y fs))) s'->Q .unit s'):wpAny (model X.prog X.w) A (setAttr (.ref a) f u) Q E s:=by
 obtain⟨mA,O,r,wi,_,ho⟩:=vQ I.hok e;have hz:(fs.map (·.1)).length<=sizeLine:=by rw[length_map,sizeLine_eq];lia
 refine Wg I.kIn O c.sa c.po n.taker c.hd wi hz λh' O' sb=>h _ ?_;have hd:∃o,h'.get? dx=some o:=let ⟨o,_,_,e',_⟩:=O'.ns;⟨o,e'⟩
 refine I.write (x:=a) (e:=dx) (by rw[e];exact True.intro) (.inr ho) (λb q hb z=>(sb.2 b hb).trans z) hd ?_;exists by rw[aV O.ne];exact ho,?_,O.ne,O'.obj,_,O'.ns,λg=>?_,λg hg=>?_
 .have:=gJ f y fs;lia
 .show kR ((gD f y fs).lookup g) (if g=f then some u else mA g);rw[bY]
  by_cases q:g=f
  .rw[if_pos q,if_pos q];exact ry
  .rw[if_neg q,if_neg q];exact r g
 .by_cases q:g=f
  .rw[q];exact(uE f y fs).1
  .refine(uE f y fs).2 g (wi g λz=>hg ?_);show (if g=f then some u else mA g)=none;rw[if_neg q];exact z
theorem Inv.made (I:Inv X pins σ H s):Inv X pins σ (upd (upd H s.heap.objs.size (.own (s.heap.objs.size+1))) (s.heap.objs.size+1) (.ins C s.heap.objs.size []))
  { s with heap:=(s.heap.push W.emptyDict).push (W.instObj C s.heap.objs.size) }:=by
 have e1:(s.heap.push W.emptyDict).get? s.heap.objs.size=some W.emptyDict:=Heap.get?_push_size s.heap rfl;have e2:((s.heap.push W.emptyDict).push (W.instObj C s.heap.objs.size)).get? (s.heap.objs.size+1)=some (W.instObj C s.heap.objs.size):=by
  have:=Heap.get?_push_size (s.heap.push W.emptyDict) (o:=W.instObj C s.heap.objs.size) rfl
  rwa [Heap.size_push] at this
 have e3:(s.heap.push W.emptyDict).Ns s.heap.objs.size (λ_=>none):=⟨W.emptyDict,#[],_,e1,rfl,(λe he=>absurd he ⋯),λ_=>rfl⟩
 have I1:=I.laid (a:=s.heap.objs.size) (o:=.own (s.heap.objs.size+1)) (h':=s.heap.push W.emptyDict) (t':=s.toks) (λb u q=>Heap.get?_push_of_some _ q) (Nat.le_refl _) ⟨_,e1⟩;refine I1.laid (a:=s.heap.objs.size+1) (o:=.ins C s.heap.objs.size []) (t':=s.toks) (λb u q=>Heap.get?_push_of_some _ q) (Nat.le_of_eq (Heap.size_push _ _)) ?_;have ne:s.heap.objs.size≠s.heap.objs.size+1:=Nat.ne_of_lt (Nat.lt_succ_self _);exists by rw[aV ne,aB],Nat.zero_le _,ne,e2,λ_=>none,(Heap.Ns1.of_empty e3).at λo q=>Heap.get?_push_of_some _ q,λ_=>True.intro,λy hy=>absurd rfl hy
theorem Lg (hb:attributeBase e f env (eval e env)=eval e env)(h:wpAny (model prog w) A (eval e env) (λo s₁=>wpAny (model prog w) A (getAttr o f true) Q E s₁) E s):wpAny (model prog w) A (eval (.Attribute e f pos) env) Q E s:=
 Attribute_any_ h (by rw[arm_eval_Attribute,hb])
end
inductive Zn (K:Frag) (f:Str) (Q:VK) (x:V) (H1:Hp):Prop where
 |mk (a C dx fs v):x=.ref a->H1 a=some (.ins C dx fs)->Cls K C->iN K C f->fs.lookup f=some v->Q v H1->Zn K f Q x H1
def qo8 (K:Frag)(ta:TE)(f:Str):TE:=λσ H Q=>ta σ H λx H1=>Zn K f Q x H1
inductive Zb (K:Frag) (f:Str) (D:kE) (σ:St) (x:V) (H2:Hp) (y:V):Prop where
 |mk (a C dx fs):x=.ref a->H2 a=some (.ins C dx fs)->Cls K C->iN K C f->fs.length < 1000->D.nx σ (upd H2 a (.ins C dx (gD f y fs)))->Zb K f D σ x H2 y
def qu7 (K:Frag)(ta tv:TE)(f:Str):TS:=λD σ H=>tv σ H λy H1=>ta σ H1 λx H2=>Zb K f D σ x H2 y
section
variable {X:Cx} {o e value:Expr} {f:Str} {pos pos' tpos:Pos} {ta tv:TE}
theorem cK (he:PE X e ta)(hb:attributeBase e f X.env (eval e X.env)=eval e X.env):PE X (.Attribute e f pos) (qo8 X.K ta f):=by
 intro pins s σ H Q I h;refine Lg hb (thn (he pins s σ H _ I h) λu s1 ⟨x,H1,I1,rx,a,C,dx,fs,v,ex,ea,c,n,l,q⟩=>?_);subst ex;obtain rfl:u=Value.ref a:=rx;exact Ik I1 ea c n l λu' s2 I2 ru=>⟨v,H1,I2,ru,q⟩
theorem oE (ha:PE X o ta)(hv:PE X value tv)(hs:swapsWith value (some (.Attribute o f pos')) pos.line X.env=pure false):PS X (.Assign [.Attribute o f pos'] value pos) (qu7 X.K ta tv f):=by
 intro pins s σ H D I h;refine plainObj_wpAny_Assign_Attribute (thn (hv pins s σ H _ I h) λu s1 ⟨y,H1,I1,ry,q⟩=>thn (ha pins s1 σ H1 _ I1 q) λov s2 ⟨x,H2,I2,rx,a,C,dx,fs,ex,ea,c,n,l,q2⟩=>?_) hs;subst ex;obtain rfl:ov=Value.ref a:=rx;exact Jz I2 ea c n l ry λs3 I3=>⟨σ,_,I3,q2⟩
end
section
variable {X:Cx} {pins:List (Addr × Obj)} {σ:St} {H:Hp} {s:Shared} {A:Around} {E:Value->Shared->Prop} {Q:Value->Shared->Prop} {c:Value} {b:Bool}
inductive pI (K:Frag) (H:Hp):V->Value->Prop where
 |non:pI K H .non (.type "NoneType")
 |bl (x:Bool):pI K H (.bl x) (.type "bool")
 |int (i:Int):pI K H (.int i) (.type "int")
 |str (x:Str):pI K H (.str x) (.type "str")
 |flt (x:UInt64):pI K H (.flt x) (.type "float")
 |lst {a:Addr} {xs:wk} (e:H a=some (.lst xs)):pI K H (.ref a) (.type "list")
 |frz {a:Addr} {o:Obj} {xs:wk} (e:H a=some (.frz o (.lst xs))):pI K H (.ref a) (.type "list")
 |tup {a:Addr} {xs:wk} (e:H a=some (.tup xs)):pI K H (.ref a) (.type "tuple")
 |dK {a:Addr} {kvs:List (Key × V)} (e:H a=some (.dK kvs)):pI K H (.ref a) (.type "dict")
 |dT {a:Addr} {kvs:List (List Key × V)} (e:H a=some (.dT kvs)):pI K H (.ref a) (.type "dict")
 |ins {a C dx:Addr} {fs:List (Str × V)} (e:H a=some (.ins C dx fs)) (cl:Cls K C) (ha:W.findIn K (.ref C) "__class__"=some (some (.builtin "object.__class__")))
   (hn:W.specialIn K (.builtin "object.__class__") "__get__"=some (some (.builtin "getset_descriptor.__get__"))) (htk:W.takesIn K (.builtin "object.__class__")=some true)
   (hm:W.mroIn K C (.type "object")=some true):pI K H (.ref a) (.ref C)
theorem Of (I:Inv X pins σ H s)(rx:cN x u)(ty:pI X.K H x t)(e:W.kitOne X.K t c=some b)(h:∀tk,Q (.bool b) { s with toks:=tk }):
  wpAny (model X.prog X.w) A (call (.builtin "isinstance") [u,c]) Q E s:=by
 cases ty with
 |non=>cases (show u=Value.none from rx);exact W.kia_one W.kitx_none I.kIn True.intro e (λz=>nomatch z) h
 |bl y=>cases (show u=Value.bool y from rx);exact W.kia_one W.kitx_bool I.kIn True.intro e (λz=>nomatch z) h
 |int i=>obtain⟨t,q⟩:=(show ∃t,u=Value.int i t from rx);cases q;exact W.kia_one W.kitx_int I.kIn True.intro e (λz=>nomatch z) h
 |str y=>obtain⟨t,q⟩:=(show ∃t,u=Value.str y t from rx);cases q;exact W.kia_one W.kitx_str I.kIn True.intro e (λz=>nomatch z) h
 |flt y=>obtain⟨t,q⟩:=(show ∃t,u=Value.float y t from rx);cases q;exact W.kia_one W.kitx_float I.kIn True.intro e (λz=>nomatch z) h
 | @lst a xs ea=>
  cases (show u=Value.ref a from rx)
  obtain⟨_,_,n,_,h1⟩:=(show dP X.prog X.w H s.heap a (.lst xs) from I.hok a _ ea)
  exact W.kia_one W.kitx_list I.kIn ⟨_,h1,rfl⟩ e (λz=>nomatch z) h
 | @frz a ob xs ea=>
  cases (show u=Value.ref a from rx)
  obtain⟨_,_,_,n,_,h1⟩:=(show dP X.prog X.w H s.heap a (.frz ob (.lst xs)) from I.hok a _ ea)
  exact W.kia_one W.kitx_list I.kIn ⟨_,h1,rfl⟩ e (λz=>nomatch z) h
 | @tup a xs ea=>
  cases (show u=Value.ref a from rx)
  obtain⟨_,_,_,p⟩:=(show dP X.prog X.w H s.heap a (.tup xs) from I.hok a _ ea)
  obtain⟨o,h1,h2,_⟩:=p;exact W.kia_one W.kitx_tuple I.kIn ⟨o,h1,h2⟩ e (λz=>nomatch z) h
 | @dK a kvs ea=>
  cases (show u=Value.ref a from rx)
  obtain⟨_,_,vs,_,p⟩:=(show dP X.prog X.w H s.heap a (.dK kvs) from I.hok a _ ea)
  obtain⟨o,es,ep,h1,h2,_⟩:=p;exact W.kia_one W.kitx_dict I.kIn ⟨o,h1,h2.1⟩ e (λz=>nomatch z) h
 | @dT a kvs ea=>
  cases (show u=Value.ref a from rx)
  obtain⟨_,_,xs,_,o,es,ep,h1,h2,_⟩:=(show dP X.prog X.w H s.heap a (.dT kvs) from I.hok a _ ea)
  exact W.kia_one W.kitx_dict I.kIn ⟨o,h1,h2.1⟩ e (λz=>nomatch z) h
 | @ins a C dx fs ea cl ha hn htk hm=>
  cases (show u=Value.ref a from rx)
  obtain⟨mA,O,_⟩:=vQ I.hok ea;obtain⟨od,J,_⟩:=O.look;exact W.kia_one (W.kitx_own (cl.get _) cl.hd ha hn htk hm) I.kIn J e (λz=>nomatch z) h
end
structure iI (k:Nat) (A:Around):Prop where
 hd:A.handled=none
 dp:A.depth+3*k+5 < recursionLimit
 un:A.units+16*k+200 < cLine
theorem iI.mono (r:iI k A)(h:j<=k):iI j A:=⟨r.hd,by have:=r.dp;lia,by have:=r.un;lia⟩
theorem iI.deeper (r:iI (k+1) A)(env:Env):iI k (A.deeper env):=
 ⟨r.hd,by have:=r.dp;show A.depth+1+3*k+5 < _;lia,by have:=r.un;show A.units+3+16*k+200 < _;lia⟩
theorem Gu {A:Around}:(A.under (.builtin "type.__call__" ⟨.ref C :: us,kw⟩)).depth=A.depth+1:=by
 first | rfl | simp[Around.under,Code.weight,Code.isCreation,Code.isGuard,Code.isCaller,Code.frames,Code.isFrame,guardIds]
theorem Js {A:Around}:(A.under (.builtin "type.__call__" ⟨.ref C :: us,kw⟩)).units=A.units+1:=by
 first | rfl | simp[Around.under,Code.cUnits,Code.frames,Code.isFrame]
theorem iI.make (r:iI (k+1) A)(C:Addr)(us:List Value)(kw:List (Str × Value)):iI k (A.under (.builtin "type.__call__" ⟨.ref C :: us,kw⟩)):=
 ⟨r.hd,by have:=r.dp;rw[Gu];lia,by have:=r.un;rw[Js];lia⟩
theorem iI.depth (r:iI k A):A.depth < recursionLimit:=by have:=r.dp;lia
theorem iI.units (r:iI k A):A.units+64 < cLine:=by have:=r.un;lia
def qb4:TA:=λ_ H Q=>Q [] H
def qq6 (ta:TE)(tr:TA):TA:=λσ H Q=>ta σ H λx H1=>tr σ H1 λxs H2=>Q (x :: xs) H2
section
variable {X:Cx} {e:Expr} {es:List Expr} {te:TE} {t:TA} {pos:Pos}
theorem aD:PA X [] qb4:=λ_ _ _ _ H Q I h=>Calls.spliced_nil ⟨[],H,I,.nil,h⟩
theorem aA (ha:PE X e te)(hr:PA X es t)(hs:starEach (e :: es) X.env=(false,eval e X.env) :: starEach es X.env:=by rfl):PA X (e :: es) (qq6 te t):=by
 intro pos pins s σ H Q I h;rw[hs];show wpAny _ _ (spliced ((false,eval e X.env) :: backTo pos (starEach es X.env))) _ _ s;refine Calls.spliced_cons (thn (ha pins s σ H _ I h) λu s1 ⟨x,H1,I1,r1,q1⟩=>?_);exact thn (hr pos pins s1 σ H1 _ I1 q1) λus s2 ⟨xs,H2,I2,r2,q2⟩=>⟨x :: xs,H2,I2,.cons r1 r2,q2⟩
def qt0 (t:TA):TE:=λσ H Q=>t σ H λxs H1=>xs.length<=sizeLine/\∀p,H1 p=none->Q (.ref p) (upd H1 p (.tup xs))
def qu0 (t:TA):TE:=λσ H Q=>t σ H λxs H1=>xs.length<=sizeLine/\∀p,H1 p=none->Q (.ref p) (upd H1 p (.lst xs))
theorem dA {x1}(h:PA X es t):PE X (.Tuple es x1 pos) (qt0 t):=by
 intro pins s σ H Q I hq;refine wpAny_Tuple_spliced (thn (h pos pins s σ H _ I hq) λus s1 ⟨xs,H1,I1,r,z,q⟩=>⟨by rw[<- r.length];exact z,?_⟩);have hf:H1 s1.heap.objs.size=none:=I1.hok.fresh (Nat.le_refl _);exists .ref s1.heap.objs.size,upd H1 s1.heap.objs.size (.tup xs),I1.laid (t':=s1.toks) (λb u e=>Heap.get?_push_of_some _ e) (Nat.le_refl _) ?_,rfl,q _ hf;exists z,us,r,⟨_,Heap.get?_push_size _ rfl,rfl,_,rfl⟩
theorem dZ (h:PA X es t):PE X (.List es pos) (qu0 t):=by
 intro pins s σ H Q I hq;refine wpAny_List_spliced (thn (h pos pins s σ H _ I hq) λus s1 ⟨xs,H1,I1,r,z,q⟩=>⟨by rw[<- r.length];exact z,?_⟩);have hf:H1 s1.heap.objs.size=none:=I1.hok.fresh (Nat.le_refl _);exists .ref s1.heap.objs.size,upd H1 s1.heap.objs.size (.lst xs),I1.laid (t':=s1.toks) (λb u e=>Heap.get?_push_of_some _ e) (Nat.le_refl _) ?_,rfl,q _ hf;exists z,us,0,r,Heap.get?_push_size _ rfl
end
abbrev Sp:=wk->Hp->VK->XK->Prop
abbrev CXT:=List Env->Hp->Shared->XK->Value->Shared->Prop
structure Jv (P:Program) (w:World) (K:Frag) (mg:Str->Option Value) (base:Heap) (A:Around) (outer:List Env) (s:Shared) (H:Hp):Prop where
 frames:A.frames=some outer
 mod:Mod K mg base
 bs:∀b o,base.get? b=some o->s.heap.get? b=some o/\H b=none
 bsz:base.objs.size<=s.heap.objs.size
 funs:s.heap.FunFrames base outer
 frf:∀b∈frs outer,H b=none
 hok:HOk P w H s.heap
 bare:AllBare s.gens
def CE (outer:List Env)(P:Program)(w:World)(H:Hp)(s:Shared)(Q:VK)(u:Value)(s':Shared):Prop:=
 ∃v H',s'.os=s.os/\AllBare s'.gens/\Un (frs outer) [] H H' s.heap s'.heap/\HOk P w H' s'.heap/\cN v u/\Q v H'
def CR (CX:CXT)(outer:List Env)(P:Program)(w:World)(H:Hp)(s:Shared)(Q:VK)(E:XK)(r:Result)(s':Shared):Prop:=
 match r with
 | .ok (.ret u)=>CE outer P w H s Q u s'
 | .ok _=>False
 | .error e=>CX outer H s E e s'
structure aL (P:Program) (w:World) (K:Frag) (mg:Str->Option Value) (base:Heap) (CX:CXT) (k:Nat) (f:Addr) (fd:FuncData) (ps:List Str) (sp:Sp):Prop where
 len:∀vs H Q E,sp vs H Q E->vs.length=ps.length
 run:∀(A:Around) (outer:List Env) (s:Shared) (H:Hp) (args:Args) (us:List Value) (vs:wk) (Q:VK) (E:XK),iI k A->Jv P w K mg base A outer s H->BindsTo s fd args (ps.zip us)->cJ vs us->sp vs H Q E->
  codeAny (model P w) A (.call (.ref f) args) (CR CX outer P w H s Q E) s
theorem Jv.make {K:Frag}(e:Jv P w K mg base A outer s H)(C:Addr)(us:List Value)(kw:List (Str × Value)):
  Jv P w K mg base (A.under (.builtin "type.__call__" ⟨.ref C :: us,kw⟩)) outer s H:=⟨by first | exact e.frames | (simpa[Around.under,Code.envs,Code.isFrame,pushEnvs] using e.frames),e.mod,e.bs,e.bsz,e.funs,e.frf,e.hok,e.bare⟩
section
variable {X:Cx} {pins:List (Addr × Obj)} {σ:St} {H:Hp} {s s':Shared}
theorem Inv.env0 (I:Inv X pins σ H s):Jv X.prog X.w X.K X.mg X.base X.A X.stack s H:=
 ⟨I.ok.frames,I.ok.mod,I.bs,Nat.le_trans I.ok.bsz I.sz,I.stack,I.stkFree,I.hok,I.bare⟩
theorem Inv.after (I:Inv X pins σ H s)(h:CE X.stack X.prog X.w H s Q u s'):EP X pins σ Q u s':=by
 obtain⟨v,H',os,bare,un,hok,r,q⟩:=h;obtain⟨hh,g,d,t,os'⟩:=s';obtain rfl:os'=s.os:=os;exists v,H',I.call (h':=hh) (g':=g) (d':=d) (t':=t) (ch:=[]) un hok bare (λb z=>absurd z ⋯),r,q
end
def qp7 (sp:Sp)(dvs:wk)(E:XK)(t:TA):TE:=λσ H Q=>t σ H λvs H1=>sp (vs++dvs) H1 Q E
inductive Qq (C:Addr) (m:Str) (sp:Sp) (dvs:wk) (E:XK) (t:TA) (σ:St) (Q:VK) (x:V) (H1:Hp):Prop where
 |mk (a dx fs):x=.ref a->H1 a=some (.ins C dx fs)->fs.lookup m=none->(t σ H1 λvs H2=>sp (x :: (vs++dvs)) H2 Q E)->Qq C m sp dvs E t σ Q x H1
def qa5 (C:Addr)(m:Str)(sp:Sp)(dvs:wk)(E:XK)(ta:TE)(t:TA):TE:=λσ H Q=>ta σ H λx H1=>Qq C m sp dvs E t σ Q x H1
def qp5 (C:Addr)(sp:Sp)(dvs:wk)(E:XK)(t:TA):TE:=λσ H Q=>t σ H λvs H1=>∀x dx,H1 x=none->H1 dx=none->dx≠x->
 sp (.ref x :: (vs++dvs)) (upd (upd H1 dx (.own x)) x (.ins C dx [])) (λv H2=>v=.non/\Q (.ref x) H2) E
def aP (K:Frag)(fd:FuncData)(ps:List Str)(ds:List Value):Prop:=
 ∀(s:Shared) (us:List Value),K.In s.heap->(us++ds).length=ps.length->BindsTo s fd ⟨us,[]⟩ (ps.zip (us++ds))
theorem aP.all {K:Frag}(h:∀us:List Value,us.length=ps.length->bindArgs fd ⟨us,[]⟩=pure (ps.zip us)):aP K fd ps []:=λs us _ hl=>by
 rw[append_nil] at hl ⊢;exact .of_eq (h us hl)
def kX (CX:CXT)(X:Cx)(E:XK):Prop:=∀(pins:List (Addr × Obj)) (σ:St) (H:Hp) (s:Shared) (e:Value) (s':Shared),Inv X pins σ H s->CX X.stack H s E e s'->X.xe e s'
section
variable {X:Cx} {CX:CXT} {k:Nat} {f C:Addr} {fd:FuncData} {ps:List Str} {sp:Sp} {dvs:wk} {ds:List Value} {E:XK} {x m:Str} {p pos apos:Pos} {e o:Expr} {es:List Expr} {ta:TE} {t:TA}
theorem yW (F:aL X.prog X.w X.K X.mg X.base CX k f fd ps sp)(hr:iI k X.A)(hb:aP X.K fd ps ds)(hd:cJ dvs ds)(hx:kX CX X E)(I:Inv X pins σ H s)(r:cJ vs us)(h:sp (vs++dvs) H Q E):zzW X (call (.ref f) us) (EP X pins σ Q) X.xe s:=by
 have r2:cJ (vs++dvs) (us++ds):=r.append hd;have hl:(us++ds).length=ps.length:=by rw[<- r2.length];exact F.len _ _ _ _ h
 refine wpAny_call (codeAny_mono (F.run X.A X.stack s H ⟨us,[]⟩ (us++ds) (vs++dvs) Q E hr I.env0 (hb s us I.kIn hl) r2 h) λr s' hq=>?_)
 cases r with
 |error e=>exact hx pins σ H s e s' I hq
 |ok fl=>
  cases fl with
  |ret u=>exact I.after hq
  |next=>exact False.elim hq
  |brk=>exact False.elim hq
  |cont=>exact False.elim hq
theorem aI (F:aL X.prog X.w X.K X.mg X.base CX k f fd ps sp)(hr:iI k X.A)(hg:Gl X x)(hm:X.mg x=some (.ref f))(hk:W.keepIn X.K (.ref f)=true)(hb:aP X.K fd ps ds)(hd:cJ dvs ds)(hx:kX CX X E)(ha:PA X (e :: es) t)(hdb:(x == ("__debug__":Str))=false:=by decide)(he:starEach (e :: es) X.env=(false,eval e X.env) :: starEach es X.env:=by rfl)(hpl:(backTo pos (starEach es X.env)).any (·.1)=false:=by rfl) :
  PE X (.Call (.Name x p) (e :: es) [] pos) (qp7 sp dvs E t):=by
 intro pins s σ H Q I h;refine wpAny_Call_Name_kw (kP I hg hm ?_ hdb);refine W.callWith_K (h₀:=X.base) I.ok.mod.kin hk (thn (ha pos pins s σ H _ I h) λus s1 ⟨vs,H1,I1,r,q⟩=>⟨I1.kIn,?_⟩) he hpl;exact yW F hr hb hd hx I1 r q
theorem Bw (he:PE X o ta)(c:Cls X.K C)(hm:iG X.K C m f)(F:aL X.prog X.w X.K X.mg X.base CX k f fd ps sp)(hr:iI k X.A)(hb:aP X.K fd ps ds)(hd:cJ dvs ds)(hx:kX CX X E)(ha:PA X (e :: es) t)(hst:starEach (e :: es) X.env=(false,eval e X.env) :: starEach es X.env:=by rfl)(hpl:(backTo pos (starEach es X.env)).any (·.1)=false:=by rfl)(ht:eval (.Call (.Attribute o m apos) (e :: es) [] pos) X.env=(do
   let ov <- eval o X.env
   standAt apos.atName
   let (f,first) <- holding [ov] (getMethod ov m pl)
   callWith pos f first (backTo pos (starEach (e :: es) X.env)) (backToKw pos (keywordEach [] X.env))):=by rfl):
  PE X (.Call (.Attribute o m apos) (e :: es) [] pos) (qa5 C m sp dvs E ta t):=by
 intro pins s σ H Q I h;refine W.methodCall_KW (pl:=pl) (thn (he pins s σ H _ I h) λu s1 ⟨x,H1,I1,rx,a,dx,fs,ex,ea,l,q⟩=>?_) ht;subst ex;obtain rfl:u=Value.ref a:=rx;refine mQ I1 ea c hm l ?_;refine W.callWith_K (first:=[.ref a]) (h₀:=X.base) I.ok.mod.kin hm.kp (thn (ha pos pins s1 σ H1 _ I1 q) λus s2 ⟨vs,H2,I2,r,q2⟩=>⟨I2.kIn,?_⟩) hst hpl;exact yW (us:=.ref a :: us) (vs:=.ref a :: vs) F hr hb hd hx I2 (.cons rfl r) q2
theorem fY (he:PE X o ta)(c:Cls X.K C)(hm:iG X.K C m f)(F:aL X.prog X.w X.K X.mg X.base CX k f fd ps sp)(hr:iI k X.A)(hb:aP X.K fd ps ds)(hd:cJ dvs ds)(hx:kX CX X E)(ht:eval (.Call (.Attribute o m apos) [] [] pos) X.env=(do
   let ov <- eval o X.env
   standAt apos.atName
   let (f,first) <- holding [ov] (getMethod ov m pl)
   callWith pos f first (backTo pos (starEach [] X.env)) (backToKw pos (keywordEach [] X.env))):=by rfl):
  PE X (.Call (.Attribute o m apos) [] [] pos) (qa5 C m sp dvs E ta qb4):=by
 intro pins s σ H Q I h;refine W.methodCall_KW (pl:=pl) (thn (he pins s σ H _ I h) λu s1 ⟨x,H1,I1,rx,a,dx,fs,ex,ea,l,q⟩=>?_) ht;subst ex;obtain rfl:u=Value.ref a:=rx;refine mQ I1 ea c hm l ?_;exact W.callWith_K0 (first:=[.ref a]) I1.kIn hm.kp (yW (us:=[.ref a]) (vs:=[.ref a]) F hr hb hd hx I1 (.cons rfl .nil) q)
structure Mk (K:Frag) (C f:Addr):Prop where
 makes:W.makesIn K C=true
 init:W.findIn K (.ref C) "__init__"=some (some (.ref f))
 fn:W.isFn K (.ref f)=true
 kp:W.keepIn K (.ref C)=true
theorem Sr (M:Mk X.K C f)(F:aL X.prog X.w X.K X.mg X.base CX k f fd ps sp)(hr:iI (k+1) X.A)(hb:aP X.K fd ps ds)(hd:cJ dvs ds)(hx:kX CX X E)(I:Inv X pins σ H s)(r:cJ vs us)(h:∀x dx,H x=none->H dx=none->dx≠x->sp (.ref x :: (vs++dvs)) (upd (upd H dx (.own x)) x (.ins C dx [])) (λv H2=>v=.non/\Q (.ref x) H2) E):
  zzW X (call (.ref C) us) (EP X pins σ Q) X.xe s:=by
 have hq:=h (s.heap.objs.size+1) s.heap.objs.size (I.hok.fresh (Nat.le_succ _)) (I.hok.fresh (Nat.le_refl _)) (Nat.ne_of_lt (Nat.lt_succ_self _));have I2:=Inv.made (C:=C) I;have r2:cJ (V.ref (s.heap.objs.size+1) :: (vs++dvs)) (Value.ref (s.heap.objs.size+1) :: (us++ds)):=.cons rfl (r.append hd);have hl:(Value.ref (s.heap.objs.size+1) :: us++ds).length=ps.length:=by
  have e:=r2.length;rw[F.len _ _ _ _ hq] at e;exact e.symm
 refine wpAny_call (Gc (f:=f) I.kIn M.makes M.init (beq_iff_eq.mp M.fn) (codeAny_mono (F.run _ X.stack _ _ ⟨Value.ref (s.heap.objs.size+1) :: us,[]⟩ (Value.ref (s.heap.objs.size+1) :: (us++ds)) _ _ E (hr.make C us [])
  (I2.env0.make C us []) (hb _ (Value.ref (s.heap.objs.size+1) :: us) I2.kIn hl) r2 hq) λr s' hq'=>?_))
 cases r with
 |error e=>exact hx pins σ _ _ e s' I2 hq'
 |ok fl=>
  cases fl with
  |ret u=>
   obtain⟨v,H',I3,rv,ev,q3⟩:=I2.after hq';subst ev;exists rv,⟨V.ref (s.heap.objs.size+1),H',I3,rfl,q3⟩
  |next=>exact False.elim hq'
  |brk=>exact False.elim hq'
  |cont=>exact False.elim hq'
theorem vG (M:Mk X.K C f)(F:aL X.prog X.w X.K X.mg X.base CX k f fd ps sp)(hr:iI (k+1) X.A)(hg:Gl X x)(hm:X.mg x=some (.ref C))(hb:aP X.K fd ps ds)(hd:cJ dvs ds)(hx:kX CX X E)(ha:PA X (e :: es) t)(hdb:(x == ("__debug__":Str))=false:=by decide)(he:starEach (e :: es) X.env=(false,eval e X.env) :: starEach es X.env:=by rfl)(hpl:(backTo pos (starEach es X.env)).any (·.1)=false:=by rfl) :
  PE X (.Call (.Name x p) (e :: es) [] pos) (qp5 C sp dvs E t):=by
 intro pins s σ H Q I h;refine wpAny_Call_Name_kw (kP I hg hm ?_ hdb);refine W.callWith_K (h₀:=X.base) I.ok.mod.kin M.kp (thn (ha pos pins s σ H _ I h) λus s1 ⟨vs,H1,I1,r,q⟩=>⟨I1.kIn,?_⟩) he hpl;exact Sr M F hr hb hd hx I1 r q
end
structure aS (N P:List Str) (sc:Scope):Prop where
 kind:sc.kind=.function
 co:sc.isCoroutine=false
 gen:sc.isGenerator=false
 nd:N.Nodup
 pre:N.take P.length=P
 par:∀x∈P,sc.names.lookup x=some .local\/sc.names.lookup x=some .cell
 nofree:∀y∈sc.names,y.2≠.free
theorem sK9 (a:sc.kind=.function:=by rfl)(b:sc.isCoroutine=false:=by rfl)(c:sc.isGenerator=false:=by rfl)(d:N.take P.length=P:=by rfl)(e:(decide N.Nodup&&decide (∀x∈P,sc.names.lookup x=some .local\/sc.names.lookup x=some .cell)&&decide (∀y∈sc.names,y.2≠.free))=true:=by decide +kernel):aS N P sc:=by
 rw[Bool.and_eq_true,Bool.and_eq_true] at e
 exact ⟨a,b,c,of_decide_eq_true e.1.1,d,of_decide_eq_true e.1.2,of_decide_eq_true e.2⟩
theorem zl9 (n:Nat)(h:n<=16:=by decide):n<=sizeLine:=Nat.le_trans h ∅
abbrev kI9 (K:Frag)(g:Addr):Prop:=W.keepIn K (.ref g)=true
abbrev mI9 (mg:Str->Option Value)(x:Str)(g:Addr):Prop:=mg x=some (.ref g)
theorem zM {kindOf:Str->Option NameKind}:∀{binds:List (Str × Value)} {m:Str->Option Value},(∀v,(x,v)∉binds)->bindL kindOf binds m x=m x
 | [],_,_=>rfl
 | (n,v) :: r,m,h=>by
  unfold bindL;rw[zM λw hw=>h w (mem_cons_of_mem _ hw)];split
  .have:x≠n:=by rintro rfl;exact h v mem_cons_self
   simp[this]
  .rfl
theorem Ah {kindOf:Str->Option NameKind}:∀{binds:List (Str × Value)} {m:Str->Option Value},(∀v,(x,v)∉binds)->bindC kindOf binds m x=m x
 | [],_,_=>rfl
 | (n,v) :: r,m,h=>by
  unfold bindC;rw[Ah λw hw=>h w (mem_cons_of_mem _ hw)];split
  .rfl
  .have:x≠n:=by rintro rfl;exact h v mem_cons_self
   simp[this]
theorem Ai {kindOf:Str->Option NameKind}:∀{P:List Str} {vs:List Value} {i:Nat} {m:Str->Option Value},P.Nodup->P[i]?=some x->vs[i]?=some v->kindOf x=some .local->
  bindL kindOf (P.zip vs) m x=some v
 | [],_,_,_,_,h,_,_=>by simp at h
 |_ :: _,[],_,_,_,_,h,_=>by simp at h
 |p :: P,w :: vs,0,m,nd,h1,h2,hk=>by
  simp at h1 h2;subst h1;subst h2;show bindL kindOf ((p,w) :: P.zip vs) m p=_;unfold bindL;rw[zM λv hv=>(nodup_cons.mp nd).1 (of_mem_zip hv).1,if_pos hk];simp
 |p :: P,w :: vs,i+1,m,nd,h1,h2,hk=>by
  show bindL kindOf ((p,w) :: P.zip vs) m x=_;unfold bindL;exact Ai (i:=i) (nodup_cons.mp nd).2 (by simpa using h1) (by simpa using h2) hk
theorem zS {kindOf:Str->Option NameKind}:∀{P:List Str} {vs:List Value} {i:Nat} {m:Str->Option Value},P.Nodup->P[i]?=some x->vs[i]?=some v->kindOf x≠some .local->
  bindC kindOf (P.zip vs) m x=some v
 | [],_,_,_,_,h,_,_=>by simp at h
 |_ :: _,[],_,_,_,_,h,_=>by simp at h
 |p :: P,w :: vs,0,m,nd,h1,h2,hk=>by
  simp at h1 h2;subst h1;subst h2;show bindC kindOf ((p,w) :: P.zip vs) m p=_;unfold bindC;rw[Ah λv hv=>(nodup_cons.mp nd).1 (of_mem_zip hv).1,if_neg hk];simp
 |p :: P,w :: vs,i+1,m,nd,h1,h2,hk=>by
  show bindC kindOf ((p,w) :: P.zip vs) m x=_;unfold bindC;exact zS (i:=i) (nodup_cons.mp nd).2 (by simpa using h1) (by simpa using h2) hk
def start (N:List Str)(vs:wk):St:=vs.map some++replicate (N.length - vs.length) none
def zD (CX:CXT)(P:Program)(w:World)(K:Frag)(mg:Str->Option Value)(base:Heap)(N:List Str)(qual:Str)(scope:Scope)(f:Addr)(cd:Value)(A:Around)(outer:List Env)(s:Shared)(H:Hp)(E:XK):Cx where
 prog:=P
 w:=w
 K:=K
 mg:=mg
 base:=base
 A:=A.deeper (envOfC qual scope s.heap.objs.size f cd)
 N:=N
 s₀:=s
 H₀:=H
 env:=envOfC qual scope s.heap.objs.size f cd
 outer:=outer
 stack:=envOfC qual scope s.heap.objs.size f cd :: outer
 ex:=[]
 calm:=true
 fn:=λ_=>true
 pn:=[]
 xe:=λe s'=>wpAny (model P w) (A.deeper (envOfC qual scope s.heap.objs.size f cd)) (leaving (envOfC qual scope s.heap.objs.size f cd) e) (λ_ s''=>CX outer H s E e s'') (λe' s''=>CX outer H s E e' s'') s'
theorem Gr {sc:Scope}(h:sc.names.lookup x=some .cell):∃c,(cellsFrom n sc.names []).lookup x=some c:=by
 have q:=W.cellsFrom_some sc.names n [] (.inl h);exact Option.isSome_iff_exists.mp q
theorem Pg {K:Frag}(S:aS N ps scope)(hd:A.handled=none)(e0:Jv P w K mg base A outer s H)(hl:vs.length=ps.length)(r:cJ vs us)(x:InCallC s s.heap.objs.size (bindL (envOfC qual scope s.heap.objs.size f cd).kindOf (ps.zip us) λ_=>none) (cellsFrom (s.heap.objs.size+1) scope.names []) (bindC (envOfC qual scope s.heap.objs.size f cd).kindOf (ps.zip us) λ_=>none) s1):
  Inv (zD CX P w K mg base N qual scope f cd A outer s H E) [] (start N vs) H s1:=by
 have hpl:ps.length<=N.length:=by have:=congrArg List.length S.pre;rw[length_take] at this;lia
 obtain⟨h1,tk,rfl,hk⟩:=x.done;have noA:∀b:Addr,b∉(zD CX P w K mg base N qual scope f cd A outer s H E).ex:=λb z=>absurd (show b∈([]:List Addr) from z) ⋯;refine⟨⟨e0.mod,S.kind,rfl,rfl,Nat.le_refl _,λy z c h1 h2=>?_,λy hy=>?_,λy c _ h=>?_,λ_=>hd,Around.frames_deeper e0.frames,.inr ⟨rfl,rfl⟩,λb z=>absurd z (noA b),e0.bs,e0.bsz,λb _ _=>noA b,λb z=>absurd z (noA b),e0.funs,e0.frf⟩,
  rfl,e0.bare,Un.kept hk,⟨_,x.toInCall.ns,λi y v h1 h2 h3=>?_⟩,λy c h=>⟨_,x.cell y c h⟩,e0.hok.fresh (Nat.le_refl _),λy c h=>?_,λp hp=>absurd (show p∈([]:List (Addr × Obj)) from hp) ⋯,e0.hok.kept hk,?_⟩
 .exact name_of_addr x.apart (PySem.mem_of_lookup h1) (PySem.mem_of_lookup h2)
 .have hy:scope.names.lookup y=some .cell\/scope.names.lookup y=some .free:=hy;rcases hy with hy | hy
  .exact Gr hy
  .exact absurd rfl (S.nofree _ (PySem.mem_of_lookup hy))
 .exact Nat.le_of_lt (x.above y c (PySem.mem_of_lookup h))
 .have hi:i < vs.length:=by
   unfold start at h2
   by_cases hi:i < vs.length
   .exact hi
   .rw[getElem?_append_right (by simpa using hi)] at h2;rw[getElem?_replicate] at h2;split at h2<;>cases h2
  have ha:vs[i]?=some v:=by
   unfold start at h2;rw[getElem?_append_left (by simpa using hi),getElem?_map] at h2
   cases e:vs[i]? with
   |none=>rw[e] at h2;cases h2
   |some a=>rw[e] at h2;cases h2;rfl
  obtain⟨u,hu,rv⟩:=r.get ha;have hp:ps[i]?=some y:=by
   rw[<- S.pre,getElem?_take_of_lt ()];exact h1
  have ndP:ps.Nodup:=by rw[<- S.pre];exact S.nd.sublist (take_sublist _ _)
  exists u,rv,?_;rcases S.par y (mem_of_getElem? hp) with k | k
  .exact .inl ⟨k,Ai ndP hp hu k⟩
  .obtain⟨c,e⟩:=Gr (n:=s.heap.objs.size+1) k;refine .inr ⟨.inl k,c,e,?_⟩;have q:=x.cell y c e;rw[zS ndP hp hu (by show scope.names.lookup y≠_;rw[k];decide)] at q;exact q
 .exact e0.hok.fresh (Nat.le_of_lt (x.above y c (PySem.mem_of_lookup h)))
 .unfold start;show _=N.length;rw[xj,length_map,length_replicate];lia
theorem qn1 {K:Frag}{dV kV doc pm cdv ct oc:Value}(lk:K.lookup f=some ⟨oc,od,.func (W.fnOf name qual params body scope dV kV doc pm an cdv ct),osl⟩)(hcd:W.codeIn K cdv qual=true)(S:aS N ps scope)(len:∀vs H Q E,sp vs H Q E->vs.length=ps.length)(hbody:∀(A:Around) (outer:List Env) (s:Shared) (H:Hp) (vs:wk) (Q:VK) (E:XK),iI k (A.deeper (envOfC qual scope s.heap.objs.size f cdv))->sp vs H Q E->
   ∃t,PSs (zD CX P w K mg base N qual scope f cdv A outer s H E) body t/\t { nx:=λ_ H'=>Q .non H',rt:=Q } (start N vs) H):
  aL P w K mg base CX (k+1) f (W.fnOf name qual params body scope dV kV doc pm an cdv ct) ps sp:=by
 exists len,λA outer s H args us vs Q E hr e0 hb r hsp=>?_;have hl:=len _ _ _ _ hsp;have KX:K.In s.heap:=e0.mod.kin.keeps λb o e=>(e0.bs b o e).1;have lim:s.heap.NoLimit:=e0.mod.nolimit.keeps λb o e=>(e0.bs b o e).1;have hkind:∀y∈ps.zip us,scope.names.lookup y.1=some .local\/(scope.names.lookup y.1=some .cell/\((cellsFrom (s.heap.objs.size+1) scope.names []).lookup y.1).isSome=true):=λ⟨n,v⟩ hy=>by
  rcases S.par n (of_mem_zip hy).1 with q | q
  .exact .inl q
  .exact .inr ⟨q,W.cellsFrom_some _ _ _ (.inl q)⟩
 refine codeAny_call_function hr.depth (KX _ _ lk) rfl S.co S.gen rfl (W.codeRec_of KX hcd) (hb _ _ _ _ ?_);refine wpAny_newFunctionEnv_cells S.kind hkind λenv he s1 x=>?_;subst he;exists lim.keeps x.toInCall.keep,codeAny_func ?_;obtain⟨t,ht,hq⟩:=hbody A outer s H vs Q E (hr.deeper _) hsp;have I:Inv (zD CX P w K mg base N qual scope f cdv A outer s H E) [] (start N vs) H s1:=Pg S hr.hd e0 hl r x;refine wpAny_mono (ht [] s1 (start N vs) H _ I hq) (λfl s' hs=>?_) λe s' hs=>hs;have fin:∀{σ':St} {H':Hp} {v:V} {u:Value},Inv (zD CX P w K mg base N qual scope f cdv A outer s H E) [] σ' H' s'->cN v u->Q v H'->CE outer P w H s Q u s':=
  λ{σ' H' v u} J rv q=>⟨v,H',J.os,J.bare,J.base,J.hok,rv,q⟩
 cases fl with
 |ret u=>
  obtain⟨v,σ',H',J,rv,q⟩:=hs;exact fin J rv q
 |next=>
  obtain⟨σ',H',J,q⟩:=hs;exact fin (v:=V.non) (u:=Value.none) J rfl q
 |brk=>
  obtain⟨_,_,_,q⟩:=hs;exact False.elim q
 |cont=>
  obtain⟨_,_,_,q⟩:=hs;exact False.elim q
section
variable {X:Cx} {x:Str} {p pos:Pos} {e:Expr} {es:List Expr} {t:TA} {id T:String} {r:wk->Hp->VK->Prop}
def tCB (r:wk->Hp->VK->Prop)(t:TA):TE:=λσ H Q=>t σ H λvs H1=>r vs H1 Q
theorem cB (hc:lQ X (.builtin id) r)(hg:Gl X x)(hm:X.mg x=none)(hv:bootBuiltins x=some (.builtin id))(ha:PA X (e :: es) t)(hn:x≠"__name__":=by decide)(hdb:(x == ("__debug__":Str))=false:=by decide)(he:starEach (e :: es) X.env=(false,eval e X.env) :: starEach es X.env:=by rfl)(hpl:(backTo pos (starEach es X.env)).any (·.1)=false:=by rfl):PE X (.Call (.Name x p) (e :: es) [] pos) (tCB r t):=by
 intro pins s σ H Q I h;refine wpAny_Call_Name_kw (kZ I hg hm hv ?_ hn hdb);exact PyProof.Rows.callWith_builtin1 (thn (ha pos pins s σ H _ I h) λus s1 ⟨vs,H1,I1,r1,q1⟩=>hc pins s1 σ H1 vs us Q I1 r1 q1) he hpl
theorem iA (hc:lQ X (.type T) r)(hg:Gl X x)(hm:X.mg x=none)(hv:bootBuiltins x=some (.type T))(ha:PA X (e :: es) t)(hn:x≠"__name__":=by decide)(hdb:(x == ("__debug__":Str))=false:=by decide)(he:starEach (e :: es) X.env=(false,eval e X.env) :: starEach es X.env:=by rfl)(hpl:(backTo pos (starEach es X.env)).any (·.1)=false:=by rfl):PE X (.Call (.Name x p) (e :: es) [] pos) (tCB r t):=by
 intro pins s σ H Q I h;refine wpAny_Call_Name_kw (kZ I hg hm hv ?_ hn hdb);exact PyProof.Rows.callWith_type1 (thn (ha pos pins s σ H _ I h) λus s1 ⟨vs,H1,I1,r1,q1⟩=>hc pins s1 σ H1 vs us Q I1 r1 q1) he hpl
end
end L2
namespace HT
open PySem PyProof.Rows
section
variable {prog:Program} {w:World} {A:Around} {E:Value->Shared->Prop} {s:Shared}
def sIx (n d:Nat):Option Int->Nat
 |none=>d
 |some v=>if v < 0 then (v+(n:Int)).toNat else min v.toNat n
theorem qh5 (n d:Nat)(hd:d<=n)(o:Option Int):sIx n d o<=n:=by
 cases o with
 |none=>exact hd
 |some v=>
  show (if v < 0 then (v+(n:Int)).toNat else min v.toNat n)<=n
  by_cases hv:v < 0
  .rw[if_pos hv];lia
  .rw[if_neg hv];exact Nat.min_le_right _ _
theorem Lf (v:Int)(n d:Nat):(if v < 0 then max (v+(n:Int)) 0 else min v (n:Int))=((sIx n d (some v):Nat):Int):=by
 show (if v < 0 then max (v+(n:Int)) 0 else min v (n:Int))=(((if v < 0 then (v+(n:Int)).toNat else min v.toNat n):Nat):Int)
 by_cases hv:v < 0
 .simp only[if_pos hv];lia
 .simp only[if_neg hv];lia
theorem Jo (lo hi:Option Int)(n:Nat):Builtin.Slice.sliceAdjust lo hi 1 (n:Int)=(((sIx n 0 lo:Nat):Int),((sIx n n hi:Nat):Int)):=by
 have h1:¬((1:Int) < 0):=by lia
 unfold Builtin.Slice.sliceAdjust;simp only[h1,if_false];refine Prod.ext ?_ ?_
 .cases lo with
  |none=>rfl
  |some v=>exact Lf v n 0
 .cases hi with
  |none=>rfl
  |some v=>exact Lf v n n
theorem Iw (i j:Nat):Builtin.Slice.slicePlaces (i:Int) (j:Int) 1=j - i:=by
 unfold Builtin.Slice.slicePlaces;have h1:(1:Int) > 0:=by lia
 simp only[h1,if_true,Int.ediv_one];split<;>lia
theorem xJ (p:IsPart v o)(h:Q o s):wpAny (model prog w) A (Builtin.Slice.slicePartIndex v) Q E s:=by
 cases p with
 |none=>exact slicePart_none h
 |int i t=>exact slicePart_int h
theorem sQ {lo hi:Option Int}{n:Nat}(hs:s.heap.IsSliceOf sl vl vu .none)(pl:IsPart vl lo)(pu:IsPart vu hi)(h:Q (((sIx n 0 lo:Nat):Int),1,sIx n n hi - sIx n 0 lo) s):wpAny (model prog w) A (Builtin.Slice.sliceApplied (.ref sl) (pure (n:Int))) Q E s:=by
 obtain⟨os,hos,hcs,hds⟩:=id hs;unfold Builtin.Slice.sliceApplied Builtin.Slice.sliceFields;refine wpAny_bind (wpAny_bind (wpAny_field hos hds (x:=vl) rfl (wpAny_bind (wpAny_field hos hds (x:=vu) rfl (wpAny_bind (wpAny_field hos hds (x:=.none) rfl (wpAny_pure ?_)))))));refine wpAny_bind (slicePart_none ?_);show wpAny _ _ (if ((1:Int) == 0)=true then _ else _) _ _ s;rw[if_neg ∅];refine wpAny_bind (xJ pl (wpAny_bind (xJ pu (wpAny_bind (wpAny_pure ?_)))));show wpAny _ _ (match Builtin.Slice.sliceAdjust lo hi 1 (n:Int) with | (lo,hi)=>pure (lo,(1:Int),Builtin.Slice.slicePlaces lo hi 1)) _ _ s;rw[Jo lo hi n];show wpAny _ _ (pure (((sIx n 0 lo:Nat):Int),(1:Int),Builtin.Slice.slicePlaces ((sIx n 0 lo:Nat):Int) ((sIx n n hi:Nat):Int) 1)) _ _ s;rw[Iw];exact wpAny_pure h
theorem Qw (xs:Array Value)(i k:Nat):((List.range k).filterMap λ(m:Nat)=>xs[((i:Int)+(m:Int)*1).toNat]?).toArray=((xs.toList.drop i).take k).toArray:=by
 have e:(λ(m:Nat)=>xs[((i:Int)+(m:Int)*1).toNat]?)=λm=>xs[i+m]?:=by
  funext m
  have:((i:Int)+(m:Int)*1).toNat=i+m:=by lia
  rw[this]
 rw[e];have:=pick_run xs i k;rw[filterMap_map] at this;have e2:((λx=>xs[x]?) ∘ λx=>i+x)=λm=>xs[i+m]?:=rfl;rw[e2] at this;rw[this]
theorem getItem_tuple_cut {lo hi:Option Int}(ht:IsTup s.heap t items)(hs:s.heap.IsSliceOf sl vl vu .none)(pl:IsPart vl lo)(pu:IsPart vu hi)(hw:¬(sIx items.size 0 lo=0/\sIx items.size items.size hi=items.size))(h:Q (.ref s.heap.objs.size) { s with heap:=s.heap.push { cls:=.type "tuple",data:=.seq ((items.toList.drop (sIx items.size 0 lo)).take (sIx items.size items.size hi - sIx items.size 0 lo)).toArray } })(hsz:items.size<=sizeLine):wpAny (model prog w) A (getItem (.ref t) (.ref sl)) Q E s:=by
 have htake:sizeOk (.seq ((items.toList.drop (sIx items.size 0 lo)).take (sIx items.size items.size hi - sIx items.size 0 lo)).toArray):=by
  show ((items.toList.drop (sIx items.size 0 lo)).take (sIx items.size items.size hi - sIx items.size 0 lo)).toArray.size<=sizeLine;rw[size_toArray,length_take,length_drop,Array.length_toList];lia
 have hj:sIx items.size items.size hi<=items.size:=qh5 _ _ (Nat.le_refl _) hi;obtain⟨os,hos,hcs,hds⟩:=id hs;have hTs:s.TypeIs (.ref sl) "slice":=⟨os,hos,hcs⟩
 unfold getItem
 try with_reducible refine wpAny_holding ?_
 first | refine wpAny_bind (wpAny_pure ?_) | skip
 refine wpAny_bind (wpAny_sequenceKey ht.typeIs ∅ ?_);refine wpAny_bind (wpAny_callSpecial?_slot (name:=Str.ofString "__getitem__") ht.typeIs PyProof.Rows.slot_tuple_getitem
  (wpAny_call_entry PyProof.Rows.slot_tuple_getitem ht.typeIs entry_tuple_getitem ?_ (args_tuple_getitem _ _)))
 show wpAny _ _ (Builtin.Tuple.tupleItemsOf (.ref t) >>= _) _ _ s;refine wpAny_bind (tupleItemsOf_ ht ?_);refine wpAny_bind (wpAny_typeOf hTs ?_);rw[if_pos ∅];refine wpAny_bind (sQ hs pl pu ?_);have hno:¬((((sIx items.size 0 lo:Nat):Int) == 0 && (1:Int) == 1 && (sIx items.size items.size hi - sIx items.size 0 lo) == items.size)=true):=by
  intro q;rw[Bool.and_eq_true,Bool.and_eq_true] at q;have q1:((sIx items.size 0 lo:Nat):Int)=0:=eq_of_beq q.1.1;have q2:sIx items.size items.size hi - sIx items.size 0 lo=items.size:=eq_of_beq q.2;exact hw ⟨(),()⟩
 show wpAny _ _ (if (((sIx items.size 0 lo:Nat):Int) == 0 && (1:Int) == 1 && (sIx items.size items.size hi - sIx items.size 0 lo) == items.size)=true then _ else _) _ _ s;rw[if_neg hno,Qw]
 first
  |exact wpAny_bind (m:=Builtin.Tuple.tupleExact _) (wpAny_newObj_type (wpAny_pure ⟨_,rfl,wpAny_pure h⟩) htake)
  |exact wpAny_bind (m:=Builtin.Tuple.tupleExact _) (wpAny_newObj_type (wpAny_bind (wpAny_pure (wpAny_pure ⟨_,rfl,wpAny_pure h⟩))) htake)
  |exact wpAny_bind (wpAny_bind (m:=Builtin.Tuple.tupleExact _) (wpAny_newObj_type (wpAny_pure (wpAny_pure ⟨_,rfl,wpAny_pure h⟩)) htake))
  |exact wpAny_bind (wpAny_bind (m:=Builtin.Tuple.tupleExact _) (wpAny_newObj_type (wpAny_pure ⟨_,rfl,wpAny_pure h⟩) htake))
end
end HT
namespace L2
open PySem PySem.Spec PyProof.Rows
abbrev TO:=St->Hp->(Option Int->Hp->Prop)->Prop
def PO (X:Cx)(e:Option Expr)(t:TO):Prop:=
 ∀(pins:List (Addr × Obj)) (s:Shared) (σ:St) (H:Hp) (Q:Option Int->Hp->Prop),Inv X pins σ H s->t σ H Q->
  zzW X (evalPart e X.env) (λu s'=>∃o H',Inv X pins σ H' s'/\IsPart u o/\Q o H') X.xe s
def Lv:TO:=λ_ H Q=>Q none H
def Zh (t:TE):TO:=λσ H Q=>t σ H λx H1=>∃i,x=.int i/\Q (some i) H1
section
variable {X:Cx} {e:Expr} {te:TE} {lo hi:Option Expr} {tl th:TO} {pos p2:Pos}
theorem jG:PO X none Lv:=by
 intro pins s σ H Q I h;rw[evalPart_none];exact wpAny_pure ⟨none,H,I,.none,h⟩
theorem fV (h:PE X e te):PO X (some e) (Zh te):=by
 intro pins s σ H Q I hw;rw[evalPart_some];refine thn (h pins s σ H _ I hw) λu s1 ⟨x,H1,I1,r1,q1⟩=>?_;obtain⟨i,rfl,q⟩:=q1;obtain⟨t,rfl⟩:=r1;exists some i,H1,I1,.int i t,q
def SlR (X:Cx)(r:V->Option Int->Option Int->Hp->VK->Prop):Prop:=
 ∀(pins:List (Addr × Obj)) (s:Shared) (σ:St) (H:Hp) (x:V) (v vl vu:Value) (lo hi:Option Int) (sl:Addr) (Q:VK),Inv X pins σ H s->cN x v->s.heap.IsSliceOf sl vl vu .none->IsPart vl lo->IsPart vu hi->r x lo hi H Q->
  ∃T id,typeLookup (.type T) "__getitem__"=pure (some (.builtin id))/\s.TypeIs v T/\zzW X (getItem v (.ref sl)) (EP X pins σ Q) X.xe s
def tSl (r:V->Option Int->Option Int->Hp->VK->Prop)(te:TE)(tl th:TO):TE:=λσ H Q=>te σ H λx H1=>tl σ H1 λl H2=>th σ H2 λu H3=>r x l u H3 Q
theorem gE (hr:SlR X r)(he:PE X e te)(hl:PO X lo tl)(hu:PO X hi th):PE X (.Subscript e (.Slice lo hi none p2) pos) (tSl r te tl th):=by
 intro pins s σ H Q I h;refine Subscript_ (thn (he pins s σ H _ I h) λv s1 ⟨x,H1,I1,r1,q1⟩=>?_);refine wpAny_Slice (thn (hl pins s1 σ H1 _ I1 q1) λvl s2 ⟨l,H2,I2,pl,q2⟩=>thn (hu pins s2 σ H2 _ I2 q2) λvu s3 ⟨u,H3,I3,pu,q3⟩=>?_);rw[evalPart_none];refine wpAny_pure ?_;have I4:Inv X pins σ H3 { s3 with heap:=s3.heap.push { cls:=.type "slice",data:=.fields #[vl,vu,.none] } }:=I3.kept (t':=s3.toks) λb ob q=>Heap.get?_push_of_some _ q;obtain⟨T,id,hT,ht,hg⟩:=hr pins { s3 with heap:=s3.heap.push { cls:=.type "slice",data:=.fields #[vl,vu,.none] } } σ H3 x v vl vu l u s3.heap.objs.size Q I4 r1 (Heap.IsSliceOf.new ..) pl pu q3;show zzW X (subscriptTail e (.Slice lo hi none p2) v (.ref s3.heap.objs.size)) (EP X pins σ Q) X.xe { s3 with heap:=s3.heap.push { cls:=.type "slice",data:=.fields #[vl,vu,.none] } };exact tail_any (ops:=[.ref s3.heap.objs.size,v]) ht hT hg (by with_unfolding_all rfl)
def kU (xs:wk)(lo hi:Option Int):wk:=(xs.drop (HT.sIx xs.length 0 lo)).take (HT.sIx xs.length xs.length hi - HT.sIx xs.length 0 lo)
theorem uM (xs:wk)(lo hi:Option Int):(kU xs lo hi).length<=xs.length:=by
 unfold kU;exact Nat.le_trans (length_take_le' _ _) (by rw[length_drop];exact Nat.sub_le _ _)
inductive qp0 (K:Frag) (x:V) (lo:Option Int) (hi:Option Int) (H:Hp) (Q:VK):Prop where
 |mk (a xs):x=.ref a->SqT K H a xs->(¬(HT.sIx xs.length 0 lo=0/\HT.sIx xs.length xs.length hi=xs.length))->(∀p,H p=none->Q (.ref p) (upd H p (.tup (kU xs lo hi))))->qp0 K x lo hi H Q
theorem qj6:SlR X (qp0 X.K):=by
 intro pins s σ H x v vl vu lo hi sl Q I rx hs pl pu h;obtain⟨a,xs,rfl,hx,hw,q⟩:=h
 cases rx
 obtain⟨its,r,ht,hz⟩:=I.tuple hx;have hlen:its.toArray.size=xs.length:=by rw[size_toArray];exact r.length.symm
 exists "tuple",_,PyProof.Rows.slot_tuple_getitem.lookup,ht.typeIs,?_;refine HT.getItem_tuple_cut ht hs pl pu (by rw[hlen];exact hw) ?_ (by rw[hlen];exact hz);rw[hlen];exists .ref s.heap.objs.size,_,I.laid (t':=s.toks) (o:=.tup (kU xs lo hi)) (λb ob q=>Heap.get?_push_of_some _ q) (Nat.le_refl _) ?_,rfl,q _ (I.hok.fresh (Nat.le_refl _));exists Nat.le_trans (uM xs lo hi) hz,_,(r.drop (HT.sIx xs.length 0 lo)).take (HT.sIx xs.length xs.length hi - HT.sIx xs.length 0 lo),IsTup.new _ _
end
def ixN (n:Nat)(i:Int):Option Nat:=if 0<=i then (if i < n then some i.toNat else none) else if -(n:Int)<=i then some (i+n).toNat else none
def atI {α:Type}(xs:List α)(i:Int):Option α:=(ixN xs.length i).bind λj=>xs[j]?
theorem Mg (h:ixN n i=some j):seqIndex? i n=some j/\j < n/\-(n:Int)<=i/\i < n:=by
 unfold ixN at h
 by_cases h0:0<=i
 .rw[if_pos h0] at h
  by_cases h1:i < n
  .rw[if_pos h1] at h;have e:i.toNat=j:=Option.some.inj h;exists by rw[seqIndex_of h0 h1,e],(),(),h1
  .rw[if_neg h1] at h;cases h
 .rw[if_neg h0] at h
  by_cases h1:-(n:Int)<=i
  .rw[if_pos h1] at h;have e:(i+n).toNat=j:=Option.some.inj h;exists by rw[seqIndex_neg () h1,e],(),h1,()
  .rw[if_neg h1] at h;cases h
theorem Lj (h:atI xs i=some v):∃j,seqIndex? i xs.length=some j/\xs[j]?=some v/\j < xs.length/\-(xs.length:Int)<=i/\i < xs.length:=by
 unfold atI at h
 cases e:ixN xs.length i with
 |none=>rw[e] at h;cases h
 |some j=>
  rw[e] at h;obtain⟨h1,h2,h3,h4⟩:=Mg e;exists j,h1,h,h2,h3,h4
theorem cA {xs:List α}{j:Nat}{v:α}(h:xs[j]?=some v):atI xs (j:Int)=some v:=by
 have hj:j < xs.length:=(wq.mp h).1;have e:ixN xs.length (j:Int)=some j:=by
  unfold ixN;rw[if_pos (),if_pos ()];simp
 unfold atI;rw[e];exact h
def Xg (b:Expr):Prop:=∀o i,subscripted b false o i=operate [o,i] (getItem o i)
def IxR (X:Cx)(r:R2):Prop:=
 ∀(value slice:Expr) (pins:List (Addr × Obj)) (s:Shared) (σ:St) (H:Hp) (x y:V) (v u:Value) (Q:VK),Inv X pins σ H s->cN x v->cN y u->r x y H Q->
  subscripted slice false v u=operate [v,u] (getItem v u)->zzW X (subscriptTail value slice v u) (EP X pins σ Q) X.xe s
def MtR (X:Cx)(id:String)(r:V->wk->Hp->VK->Prop):Prop:=
 ∀(pins:List (Addr × Obj)) (s:Shared) (σ:St) (H:Hp) (x:V) (xs:wk) (v:Value) (us:List Value) (Q:VK),Inv X pins σ H s->cN x v->cJ xs us->r x xs H Q->
  zzW X (call (.builtin id) (v :: us)) (EP X pins σ Q) X.xe s
section
variable {X:Cx} {a b:Expr} {ta tb:TE} {pos:Pos}
theorem aK (hr:IxR X r)(ha:PE X a ta)(hb:PE X b tb)(hs:Xg b:=by exact λ_ _=>rfl):PE X (.Subscript a b pos) (tOp r ta tb):=by
 intro pins s σ H Q I h;exact Subscript_ (qa7 ha hb I h λv u s2 x y H2 I2 rx ry q=>hr a b pins s2 σ H2 x y v u Q I2 rx ry q (hs _ _))
inductive qb6 (K:Frag) (x:V) (y:V) (H:Hp) (Q:VK):Prop where
 |mk (p xs i v):x=.ref p->y=.int i->SqL K H p xs->atI xs i=some v->Q v H->qb6 K x y H Q
inductive Si (K:Frag) (x:V) (y:V) (H:Hp) (Q:VK):Prop where
 |mk (p xs i v):x=.ref p->y=.int i->SqT K H p xs->atI xs i=some v->Q v H->Si K x y H Q
theorem bX:IxR X (qb6 X.K):=by
 intro value slice pins s σ H x y v u Q I rx ry h hs;obtain⟨p,xs,i,z,rfl,rfl,hq,he,q⟩:=h
 cases rx
 obtain⟨t,rfl⟩:=ry;obtain⟨its,r,pl,hz⟩:=I.list hq;obtain⟨j,h1,h2,h3,h4,h5⟩:=Lj he;obtain⟨w,ew,rw'⟩:=r.get h2;have hl:=r.length;have hn:=Cs;have fin:EP X pins σ Q w s:=⟨z,H,I,rw',q⟩
 by_cases h0:0<=i
 .have hj:i.toNat=j:=by
   rw[seqIndex_of h0 h5] at h1;exact Option.some.inj h1
  exact item_listR pl.isList h0 () (by rw[hj];simpa using ew) fin hs
 .have hj:(i+(its.toArray.size:Int)).toNat=j:=by
   rw[seqIndex_neg () h4] at h1;rw[size_toArray,<- hl];exact Option.some.inj h1
  exact subscriptTail_builtinR (x:=w) pl.isList.typeIs slot_list_getitem.lookup
   (wpAny_getItem_list_neg (Q:=λr s'=>r=w/\EP X pins σ Q r s') pl.isList () (by rw[size_toArray]<;>lia) () (by rw[hj];simpa using ew) ⟨rfl,fin⟩) hs
theorem aY:IxR X (Si X.K):=by
 intro value slice pins s σ H x y v u Q I rx ry h hs;obtain⟨p,xs,i,z,rfl,rfl,hq,he,q⟩:=h
 cases rx
 obtain⟨t,rfl⟩:=ry;obtain⟨its,r,pl,hz⟩:=I.tuple hq;obtain⟨j,h1,h2,h3,h4,h5⟩:=Lj he;obtain⟨w,ew,rw'⟩:=r.get h2;have hl:=r.length;have hn:=Cs;have fin:EP X pins σ Q w s:=⟨z,H,I,rw',q⟩
 exact subscriptTail_builtinR (x:=w) pl.typeIs slot_tuple_getitem.lookup
  (getItem_tuple (j:=j) (Q:=λr s'=>r=w/\EP X pins σ Q r s') pl () () (by rw[size_toArray,<- hl];exact h1) (by simpa using ew) ⟨rfl,fin⟩) hs
theorem Gy (its:List Value)(n j:Nat)(u:Value):Obj.mapSeq (·.setIfInBounds j u) { cls:=.type "list",data:=.seq its.toArray n }={ cls:=.type "list",data:=.seq (its.set j u).toArray n }:=by
 simp[Obj.mapSeq]
theorem Inv.lst (I:Inv X pins σ H s)(h:H p=some (.lst xs)):
  ∃(its:List Value) (n:Nat),cJ xs its/\s.heap.get? p=some { cls:=.type "list",data:=.seq its.toArray n }/\xs.length<=sizeLine:=by
 obtain⟨z,its,n,r,e⟩:=I.hok p _ h;exists its,n,r,e,z
theorem Inv.lstUpd {its its':List Value}(I:Inv X pins σ H s)(h:H p=some (.lst xs))(ho:s.heap.get? p=some { cls:=.type "list",data:=.seq its.toArray n })(hf:f { cls:=.type "list",data:=.seq its.toArray n }={ cls:=.type "list",data:=.seq its'.toArray n' })(r:cJ ys its')(hz:ys.length<=sizeLine)(t:Nat):
  Inv X pins σ (upd H p (.lst ys)) { s with heap:=s.heap.update p f,toks:=t }:=by
 have e:(s.heap.update p f).get? p=some { cls:=.type "list",data:=.seq its'.toArray n' }:=by
  rw[Heap.get?_update_self f ho (by rw[hf]<;>rfl),hf]
 refine I.write (x:=p) (e:=p) (by rw[h];trivial) (.inl rfl) (λb u hb q=>(Heap.get?_update_other _ _ (Ne.symm hb)).trans q) ⟨_,e⟩ ?_;exists hz,its',n',r,e
def qq2:V->V->V->Hp->(Hp->Prop)->Prop:=λo i v H Q=>∃p xs k j,o=.ref p/\i=.int k/\H p=some (.lst xs)/\ixN xs.length k=some j/\Q (upd H p (.lst (xs.set j v)))
theorem jW:qs2 X qq2:=by
 intro pins s σ H o i v ov iv u Q I ro ri rv h;obtain⟨p,xs,k,j,rfl,rfl,hp,hj,q⟩:=h
 cases ro
 obtain⟨t,rfl⟩:=ri;obtain⟨its,n,r,ho,hz⟩:=I.lst hp;obtain⟨h1,h2,h3,h4⟩:=Mg hj;have hl:=r.length;have hn:=Cs;have I':Inv X pins σ (upd H p (.lst (xs.set j v))) { s with heap:=s.heap.update p (Obj.mapSeq (·.setIfInBounds j u)) }:=
  I.lstUpd hp ho (Gy its n j u) (r.set rv j) (by rw[length_set];exact hz) s.toks
 by_cases h0:0<=k
 .have hk:k.toNat=j:=by
   rw[seqIndex_of h0 h4] at h1;exact Option.some.inj h1
  exact W.ki_setAt ho h0 () (by rw[size_toArray,<- hl];exact h4) (by rw[hk];exact⟨_,I',q⟩)
 .have hk:(k+(its.toArray.size:Int)).toNat=j:=by
   rw[seqIndex_neg () h3] at h1;rw[size_toArray,<- hl];exact Option.some.inj h1
  exact W.ki_setBack ho () (by rw[size_toArray,<- hl];exact h3) () (by rw[hk];exact⟨_,I',q⟩)
theorem sbA (lo hi:Option Int)(n:Nat):(sliceBounds lo hi none n).1=((HT.sIx n 0 lo:Nat):Int):=by
 cases lo with
 |none=>simp[sliceBounds,HT.sIx]
 |some i=>
  simp only[sliceBounds,HT.sIx,Option.getD_none,show (1:Int) > 0 by decide,if_true]
  by_cases h:i < 0
  .simp only[h,if_true]<;>lia
  .simp only[h,if_false]<;>lia
theorem Bs (lo hi:Option Int)(n:Nat):(sliceBounds lo hi none n).1=((HT.sIx n 0 lo:Nat):Int)/\(sliceBounds lo hi none n).2.1=((HT.sIx n n hi:Nat):Int)/\(sliceBounds lo hi none n).2.2=1:=by
 exists sbA lo hi n,?_,rfl
 cases hi with
 |none=>simp[sliceBounds,HT.sIx]
 |some i=>exact sbA (some i) lo n
theorem zF (its:List Value)(lo hi:Option Int):slicePick its.toArray lo hi none=((its.drop (HT.sIx its.length 0 lo)).take (HT.sIx its.length its.length hi - HT.sIx its.length 0 lo)).toArray:=by
 obtain⟨h1,h2,h3⟩:=Bs lo hi its.toArray.size;unfold slicePick;rw[h1,h2,h3];simp only[sliceRange_one,pick_run,size_toArray]<;>rfl
inductive Qm (K:Frag) (x:V) (lo:Option Int) (hi:Option Int) (H:Hp) (Q:VK):Prop where
 |mk (a xs):x=.ref a->SqL K H a xs->(∀p,H p=none->Q (.ref p) (upd H p (.lst (kU xs lo hi))))->Qm K x lo hi H Q
theorem iT:SlR X (Qm X.K):=by
 intro pins s σ H x v vl vu lo hi sl Q I rx hs pl pu h;obtain⟨a,xs,rfl,hx,q⟩:=h
 cases rx
 obtain⟨its,r,ht,hz⟩:=I.list hx;have hlen:=r.length;exists "list",_,slot_list_getitem.lookup,ht.isList.typeIs,?_;refine wpAny_getItem_list_slice ht.isList hs pl pu .none ⋯ ?_ (by rw[size_toArray]<;>lia);rw[zF,<- hlen];exists .ref s.heap.objs.size,_,I.laid (t':=s.toks) (o:=.lst (kU xs lo hi)) (λb ob q=>Heap.get?_push_of_some _ q) (Nat.le_refl _) ?_,rfl,q _ (I.hok.fresh (Nat.le_refl _));exists Nat.le_trans (uM xs lo hi) hz,_,0,(r.drop (HT.sIx xs.length 0 lo)).take (HT.sIx xs.length xs.length hi - HT.sIx xs.length 0 lo),Heap.get?_push_size _ rfl
def oC:V->Bool
 | .non=>true
 | .bl _=>true
 | .int _=>true
 | .str _=>true
 |_=>false
def eqV:V->V->Bool
 | .non,.non=>true
 | .bl a,.bl b=>a == b
 | .bl a,.int b=>(if a then 1 else 0) == b
 | .int a,.bl b=>a == (if b then 1 else 0)
 | .int a,.int b=>a == b
 | .str a,.str b=>a == b
 |_,_=>false
theorem qg5 (ry:cN y u)(rx:cN x v)(fy:oC y=true)(fx:oC x=true):SeqAt.EqAt A s u v (eqV y x):=by
 cases y with
 |non=>
  cases ry
  cases x with
  |non=>cases rx;exact SeqAt.EqAt.same _
  |bl b=>cases rx;exact SeqAt.EqAt.none_bool b
  |int b=>obtain⟨t,rfl⟩:=rx;exact SeqAt.EqAt.none_int b t
  |str b=>obtain⟨t,rfl⟩:=rx;exact SeqAt.EqAt.none_str b t
  |_=>exact absurd (show false=true from fx) Bool.false_ne_true
 |bl a=>
  cases ry
  cases x with
  |non=>cases rx;exact SeqAt.EqAt.bool_none a
  |bl b=>cases rx;exact SeqAt.EqAt.bool_bool a b
  |int b=>obtain⟨t,rfl⟩:=rx;exact SeqAt.EqAt.bool_int a b t
  |str b=>obtain⟨t,rfl⟩:=rx;exact SeqAt.EqAt.bool_str a b t
  |_=>exact absurd (show false=true from fx) Bool.false_ne_true
 |int a=>
  obtain⟨t',rfl⟩:=ry
  cases x with
  |non=>cases rx;exact SeqAt.EqAt.int_none a t'
  |bl b=>cases rx;exact SeqAt.EqAt.int_bool a t' b
  |int b=>obtain⟨t,rfl⟩:=rx;exact SeqAt.EqAt.int_int a t' b t
  |str b=>obtain⟨t,rfl⟩:=rx;exact SeqAt.EqAt.int_str a t' b t
  |_=>exact absurd (show false=true from fx) Bool.false_ne_true
 |str a=>
  obtain⟨t',rfl⟩:=ry
  cases x with
  |non=>cases rx;exact SeqAt.EqAt.str_none a t'
  |bl b=>cases rx;exact SeqAt.EqAt.str_bool a t' b
  |int b=>obtain⟨t,rfl⟩:=rx;exact SeqAt.EqAt.str_int a t' b t
  |str b=>obtain⟨t,rfl⟩:=rx;exact SeqAt.EqAt.str_str a t' b t
  |_=>exact absurd (show false=true from fx) Bool.false_ne_true
 |_=>exact absurd (show false=true from fy) Bool.false_ne_true
def eqU (x:V)(u:Value):Bool:=match u with
 | .none=>eqV .non x
 | .bool b=>eqV (.bl b) x
 | .int i _=>eqV (.int i) x
 | .str z _=>eqV (.str z) x
 |_=>false
theorem Rh (r:cN y u)(f:oC y=true):eqU x u=eqV y x:=by
 cases y with
 |non=>cases r;rfl
 |bl b=>cases r;rfl
 |int i=>obtain⟨t,rfl⟩:=r;rfl
 |str z=>obtain⟨t,rfl⟩:=r;rfl
 |_=>exact absurd (show false=true from f) Bool.false_ne_true
theorem Bb:∀{xs:wk} {us:List Value},cJ xs us->xs.all oC=true->us.any (eqU x)=xs.any λy=>eqV y x
 |_,_,.nil,_=>rfl
 |y :: xs,u :: us,.cons r t,f=>by
  rw[all_cons,Bool.and_eq_true] at f;rw[any_cons,any_cons,Rh r f.1,Bb t f.2]
theorem xR (rx:cN x v)(fx:oC x=true):∀{xs:wk} {us:List Value},cJ xs us->xs.all oC=true->∀u∈us,SeqAt.EqAt A s u v (eqU x u)
 |_,_,.nil,_=>λu hu=>by cases hu
 |y :: xs,u :: us,.cons r t,f=>λu' hu=>by
  rw[all_cons,Bool.and_eq_true] at f;rcases mem_cons.mp hu with rfl | hu
  .rw[Rh r f.1];exact qg5 r rx f.1 fx
  .exact xR rx fx t f.2 u' hu
def inV (x:V)(xs:wk):Bool:=xs.any λy=>eqV y x
inductive rIn (K:Frag) (neg:Bool) (x:V) (y:V) (H:Hp) (Q:VK):Prop where
 |mk (p xs):y=.ref p->(SqL K H p xs\/SqT K H p xs)->oC x=true->xs.all oC=true->Q (.bl (if neg then !inV x xs else inV x xs)) H->rIn K neg x y H Q
theorem rY:OpR X (compareOp .In) (rIn X.K false):=by
 intro pins s σ H x y v u Q I rx ry h;obtain⟨p,xs,rfl,hq,fx,fs,q⟩:=h
 cases ry
 rcases hq with hq | hq
 .obtain⟨its,r,pl,hz⟩:=I.list hq;refine SeqAt.in_listAt (eqU x) pl.isList (λw hw=>xR rx fx r fs w (by simpa using hw)) ⟨.bl _,H,I,rfl,?_⟩;rw[show its.toArray.any (eqU x)=its.any (eqU x) by simp,Bb r fs];exact q
 .obtain⟨its,r,pl,hz⟩:=I.tuple hq;refine SeqAt.in_tupleAt (eqU x) pl (λw hw=>xR rx fx r fs w (by simpa using hw)) ⟨.bl _,H,I,rfl,?_⟩;rw[show its.toArray.any (eqU x)=its.any (eqU x) by simp,Bb r fs];exact q
theorem bV:lQ X (.builtin "len") (λxs H Q=>∃p ys,xs=[.ref p]/\(SqL X.K H p ys\/SqT X.K H p ys)/\Q (.int ys.length) H):=by
 intro pins s σ H xs us Q I r h;obtain⟨p,ys,rfl,hq,q⟩:=h;obtain⟨u,rfl,rx⟩:=rT r
 cases rx
 have hn:=Cs;rcases hq with hq | hq
 .obtain⟨its,r',pl,hz⟩:=I.list hq;have hlen:=r'.length;exact Calls.call_len_list pl.isList (by simp only[size_toArray]<;>lia) ⟨.int ys.length,H,I.tok _,⟨s.toks+1,by rw[size_toArray,hlen]⟩,q⟩
 .obtain⟨its,r',pl,hz⟩:=I.tuple hq;have hlen:=r'.length;exact len_tuple pl (by simp only[size_toArray]<;>lia) ⟨.int ys.length,H,I.tok _,⟨s.toks+1,by rw[size_toArray,hlen]⟩,q⟩
theorem iB:lQ X (.type "list") (λxs H Q=>∃p ys,xs=[.ref p]/\(SqL X.K H p ys\/SqT X.K H p ys)/\∀l,H l=none->Q (.ref l) (upd H l (.lst ys))):=by
 intro pins s σ H xs us Q I r h;obtain⟨p,ys,rfl,hq,q⟩:=h;obtain⟨u,rfl,rx⟩:=rT r
 cases rx
 have fin:∀(its:List Value),cJ ys its->ys.length<=sizeLine->∀(h':Heap) (c':Nat),(∀b o',s.heap.get? b=some o'->h'.get? b=some o')->
   h'.get? s.heap.objs.size=some { cls:=.type "list",dict:=none,data:=.seq its.toArray c',slots:=#[] }->EP X pins σ Q (.ref s.heap.objs.size) { s with heap:=h' }:=λits r' hz h' c' kp e=>
  ⟨.ref s.heap.objs.size,_,I.laid (t':=s.toks) kp (Nat.le_refl _) (show dP X.prog X.w _ h' _ (.lst ys) from ⟨hz,its,c',r',e⟩),rfl,q _ (I.hok.fresh (Nat.le_refl _))⟩
 rcases hq with hq | hq
 .obtain⟨its,r',pl,hz⟩:=I.list hq;have hlen:=r'.length;obtain⟨o,ho,hc,n,hd⟩:=pl.isList;exact call_list_seq p (.inl rfl) ho hc hd (λh' c' kp e=>fin its r' hz h' c' kp e) (by simp only[size_toArray]<;>lia)
 .obtain⟨its,r',pl,hz⟩:=I.tuple hq;have hlen:=r'.length;obtain⟨o,ho,hc,n,hd⟩:=pl;exact call_list_seq p (.inr rfl) ho hc hd (λh' c' kp e=>fin its r' hz h' c' kp e) (by simp only[size_toArray]<;>lia)
theorem pO:lQ X (.type "tuple") (λxs H Q=>∃p ys,xs=[.ref p]/\((SqL X.K H p ys/\∀l,H l=none->Q (.ref l) (upd H l (.tup ys)))\/(SqT X.K H p ys/\Q (.ref p) H))):=by
 intro pins s σ H xs us Q I r h;obtain⟨p,ys,rfl,h⟩:=h;obtain⟨u,rfl,rx⟩:=rT r
 cases rx
 rcases h with ⟨hq,q⟩ | ⟨hq,q⟩
 .obtain⟨its,r',pl,hz⟩:=I.list hq;have hlen:=r'.length;refine call_tuple_list pl.isList (λh' kp=>?_) (by simp only[size_toArray]<;>lia);have I1:Inv X pins σ H { s with heap:=h' }:=I.kept (t':=s.toks) kp;have I2:Inv X pins σ (upd H h'.objs.size (.tup ys)) { s with heap:=h'.push { cls:=.type "tuple",data:=.seq its.toArray } }:=
   I1.laid (t':=s.toks) (λb o e=>Heap.get?_push_of_some _ e) (Nat.le_refl _) (show dP X.prog X.w _ _ _ (.tup ys) from ⟨hz,its,r',IsTup.new _ _⟩)
  exists .ref h'.objs.size,_,I2,rfl,q _ (I1.hok.fresh (Nat.le_refl _))
 .obtain⟨its,r',pl,hz⟩:=I.tuple hq;exact call_tuple_same pl ⟨.ref p,H,I,rfl,q⟩
def tyV (K:Frag)(T:String)(x:V)(H:Hp):Prop:=match x with
 | .str _=>T = "str"
 | .int _=>T = "int"
 | .ref p=>(T = "list"/\∃xs,SqL K H p xs)\/(T = "tuple"/\∃o,K.lookup p=some o/\o.cls=.type "tuple"/\o.dict=none)\/
   (T = "dict"/\((∃kvs,H p=some (.dK kvs))\/∃kvs,H p=some (.dT kvs)))\/(T = "set"/\∃S n,H p=some (.set S n))
 |_=>False
theorem Qo (I:Inv X pins σ H s)(r:cN x v)(ty:tyV X.K T x H):
  s.TypeIs v T/\∀a,v=.ref a->∃ob,s.heap.get? a=some ob/\ob.dict=none:=by
 cases x with
 |str z=>
  obtain⟨t,rfl⟩:=r
  cases (show T = "str" from ty)
  exists typeIs_str s z t,λ_ e=>nomatch e
 |int i=>
  obtain⟨t,rfl⟩:=r
  cases (show T = "int" from ty)
  exists typeIs_int s i t,λ_ e=>nomatch e
 |ref p=>
  cases r
  rcases ty with ⟨rfl,xs,hq⟩ | ⟨rfl,o,hk,hc,hd⟩ | ⟨rfl,hk⟩ | ⟨rfl,S,n,hk⟩
  .obtain⟨its,_,pl,_⟩:=I.list hq;exists pl.isList.typeIs,λa e=>?_
   cases e
   obtain⟨o,n,e,c,hd,_⟩:=pl;exists o,e,hd
  .exists ⟨o,I.kIn p o hk,hc⟩,λa e=>?_
   cases e
   exists o,I.kIn _ o hk,hd
  .have z:∃o,s.heap.get? p=some o/\o.ExactDict:=by
    rcases hk with ⟨kvs,hk⟩ | ⟨kvs,hk⟩
    .obtain⟨_,_,_,_,o,_,_,e,ex,_⟩:=I.hok p _ hk;exists o,e,ex
    .obtain⟨_,_,_,_,o,_,_,e,ex,_⟩:=I.hok p _ hk;exists o,e,ex
   obtain⟨o,e,ex⟩:=z;exists ⟨o,e,ex.1⟩,λa e2=>?_
   cases e2
   exists o,e,ex.2.1
  .obtain⟨o,_,_,_,e,ex,_⟩:=I.hok p _ hk;exists ⟨o,e,ex.1⟩,λa e2=>?_
   cases e2
   exists o,e,ex.2.1
 |_=>exact False.elim ty
def qs4 (K:Frag)(T:String)(r:V->wk->Hp->VK->Prop)(to:TE):TE:=λσ H Q=>to σ H λx H1=>tyV K T x H1/\r x [] H1 Q
def tBM (K:Frag)(T:String)(r:V->wk->Hp->VK->Prop)(to:TE)(t:TA):TE:=λσ H Q=>to σ H λx H1=>tyV K T x H1/\t σ H1 λxs H2=>r x xs H2 Q
variable {o e:Expr} {es:List Expr} {to:TE} {t:TA} {name:Str} {apos cpos:Pos} {T id:String} {r:V->wk->Hp->VK->Prop}
theorem qc5 (pa:PlainAttrs T)(slot:Slot T name id)(hty:typeOf (.builtin id)=pure (.type "method_descriptor"))(hm:MtR X id r)(ho:PE X o to)(hbase:attributeBase o name X.env (eval o X.env)=eval o X.env:=by rfl)(hline:(apos.endLine == cpos.line)=true:=by rfl):PE X (.Call (.Attribute o name apos) [] [] cpos) (qs4 X.K T r to):=by
 intro pins s σ H Q I h;refine wpAny_Call_method0_late hbase hline (thn (ho pins s σ H _ I h) λv s1 ⟨x,H1,I1,r1,ty,q1⟩=>?_);obtain⟨h1,h2⟩:=Qo I1 r1 ty;exists T,id,pa,slot,hty,h1,h2,Calls.callWith_builtin rfl (PySem.evalArgs_none (hm pins s1 σ H1 x [] v [] Q I1 r1 .nil q1))
theorem mH (pa:PlainAttrs T)(slot:Slot T name id)(hty:typeOf (.builtin id)=pure (.type "method_descriptor"))(hm:MtR X id r)(ho:PE X o to)(ha:PA X (e :: es) t)(hbase:attributeBase o name X.env (eval o X.env)=eval o X.env:=by rfl)(hfew:((backTo cpos (starEach (e :: es) X.env)).all (λx=>!x.1) && (backToKw cpos (keywordEach [] X.env)).all (λx=>x.1.isSome)
   && decide ((e :: es).length+([]:List Keyword).length+(if ([]:List Keyword).isEmpty then 0 else 1) < 30))=true:=by rfl)(hline:(apos.endLine == cpos.line)=true:=by rfl)(hs:starEach (e :: es) X.env=(false,eval e X.env) :: starEach es X.env:=by rfl)(hplain:(backTo cpos (starEach es X.env)).any (·.1)=false:=by rfl) :
  PE X (.Call (.Attribute o name apos) (e :: es) [] cpos) (tBM X.K T r to t):=by
 intro pins s σ H Q I h;refine wpAny_Call_method_late hbase hfew hline rfl (thn (ho pins s σ H _ I h) λv s1 ⟨x,H1,I1,r1,ty,q1⟩=>?_);obtain⟨h1,h2⟩:=Qo I1 r1 ty;exists T,id,pa,slot,hty,h1,h2,?_;have hA:=ha cpos pins s1 σ H1 _ I1 q1;rw[hs] at hA ⊢;refine Calls.callWith_builtin (by show (false || (backTo cpos (starEach es X.env)).any (·.1))=false;rw[hplain]<;>rfl) (Calls.evalArgs_plain ?_);exact thn hA λus s2 ⟨vs,H2,I2,r2,q2⟩=>hm pins s2 σ H2 x vs v us Q I2 r1 r2 q2
end
def MtM (X:Cx)(id:String)(r:V->wk->Hp->VK->Prop):Prop:=
 ∀(pins:List (Addr × Obj)) (s:Shared) (σ:St) (H:Hp) (x:V) (xs:wk) (v:Value) (us:List Value) (Q:VK),Inv X pins σ H s->cN x v->cJ xs us->r x xs H Q->
  zzW X (call (.builtin id) (v :: us)) (EP X pins σ Q) X.xe s
theorem cJ.one:∀{x:V} {us:List Value},cJ [x] us->∃u,us=[u]/\cN x u
 |_,_,.cons r .nil=>⟨_,rfl,r⟩
theorem cJ.zero:∀{us:List Value},cJ [] us->us=[]
 |_,.nil=>rfl
theorem cJ.dropLast (h:cJ xs us):cJ xs.dropLast us.dropLast:=by
 induction h with
 |nil=>exact .nil
 |cons r t ih=>
  cases t with
  |nil=>exact .nil
  |cons q t'=>exact .cons r ih
theorem cJ.rep (h:cJ xs us):∀k:Nat,cJ (replicate k xs).flatten (replicate k us).flatten
 |0=>.nil
 |k+1=>by
  rw[replicate_succ,replicate_succ,flatten_cons,flatten_cons];exact cJ.append h (cJ.rep h k)
theorem Kc {α:Type}(l:List α):l.eraseIdx (l.length - 1)=l.dropLast:=by
 induction l with
 |nil=>rfl
 |cons a r ih=>
  cases r with
  |nil=>rfl
  |cons b r=>
   have e:(a :: b :: r).length - 1=((b :: r).length - 1)+1:=by
    have h1:(a :: b :: r).length=r.length+2:=rfl;have h2:(b :: r).length=r.length+1:=rfl;lia
   rw[e,eraseIdx_cons_succ,ih]
   all_goals rfl
theorem zY (its:List Value):∀(k:Nat) (acc:List Value),
  foldl (λx1 x2=>x1++x2) acc.toArray (replicate k its.toArray)=(acc++(replicate k its).flatten).toArray
 |0,acc=>by simp
 |k+1,acc=>by
  have e:acc.toArray++its.toArray=(acc++its).toArray:=by simp
  have e2:(acc++its)++(replicate k its).flatten=acc++(replicate (k+1) its).flatten:=by
   rw[replicate_succ,flatten_cons,List.append_assoc]
  rw[<- e2,<- zY its k (acc++its),<- e,replicate_succ,foldl_cons]
section
variable {X:Cx} {pins:List (Addr × Obj)} {σ:St} {H:Hp} {s:Shared} {l b:Addr} {xs ys zs:wk}
theorem Inv.lset {its its':List Value}(I:Inv X pins σ H s)(hH:H l=some (.lst xs))(e:s.heap.get? l=some { cls:=.type "list",data:=.seq its.toArray n })(hf:f its.toArray=its'.toArray)(hv:cJ ys its')(hz:ys.length<=sizeLine):
  Inv X pins σ (upd H l (.lst ys)) { s with heap:=s.heap.update l (Obj.mapSeq f),toks:=t' }:=by
 have q:=PySem.IsL.update e f;rw[hf] at q;refine I.write (x:=l) (e:=l) (by rw[hH];exact trivial) (.inl rfl) (λb' u hb hu=>(Heap.get?_update_other s.heap (Obj.mapSeq f) (Ne.symm hb)).trans hu) ⟨_,q⟩ ?_;exists hz,its',_,hv,q
theorem Inv.lnew (I:Inv X pins σ H s)(hv:cJ ys its)(hz:ys.length<=sizeLine):
  Inv X pins σ (upd H s.heap.objs.size (.lst ys)) { s with heap:=s.heap.push { cls:=.type "list",data:=.seq its.toArray },toks:=t' }:=
 I.laid (λ_ _ q=>Heap.get?_push_of_some _ q) (Nat.le_refl _) ⟨hz,its,0,hv,Heap.get?_push_size _ rfl⟩
theorem Inv.fresh (I:Inv X pins σ H s):H s.heap.objs.size=none:=I.hok.fresh (Nat.le_refl _)
theorem Inv.lstM (I:Inv X pins σ H s)(hH:H l=some (.lst xs)):xs.length<=sizeLine/\∃(its:List Value) (n:Nat),cJ xs its/\xs.length=its.length/\s.heap.get? l=some { cls:=.type "list",data:=.seq its.toArray n }:=by
 obtain⟨z,its,n,r,e⟩:=I.hok l _ hH;exists z,its,n,r,r.length,e
theorem Tl (h:n<=sizeLine):Builtin.List.listTooLong n=false:=by
 unfold Builtin.List.listTooLong;exact decide_eq_false ()
end
section
variable {X:Cx}
inductive Lw (x:V) (vs:wk) (H:Hp) (Q:VK):Prop where
 |mk (l xs y):x=.ref l->vs=[y]->H l=some (.lst xs)->xs.length < sizeLine->Q .non (upd H l (.lst (xs++[y])))->Lw x vs H Q
theorem eQ:MtM X "list.append" Lw:=by
 intro pins s σ H x vs v us Q I rx rv h;obtain⟨l,xs,y,rfl,rfl,hH,hz,q⟩:=h
 cases rx
 obtain⟨u,rfl,ru⟩:=rv.one;obtain⟨z,its,n,r,hl,e⟩:=I.lstM hH;refine call_meets F.slot_list_append ⟨_,e,rfl⟩ F.entry_list_append (F.args_list_append_2 _ _) (PySem.list_append l its.toArray n u (by rw[size_toArray];lia)) ⟨e,?_⟩;exists .non,_,I.lset (its':=its++[u]) hH e ⋯ (r.append (.cons ru .nil)) ?_,rfl,q;rw[xj,length_singleton];lia
inductive qq1 (x:V) (vs:wk) (H:Hp) (Q:VK):Prop where
 |mk (l xs y):x=.ref l->vs=[]->H l=some (.lst xs)->xs[xs.length - 1]?=some y->Q y (upd H l (.lst xs.dropLast))->qq1 x vs H Q
theorem qe1:MtM X "list.pop" qq1:=by
 intro pins s σ H x vs v us Q I rx rv h;obtain⟨l,xs,y,rfl,rfl,hH,hy,q⟩:=h
 cases rx
 have hus:=rv.zero;subst hus;obtain⟨z,its,n,r,hl,e⟩:=I.lstM hH;obtain⟨u,hu,ru⟩:=r.get hy;have hy':its.toArray[its.toArray.size - 1]?=some u:=by
  show its.toArray[its.length - 1]?=some u;rw[<- Array.getElem?_toList,<- hl];exact hu
 refine call_meets F.slot_list_pop ⟨_,e,rfl⟩ F.entry_list_pop (F.args_list_pop_1 _) (MeetsSeq.list_pop_last l its.toArray n u hy' (by rw[size_toArray];lia)) ⟨e,?_⟩;exists y,_,I.lset (its':=its.dropLast) hH e ?_ r.dropLast ?_,ru,q
 .show its.toArray.eraseIdxIfInBounds (its.toArray.size - 1)=its.dropLast.toArray;rw[size_toArray,eraseIdxIfInBounds_toArray,Kc]
 .rw[length_dropLast];lia
inductive qp6 (x:V) (y:V) (H:Hp) (Q:VK):Prop where
 |mk (l b xs zs):x=.ref l->y=.ref b->H l=some (.lst xs)->H b=some (.lst zs)->xs.length+zs.length<=sizeLine->(∀p,H p=none->Q (.ref p) (upd H p (.lst (xs++zs))))->qp6 x y H Q
theorem sS:OpR X (binaryOp .Add) qp6:=by
 intro pins s σ H x y v u Q I rx ry h;obtain⟨l,b,xs,zs,rfl,rfl,hH,hB,hz,q⟩:=h
 cases rx
 cases ry
 obtain⟨z,its,n,r,hl,e⟩:=I.lstM hH;obtain⟨z2,its2,n2,r2,hl2,e2⟩:=I.lstM hB;refine PySem.P.add_list e e2 ?_ (by rw[size_toArray,size_toArray];lia);have ea:its.toArray++its2.toArray=(its++its2).toArray:=by simp
 rw[ea];exists .ref _,_,I.lnew (t':=s.toks) (r.append r2) (by rw[xj];lia),rfl,q _ I.fresh
inductive qq3 (x:V) (y:V) (H:Hp) (Q:VK):Prop where
 |mk (l k xs):x=.ref l->y=.int k->H l=some (.lst xs)->-(2 ^ 63)<=k->k < 2 ^ 63->xs.length*k.toNat<=sizeLine->(∀p,H p=none->Q (.ref p) (upd H p (.lst (replicate k.toNat xs).flatten)))->qq3 x y H Q
theorem Xo {α:Type}(xs:List α)(k:Nat):(replicate k xs).flatten.length=k*xs.length:=by
 induction k with
 |zero=>simp
 |succ k ih=>rw[replicate_succ,flatten_cons,xj,ih,Nat.succ_mul,Nat.add_comm]
theorem sZ:OpR X (binaryOp .Mult) qq3:=by
 intro pins s σ H x y v u Q I rx ry h;obtain⟨l,k,xs,rfl,rfl,hH,h1,h2,hz,q⟩:=h
 cases rx
 obtain⟨t,rfl⟩:=ry;obtain⟨z,its,n,r,hl,e⟩:=I.lstM hH;have hlen:its.toArray.size*k.toNat<=sizeLine:=by rw[size_toArray,<- hl];exact hz
 have hcap:¬its.toArray.size*k.toNat > (2 ^ 63 - 1) / 8:=by
  have:(sizeLine:Nat)<=(2 ^ 63 - 1) / 8:=by decide
  lia
 have hfit:¬(!Builtin.List.listFitsIndex k)=true:=by
  rw[fitsIndex_both h1 h2];exact Bool.false_ne_true
 have hlong:¬Builtin.List.listTooLong (its.toArray.size*k.toNat)=true:=by
  rw[Tl hlen];exact Bool.false_ne_true
 have hnew:foldl (λx1 x2=>x1++x2) #[] (replicate (if its.toArray.isEmpty=true then 0 else k.toNat) its.toArray)=(replicate k.toNat its).flatten.toArray:=by
  have f0:∀m:Nat,foldl (λx1 x2=>x1++x2) #[] (replicate m its.toArray)=(replicate m its).flatten.toArray:=λm=>by
   have:=zY its m [];rw[nil_append] at this;exact this
  rw[f0]
  cases its with
  |nil=>simp
  |cons a r'=>rw[if_neg ⋯]
 refine wpAny_binaryOp_repeat_ref (T:="list") (U:="int") ∅ ⟨_,e,rfl⟩ (λs'=>typeIs_int s' k t) noFill_list_mul F.fills_int_mul F.slot_int_rmul repeat_list F.slot_int_index.lookup
  (call_meets F.slot_int_rmul (typeIs_int s k t) F.entry_int_rmul (F.args_int_rmul_2 _ _) (int___rmul___int_list k t l its.toArray n)
   ⟨e,rfl,⟨_,e,rfl⟩,call_meets F.slot_list_mul ⟨_,e,rfl⟩ F.entry_list_mul (F.args_list_mul_2 _ _) (AutoListH.list___mul___list_int_3 l its.toArray n k t hfit hcap hlong) ⟨e,?_⟩⟩)
 rw[hnew];exists .ref _,_,I.lnew (t':=s.toks) (r.rep k.toNat) (by rw[Xo,Nat.mul_comm];exact hz),rfl,q _ I.fresh
end
end L2
namespace Att
open PySem PySem.W PySem.Calls PyProof.Rows
theorem uX:∀(ns:List Int) (vs:List Value),WellAll P h vs (ns.map WData.int)->IntsAre vs ns:=by
 intro ns
 induction ns with
 |nil=>
  intro vs w;rw[map_nil] at w
  cases w
  exact .nil
 |cons n ns ih=>
  intro vs w;rw[map_cons] at w
  cases w with
  |cons a b=>
   cases a
   exact .cons _ _ (ih _ b)
theorem On {l:OpenLaw}(hn:l.most=some n)(hpre:l.row.toRowW.claim.pre args=true)(hwl:WellAll P h vals args):
  ∃a vs ns,vals=[Value.ref a]/\args=[WData.list (ns.map WData.int)]/\h.get? a=some { cls:=.type "list",data:=.seq vs.toArray }/\IntsAre vs ns/\ns.length<=n:=by
 have hsh:WShape.hasAll [] args [.list .int]=true:=(pre_splitW hpre).1;have hc:l.pre.holds [] { args:=args }=true:=(pre_splitW hpre).2;obtain⟨d,r,rfl,h1,h2⟩:=hasAllW_cons hsh;obtain rfl:=hasAllW_nil h2;obtain⟨xs,rfl,h3⟩:=hasW_list h1;obtain⟨ns,rfl⟩:=items_int h3;have hlen:ns.length<=n:=by
  unfold OpenLaw.pre at hc;have h4:(WTm.not (.lt (.lit (.int (n:Int))) (.len (.arg 0)))).holds [] { args:=[.list (ns.map .int)] }=true:=by
   have h4:=(holds_andW hc).1;rw[hn] at h4;exact h4
  have h5:=condW_of h4 (w_not (w_lt w_lit (w_len_list (w_arg rfl))));rw[length_map] at h5;refine Nat.le_of_not_lt λq=>?_;have q':(n:Int) < ((ns.length:Nat):Int):=by lia
  first
   | (rw[decide_eq_true q'] at h5;exact absurd h5 ∅)
   | (simp at h5;lia)
 cases hwl with
 |cons w1 w2=>
  cases w2
  cases w1 with
  |list ho hall=>exact⟨_,_,ns,rfl,rfl,ho,uX ns _ hall,hlen⟩
theorem Oo (l:OpenLaw)(args:List WData):l.row.toRowW.claim.post args (.bool true) args=true:=
 postW_of (r:=l.row.toRowW) (X:=(true == true))
  (show WShape.has [] (.bool true) .bool=true by first | rfl | decide | simp[WShape.has,WShape.arms,WShape.armsAll])
  (show (WTm.eq .res (.lit (.bool true))).value [] { args:=args,res:=some (.bool true),after:=args }=some (.bool (true == true)) from w_eq_bool (w_res rfl) w_lit) rfl
theorem attach_call {l:OpenLaw}(hn:l.most=some n)(hdf:d.params.defaults=[])(call:∀(w:World) (s₀ s₁:Shared) (mg mb:Str->Option Value) (fa:Addr) (o:Obj) (pm cd doc:Value) (a:Addr) (vs:List Value) (ns:List Int),
   Ground q loose [] XP w s₀ mg mb s₁.heap->YP w s₁.heap->
   s₁.heap.get? fa=some o->o.data=.func (docDef d.name d.params d.body d.scope pm cd doc)->s₁.heap.CodeRec cd d.name->mg d.name=some (.ref fa)->
   s₁.heap.get? a=some { cls:=.type "list",data:=.seq vs.toArray }->IntsAre vs ns->ns.length<=n->s₁.gens=#[]->
   codeAny (model l.prog w) callerA (.call (.ref fa) ⟨[.ref a],[]⟩) (λr s'=>r=.ok (.ret (.bool true))/\OldK s₁.heap s'.heap/\s'.os=s₁.os/\AllBare s'.gens) s₁):
  WalkO q loose XP YP l.row.toRowW d [] (λf vs=>PySem.call f vs):=by
 intro w s₀ s₁ mg mb G Y fa o pm cd doc dV kV ho hd hcd hD hmg hg args vals as hpre hlay hrd hwl hlo;obtain rfl:dV=.none:=Dflts.none hD hdf;obtain rfl:kV=.none:=Dflts.noKw hD;obtain⟨a,vs,ns,rfl,rfl,hobj,hints,hlen⟩:=On hn hpre hwl;refine enter_call (codeAny_mono (call w s₀ s₁ mg mb fa o pm cd doc a vs ns G Y ho (fd_plain hd) hcd hmg hobj hints hlen hg) λr s' hq=>?_);obtain⟨rfl,h2,h3,h4⟩:=hq;exists .inl ⟨.bool true,.bool true,[],rfl,λ_=>rfl,.bool true,Oo l _,λ_=>⟨Pairwise.nil,λ_ hm=>(nomatch hm)⟩⟩,h2,h3,h4
end Att
namespace L2
open PySem PySem.Spec PyProof.Rows
theorem Ao:∀{vs:List Value} {ns:List Int},IntsAre vs ns->cJ (ns.map V.int) vs
 |_,_,.nil=>.nil
 |_,_,.cons n t h=>.cons ⟨t,rfl⟩ (Ao h)
def qg3 (H:Hp):Prop:=∀b,H b=none\/∃o xs,H b=some (.frz o (.lst xs))
theorem Rl {K:Frag}(KX:K.In s₁.heap)(hns:s₁.heap.Ns mainGlobals mg)(hb:s₁.heap.Ns builtinsNs mb)(hbb:∀x:Str,x≠"__name__"->mb x=bootBuiltins x)(hlim:s₁.heap.NoLimit)(hg:s₁.gens=#[])(ha:s₁.heap.get? a=some { cls:=.type "list",data:=.seq vs.toArray })(hi:IntsAre vs ns)(hl:ns.length<=sizeLine)(hr:iI k callerA)(F:∀base:Heap,K.In base->base.Ns mainGlobals mg->aL P w K mg base CX k fa fd [x] sp)(hbind:∀(s:Shared) (u:Value),BindsTo s fd ⟨[u],[]⟩ [(x,u)])(hsp:∀H:Hp,qg3 H->SqL K H a (ns.map V.int)->sp [.ref a] H (λv _=>v=.bl true) λ_ _ _=>False)(hCX:∀H e s',CX [] H s₁ (λ_ _ _=>False) e s'->False):
  codeAny (model P w) callerA (.call (.ref fa) ⟨[.ref a],[]⟩) (λr s'=>r=.ok (.ret (.bool true))/\OldK s₁.heap s'.heap/\s'.os=s₁.os/\AllBare s'.gens) s₁:=by
 have rv:=Ao hi;have lenV:=hi.length;have core:∀H:Hp,qg3 H->SqL K H a (ns.map V.int)->HOk P w H s₁.heap->(∀b,H b≠none->b=a)->(H a≠none->K.lookup a=none)->
   codeAny (model P w) callerA (.call (.ref fa) ⟨[.ref a],[]⟩) (λr s'=>r=.ok (.ret (.bool true))/\OldK s₁.heap s'.heap/\s'.os=s₁.os/\AllBare s'.gens) s₁:=by
  intro H hO hS hok hA hK;have base_of:∀{b:Addr} {o:Obj},s₁.heap.get? b=some o->H b=none->(Cq s₁.heap H).get? b=some o:=λe n=>Sb e n;have noA:∀{b:Addr} {o:Obj} {es:Array DictEntry} {ep:Nat},s₁.heap.get? b=some o->o.data=.dict es ep->H b=none:=λ{b o es ep} e d=>by
   cases q:H b with
   |none=>rfl
   |some u=>
    have e':b=a:=hA b (by rw[q];simp);subst e';rw[ha] at e;cases e;have d':Data.seq vs.toArray _=Data.dict es ep:=d
    cases d'
  have nsK:∀{b:Addr} {m:Str->Option Value},s₁.heap.Ns b m->(Cq s₁.heap H).Ns b m:=λ{b m} ⟨o,es,ep,e,d,r⟩=>⟨o,es,ep,base_of e (noA e d),d,r⟩
  have hKb:K.In (Cq s₁.heap H):=λb o e=>base_of (KX b o e) (by
   cases q:H b with
   |none=>rfl
   |some u=>
    have e':b=a:=hA b (by rw[q];simp);subst e';rw[hK (by rw[q];simp)] at e;cases e)
  have hM:Mod K mg (Cq s₁.heap H):=⟨hKb,nsK hns,⟨mb,nsK hb,hbb⟩,let ⟨mc,h1,h2⟩:=hlim;⟨mc,nsK h1,h2⟩⟩
  have e0:Jv P w K mg (Cq s₁.heap H) callerA [] s₁ H:=⟨rfl,hM,λb o e=>Xh e,Nat.le_of_eq (Nz _ _),trivial,λb hb=>absurd (show b∈([]:List Addr) from hb) ⋯,hok,.of_eq hg⟩
  refine codeAny_mono ((F _ hKb (nsK hns)).run callerA [] s₁ H ⟨[.ref a],[]⟩ [.ref a] [.ref a] _ _ hr e0 (hbind s₁ (.ref a)) (.cons rfl .nil) (hsp H hO hS)) λr s' h=>?_
  cases r with
  |error e=>exact(hCX H e s' h).elim
  |ok fl=>
   cases fl with
   |next=>exact False.elim h
   |brk=>exact False.elim h
   |cont=>exact False.elim h
   |ret u=>
    obtain⟨v,H',os,bare,un,hok',r',q⟩:=h;have q':v=.bl true:=q;subst q';obtain rfl:u=Value.bool true:=r';exists rfl,OldK.of_keep λb o e=>?_,os,bare
    cases q:H b with
    |none=>exact un.keep b o e q (by intro z;exact absurd (show b∈([]:List Addr) from z) ⋯) ⋯
    |some u=>
     rcases hO b with z | ⟨ob,xs,z⟩
     .rw[q] at z;cases z
     .have z2:=un.frzs b ob _ z;obtain⟨e1,_⟩:=hok b _ z;obtain⟨e2,_⟩:=hok' b _ z2;rw[e] at e1;cases e1;exact e2
 cases hk:K.lookup a with
 |some o=>
  have e:=KX a o hk;rw[ha] at e
  cases e
  refine core (λ_=>none) (λ_=>.inl rfl) (.inr ⟨_,vs.toArray,_,hk,rfl,rfl,rfl,by rw[size_toArray,lenV];exact hl,by simpa using rv⟩) (λb u z=>by have z':(none:Option HO)=some u:=z;cases z') (λb z=>absurd rfl z) λz=>absurd rfl z
 |none=>
  refine core (λb=>if b=a then some (.frz { cls:=.type "list",data:=.seq vs.toArray } (.lst (ns.map V.int))) else none) (λb=>?_) (.inl (.inr ⟨{ cls:=.type "list",data:=.seq vs.toArray },if_pos rfl⟩)) (λb u z=>?_) (λb z=>?_) λ_=>hk
  .by_cases hb:b=a
   .exact .inr ⟨_,_,if_pos hb⟩
   .exact .inl (if_neg hb)
  .by_cases hb:b=a
   .have z':=(if_pos hb).symm.trans z
    cases z'
    subst hb;exists ha,by rw[length_map];exact hl,vs,_,rv,ha
   .have z':=(if_neg hb).symm.trans z
    cases z'
  .by_cases hb:b=a
   .exact hb
   .exact absurd (if_neg hb) z
abbrev KOf {K:Frag}{h:Heap}(_:K.In h):Frag:=K
theorem Wn {l:W.OpenLaw}{XP:(Str->Option Value)->Heap->Prop}{K:Params->Frag}{CX:World->CXT}{sp:World->Sp}(hn:l.most=some n)(hn2:n<=sizeLine)(hdf:d.params.defaults=[])(hr:iI k callerA)(hY:∀(w:World) (h:Heap),YP w h->(K w.params).In h)(F:∀(w:World) (mg:Str->Option Value) (fa:Addr) (h:Heap),(K w.params).In h->h.Ns mainGlobals mg->mg d.name=some (.ref fa)->
   ∃fd:FuncData,(∀(s:Shared) (u:Value),BindsTo s fd ⟨[u],[]⟩ [(x,u)])/\
    ∀base:Heap,(K w.params).In base->base.Ns mainGlobals mg->aL l.prog w (K w.params) mg base (CX w) k fa fd [x] (sp w))(hsp:∀(w:World) (H:Hp) (a:Addr) (ns:List Int),ns.length<=n->qg3 H->SqL (K w.params) H a (ns.map V.int)->sp w [.ref a] H (λv _=>v=.bl true) λ_ _ _=>False)(hCX:∀(w:World) (H:Hp) (s:Shared) (e:Value) (s':Shared),CX w [] H s (λ_ _ _=>False) e s'->False):
  W.WalkO q loose XP YP l.row.toRowW d [] (λf vs=>PySem.call f vs):=by
 refine Att.attach_call hn hdf λw s₀ s₁ mg mb fa o pm cd doc a vs ns G Y ho hd hcd hmg hobj hints hlen hg=>?_;have KX:=hY w _ Y;obtain⟨fd,hb,hF⟩:=F w mg fa _ KX G.T.g hmg;exact Rl KX G.T.g G.T.b G.T.builtins G.T.nolimit hg hobj hints (Nat.le_trans hlen hn2) hr hF hb (λH hO hS=>hsp w H a ns hlen hO hS) λH e s'=>hCX w H s₁ e s'
def dS (s:Stmt)(j:Nat):Stmt:=match s with
 | .ClassDef _ _ _ body _ _ _ _ _ _ _=>body.getD j (.Pass ⟨0,0,0,0⟩)
 |_=>.Pass ⟨0,0,0,0⟩
def fI (s:Stmt):Arguments:=match s with
 | .FunctionDef _ a _ _ _ _ _ _ _ _=>a
 |_=>{ posonlyargs:=[],args:=[],vararg:=none,kwonlyargs:=[],kw_defaults:=[],kwarg:=none,defaults:=[] }
def eV (s:Stmt):List Stmt:=match s with
 | .FunctionDef _ _ b _ _ _ _ _ _ _=>b
 |_=>[]
def aH (s:Stmt):Scope:=match s with
 | .FunctionDef _ _ _ _ _ _ sc _ _ _=>sc
 |_=>{ kind:=.function,names:=[],isGenerator:=false,isCoroutine:=false }
abbrev CX0:CXT:=λ_ _ _ _ _ _=>False
abbrev E0:XK:=λ_ _ _=>False
theorem aQ:kX CX0 X E0:=λ_ _ _ _ _ _ _ h=>h.elim
theorem pP (hr:iI k A):A.units+1 < cLine:=Nat.lt_of_le_of_lt (Nat.add_le_add_left (by decide:1<=64) _) hr.units
theorem bH (h:n<=1000):n < sizeLine:=Nat.lt_of_le_of_lt h ∅
section
variable {X:Cx}
theorem pv (i:Nat)(hN:X.N[i]?=some x:=by rfl)(hv:Vis X.env.scope x:=by first | exact Or.inl rfl | exact Or.inr (Or.inl rfl) | exact Or.inr (Or.inr rfl))(hd:(x == ("__debug__":Str))=false:=by decide)(hcd:(x == ("__classdict__":Str))=false:=by decide):PE X (.Name x pos) (Nx i):=Qr hN hv hd hcd
end
theorem dE {A B:Prop}(h:B):if false=true then A else B:=by
 rw[if_neg Bool.false_ne_true];exact h
theorem eY {A B:Prop}(h:A):if true=true then A else B:=by
 rw[if_pos rfl];exact h
theorem yT {c A B:Prop}[Decidable c](h1:c->A)(h2:¬c->B):if c then A else B:=by
 by_cases h:c
 .rw[if_pos h];exact h1 h
 .rw[if_neg h];exact h2 h
theorem ql2 {c A B:Prop}[Decidable c](hc:c)(h:B):if (!decide c)=true then A else B:=by
 rw[decide_eq_true hc];exact dE h
def aX (H H':Hp):Prop:=∀b o,H b=some o->H' b=some o
theorem aX.refl (H:Hp):aX H H:=λ_ _ h=>h
theorem aX.trans (a:aX H H1)(b:aX H1 H2):aX H H2:=λc o h=>b c o (a c o h)
theorem aX.free (e:aX H H')(h:H' l=Option.none):H l=Option.none:=by
 cases q:H l with
 |none=>rfl
 |some o=>
  rw[e l o q] at h
  cases h
theorem aX.seq {K:Frag}(e:aX H H')(h:SqL K H a xs):SqL K H' a xs:=by
 rcases h with (h | ⟨o,h⟩) | h
 .exact .inl (.inl (e _ _ h))
 .exact .inl (.inr ⟨o,e _ _ h⟩)
 .exact .inr h
section
variable {X:Cx}
def Bt (n:Nat)(i:Int):Prop:=i.natAbs < 2 ^ n
theorem yQ (h:Bt n i):Builtin.Int.intBits i<=n:=by
 unfold Builtin.Int.intBits;split
 .exact Nat.zero_le _
 .rename_i h0
  have hp:i.natAbs≠0:=by
   intro z;apply h0;simp at z ⊢;exact z
  have:i.natAbs.log2 < n:=(Nat.log2_lt hp).mpr h;lia
def Yk (i j:Int):Prop:=∃n m,Bt n i/\Bt m j/\n<=1048576/\m<=1048576
theorem Yk.ok (h:Yk i j):IntMulOk i j:=by
 obtain⟨n,m,h1,h2,h3,h4⟩:=h;have e:(2:Nat) ^ 20=1048576:=by decide
 exact IntMulOk.of_bits (by have:=yQ h1;lia) (by have:=yQ h2;lia)
theorem cP:OpR X (binaryOp .Mult) (rI Yk λi j=>.int (i*j)):=opI λ_ _ _ _ _ _ _ hc q=>mul_int q hc.ok
def Li (i j:Int):Prop:=j≠0/\∃n,Bt n j/\n<=9000
theorem Li.ok (h:Li i j):Builtin.divisionGoesByPylong i j=false:=by
 obtain⟨h0,n,h1,h2⟩:=h;refine PyProof.noPylong_of_log2 ?_;have hp:j.natAbs≠0:=by lia
 have:j.natAbs.log2 < n:=(Nat.log2_lt hp).mpr h1;lia
theorem kC:OpR X (binaryOp .FloorDiv) (rI Li λi j=>.int (i.fdiv j)):=opI λ_ _ _ _ _ _ _ hc q=>floordiv_int hc.1 q (.inl hc.ok)
mutual
inductive pV (K:Frag) (H:Hp):V->PyData->Prop where
 |non:pV K H .non .none
 |bl (b:Bool):pV K H (.bl b) (.bool b)
 |int (i:Int):pV K H (.int i) (.int i)
 |str (x:Str):pV K H (.str x) (.str x)
 |lst {a:Addr} {xs:wk} {ds:List PyData} (h:SqL K H a xs) (q:xH K H xs ds):pV K H (.ref a) (.list ds)
 |tup {a:Addr} {xs:wk} {ds:List PyData} (h:SqT K H a xs) (q:xH K H xs ds):pV K H (.ref a) (.tuple ds)
inductive xH (K:Frag) (H:Hp):wk->List PyData->Prop where
 |nil:xH K H [] []
 |cons {x:V} {d:PyData} {xs:wk} {ds:List PyData} (p:pV K H x d) (q:xH K H xs ds):xH K H (x :: xs) (d :: ds)
end
theorem wL {H:Hp}(I:Inv X pins σ H s):∀{x:V} {d:PyData},pV X.K H x d->∀{u:Value},cN x u->∃as,Reads s.heap u d as:=by
 intro x d h
 induction h using pV.rec (motive_2:=λxs ds _=>∀{us:List Value},cJ xs us->∃as,ReadsAll s.heap us ds as) with
 |non=>intro u r;cases (show u=Value.none from r);exists _,.none
 |bl b=>intro u r;cases (show u=Value.bool b from r);exists _,.bool b
 |int i=>intro u r;obtain⟨t,rfl⟩:=(show ∃t,u=Value.int i t from r);exists _,.int i t
 |str y=>intro u r;obtain⟨t,rfl⟩:=(show ∃t,u=Value.str y t from r);exists _,.str y t
 |lst h q ih=>
  intro u r
  cases (show u=Value.ref _ from r)
  obtain⟨its,rv,pl,_⟩:=I.list h;obtain⟨as,ra⟩:=ih rv;obtain⟨o,h1,h2,n,h3⟩:=pl.isList;exists _,.list h1 h2 h3 (by simpa using ra)
 |tup h q ih=>
  intro u r
  cases (show u=Value.ref _ from r)
  obtain⟨its,rv,pl,_⟩:=I.tuple h;obtain⟨as,ra⟩:=ih rv;obtain⟨o,h1,h2,n,h3⟩:=pl;exists _,.tuple h1 h2 h3 (by simpa using ra)
 |nil=>rename_i us r;cases r;exists _,.nil
 |cons p q ih1 ih2=>
  rename_i us r
  cases r with
  |cons r1 r2=>
   obtain⟨as,h1⟩:=ih1 r1;obtain⟨bs,h2⟩:=ih2 r2;exists _,.cons h1 h2
inductive Nw (K:Frag) (neg:Bool) (x:V) (y:V) (H:Hp) (Q:VK):Prop where
 |mk (d e):pV K H x d->pV K H y e->d.canLay0=true->e.canLay0=true->min d.depth e.depth<=16->Q (.bl (if neg then !PyData.eqv d e else PyData.eqv d e)) H->Nw K neg x y H Q
theorem wS (hu:X.A.units+64 < cLine):OpR X (compareOp .NotEq) (Nw X.K true):=by
 intro pins s σ H x y v u Q I rx ry h;obtain⟨d,e,h1,h2,c1,c2,hm,q⟩:=h;obtain⟨as,r1⟩:=wL I h1 rx;obtain⟨bs,r2⟩:=wL I h2 ry;exact PySem.SeqAt.compareNe_reads r1 r2 c1 c2 () ⟨.bl (!PyData.eqv d e),H,I,rfl,q⟩
end
section
variable {prog:Program} {w:World} {A:Around} {R:Result->Shared->Prop} {s:Shared}
abbrev Zs (ifs:List Expr)(env:Env):Sem Bool:=forIn ifs true λc r=>if r=true then do let ok <- isTrue c env (eval c env);pure (ForInStep.yield ok) else pure (ForInStep.yield r)
theorem Og {elt target iter:Expr}(I:Nat->Shared->Prop)(turn:∀n s,I n s->wpAny (model prog w) A (pyNext it) (λr s₁=>match r with
   |none=>R (.ok .next) s₁
   |some v=>wpAny (model prog w) A (letOwnedTupleGo target it v) (λ_ s₀=>wpAny (model prog w) A (assign target env v) (λ_ s₂=>
     wpAny (model prog w) A (Zs ifs env) (λok s₃=>
      if ok=true then wpAny (model prog w) A (eval elt env) (λx s₄=>
       wpAny (model prog w) A (call (.builtin "list.append") [acc,x]) (λ_ s₅=>∃m,m < n/\I m s₅) (λ_ _=>False) s₄) (λ_ _=>False) s₃
      else ∃m,m < n/\I m s₃) (λ_ _=>False) s₂) (λ_ _=>False) s₀) (λ_ _=>False) s₁) (λ_ _=>False) s)(n:Nat)(h:I n s):
  codeAny (model prog w) A (.compLoop (.ListComp elt [⟨target,iter,ifs,0⟩] scope pos) 0 it acc env) R s:=by
 refine codeAny_loop rfl I (λn s hI=>?_) n h;show wpAny _ A ((compTurn (.ListComp elt [⟨target,iter,ifs,0⟩] scope pos) 0 it acc env).onRaise (λx=>do noteFrame x env;theTreesLotGoes x)) _ _ s;refine wpAny_noted ?_;rw[compTurn_list];refine wpAny_bind (wpAny_standAt (wpAny_bind (wpAny_mono (turn n s hI) (λr s₁ h₁=>?_) λ_ _ z=>z.elim)))
 cases r with
 |none=>exact wpAny_pure h₁
 |some v=>
  refine wpAny_bind (wpAny_mono h₁ (λ_ s₀ h₀=>?_) λ_ _ z=>z.elim);refine wpAny_bind (wpAny_mono h₀ (λ_ s₂ h₂=>wpAny_bind (wpAny_mono h₂ (λok s₃ h₃=>?_) λ_ _ z=>z.elim)) λ_ _ z=>z.elim)
  cases ok with
  |false=>exact wpAny_pure ⟨rfl,h₃⟩
  |true=>
   rw[if_pos rfl] at h₃;show wpAny _ _ ((do let _ <- call (.builtin "list.append") [acc,<- eval elt env]) >>= λ_=>again (.compLoop (.ListComp elt [⟨target,iter,ifs,0⟩] scope pos) 0 it acc env)) _ _ _;exact wpAny_bind (wpAny_bind (wpAny_mono h₃ (λx s₄ h₄=>wpAny_bind (wpAny_mono h₄ (λ_ s₅ h₅=>wpAny_pure (wpAny_pure ⟨rfl,h₅⟩)) λ_ _ z=>z.elim)) λ_ _ z=>z.elim))
end
structure Co (X:Cx) (scope:Scope) (cl:List (Str × Addr)) (Nc:List Str) (nl:Nat) (fr:List Nat):Prop where
 clos:closureFor scope X.env=pure cl
 kind:scope.kind=.function
 names:∀y∈scope.names,y.2=.local->scope.names.lookup y.1=some .local
 cell:∀y∈scope.names,y.2≠.cell
 sub:∀x c,cl.lookup x=some c->X.env.cells.lookup x=some c
 has:∀x,(relabel scope X.env).names.lookup x=some .cell\/(relabel scope X.env).names.lookup x=some .free->∃c,cl.lookup x=some c
 len:Nc.length=nl+fr.length
 tail:∀i n,Nc[nl+i]?=some n->∃j,fr[i]?=some j/\X.N[j]?=some n/\X.env.kindOf n=some .cell/\cl.lookup n=X.env.cells.lookup n/\((relabel scope X.env).names.lookup n=some .cell\/(relabel scope X.env).names.lookup n=some .free)
abbrev gV (X:Cx)(scope:Scope)(cl:List (Str × Addr))(Nc:List Str)(C:Addr)(s3:Shared)(H3:Hp)(fp:List Addr)(pins:List (Addr × Obj)):Cx:=
 { X with N:=Nc,s₀:=s3,H₀:=H3,env:=compEnvC scope cl C X.env,outer:=X.stack,ex:=fp,fn:=λ_=>false,pn:=X.pn++pins,xe:=λ_ _=>False }
def σC (nl:Nat)(fr:List Nat)(σ:St):St:=replicate nl none++fr.map λj=>(σ[j]?).join
abbrev PIf (X:Cx)(ifs:List Expr)(t:TT):Prop:=
 ∀(pins:List (Addr × Obj)) (s:Shared) (σ:St) (H:Hp) (Q:Bool->Hp->Prop),Inv X pins σ H s->t σ H Q->zzW X (Zs ifs X.env) (TP X pins σ Q) X.xe s
theorem dC:PIf X [] (λ_ H Q=>Q true H):=λ_ _ _ H _ I h=>wpAny_pure ⟨H,I,h⟩
theorem rF (h:PT X c t):PIf X [c] t:=λpins s σ H Q I q=>wpAny_tests_one (h pins s σ H Q I q)
section
variable {X:Cx} {scope:Scope} {cl:List (Str × Addr)} {Nc:List Str} {nl:Nat} {fr:List Nat} {pins:List (Addr × Obj)} {σ:St} {H3:Hp} {s3:Shared} {fp:List Addr} {h4:Heap} {tk:Nat}
theorem Jq (ck:Co X scope cl Nc nl fr)(I:Inv X pins σ H3 s3)(hf:∀b∈fp,pH X pins H3 b)(hfs:∀b∈fp,b < s3.heap.objs.size)(hns:h4.Ns s3.heap.objs.size λ_=>none)(hk:∀b o,s3.heap.get? b=some o->h4.get? b=some o) :
  Inv (gV X scope cl Nc s3.heap.objs.size s3 H3 fp pins) [] (σC nl fr σ) H3 { s3 with heap:=h4,toks:=tk }:=by
 have stk:∀b∈frs X.stack,b∈X.env.locals :: X.fs:=I.stkSub;have nfs:∀b,b≠X.env.locals->b∉X.fs->b∉frs X.stack:=λb h1 h2 z=>(mem_cons.mp (stk b z)).elim h1 h2;have ltc:∀x c,cl.lookup x=some c->c < s3.heap.objs.size:=λx c e=>by
  obtain⟨v,z⟩:=I.cell x c (ck.sub x c e);exact z.lt
 refine⟨⟨I.ok.mod,ck.kind,I.ok.glob,I.ok.blt,Nat.le_refl _,λx y c h1 h2=>I.ok.inj x y c (ck.sub x c h1) (ck.sub y c h2),λx hx=>ck.has x hx,λx c hz=>Bool.noConfusion hz,I.ok.hd,I.ok.frames,.inl rfl,λb hb=>?_,I.bs,Nat.le_trans I.ok.bsz I.sz,λb o e hb=>?_,λb hb=>?_,I.stack,I.stkFree⟩,
  rfl,I.bare,Un.kept hk,⟨_,hns,λi x v h1 h2 h3=>?_⟩,λx c e=>?_,I.hok.fresh (Nat.le_refl _),λx c e=>I.freeC x c (ck.sub x c e),λp hp=>?_,I.hok.kept hk,?_⟩
 .obtain⟨f0,f1,f2,f3,f4,f5⟩:=hf b hb;exists Nat.ne_of_lt (hfs b hb),λx c e=>f4 x c (ck.sub x c e)
 .obtain⟨f0,f1,f2,f3,f4,f5⟩:=hf b hb;rcases f3 with z | z
  .exact I.ok.noex b o e z
  .exact absurd (Nat.lt_of_lt_of_le (Heap.lt_size e) (Nat.le_trans I.ok.bsz z)) (Nat.lt_irrefl _)
 .obtain⟨f0,f1,f2,f3,f4,f5⟩:=hf b hb;exact nfs b f1 f2
 .-- a name's value
  unfold σC at h2
  by_cases hi:i < nl
  .rw[getElem?_append_left (by simpa using hi),getElem?_replicate] at h2;split at h2<;>cases h2
  .have hi':nl<=i:=by lia
   rw[getElem?_append_right (by simpa using hi'),length_replicate,getElem?_map] at h2;obtain⟨k,rfl⟩:∃k,i=nl+k:=⟨i - nl,()⟩
   obtain⟨j,e1,e2,e3,e4,e5⟩:=ck.tail k x h1;rw[Nat.add_sub_cancel_left,e1] at h2;have h2':(σ[j]?).join=some v:=by simpa using h2
   have h2'':σ[j]?=some (some v):=by
    cases q:σ[j]? with
    |none=>rw[q] at h2';cases h2'
    |some z=>rw[q] at h2';exact congrArg some h2'
   obtain⟨m,hn,hl⟩:=I.loc;obtain⟨u,r,l⟩:=hl j x v e2 h2'' (.inr (.inl e3));exists u,r,?_;rcases l with ⟨k1,_⟩ | ⟨k1,c,ec,z⟩
   .rw[e3] at k1;cases k1
   .obtain⟨o,ho,hd⟩:=z;exact .inr ⟨e5,c,by show cl.lookup x=some c;rw[e4];exact ec,o,hk _ _ ho,hd⟩
 .obtain⟨v,o,ho,hd⟩:=I.cell x c (ck.sub x c e);exists v,o,hk _ _ ho,hd
 .have hp':p∈X.pn++pins:=by simpa using hp
  obtain⟨e,n,ne,nf,d⟩:=I.pin p hp';exists hk _ _ e,n,Nat.ne_of_lt (Heap.lt_size e),nfs _ ne nf,d
 .unfold σC;show _=Nc.length;rw[xj,length_replicate,length_map,ck.len]
theorem Uc (I:Inv X pins σ H3 s3)(hf:∀b∈fp,pH X pins H3 b)(J:Inv (gV X scope cl Nc s3.heap.objs.size s3 H3 fp pins) pins' σ' H' s'):Inv X pins σ H' s'/\pH X pins H' s3.heap.objs.size:=by
 exists I.call' (ch:=fp) J.os J.base J.hok J.bare λb hb=>?_,I.fpOk (Nat.le_refl _) J.free;obtain⟨f0,f1,f2,f3,f4,f5⟩:=hf b hb;exists f3,f1,f4,f5
theorem Inv.off (I:Inv X pins σ H s)(f:pH X pins H b)(hs:Heap.SameBut b s.heap h'):Inv X pins σ H { s with heap:=h' }:=by
 obtain⟨f0,f1,f2,f3,f4,f5⟩:=f;exact I.turned (t':=s.toks) (it:=b) (λc o hb e=>(hs.2 c hb).trans e) f0 f1 f3 f4 f5
end
def xL (J:It)(nl:Nat)(fr:List Nat)(g:TG)(tt:TT)(te:TE)(σ:St)(D:Addr)(H1:Hp)(Q:VK):Prop:=
 ∃W:Nat->Nat->wk->Hp->Prop,(∃m,W 0 m [] (upd H1 D (.lst [])))/\∀i m ys H2,W i m ys H2->H2 D=some (.lst ys)/\
  ((J.stop i H2/\Q (.ref D) H2)\/(J.go i H2/\∀x H3,J.yld i H2 x H3->g x (σC nl fr σ) H3 λσ2 H4=>σ2.length=(σC nl fr σ).length/\(∀(i:Nat) v,(σC nl fr σ)[i]?=some (some v)->σ2[i]?=some (some v))/\
   tt σ2 H4 λb H5=>if b=true then te σ2 H5 λy H6=>H6 D=some (.lst ys)/\ys.length < sizeLine/\∃m',m' < m/\W (i+1) m' (ys++[y]) (upd H6 D (.lst (ys++[y])))
    else ∃m',m' < m/\W (i+1) m' ys H5))
def Qv (wi:TI)(nl:Nat)(fr:List Nat)(g:TG)(tt:TT)(te:TE):TE:=λσ H Q=>wi σ H λJ H1=>∀D,H1 D=none->xL J nl fr g tt te σ D H1 Q
section
variable {X:Cx} {scope:Scope} {cl:List (Str × Addr)} {Nc:List Str} {nl:Nat} {fr:List Nat} {elt tg iter:Expr} {ifs:List Expr} {pos:Pos} {wi:TI} {g:TG} {tt:TT} {te:TE}
theorem Ez (hc:X.calm=true)(ck:Co X scope cl Nc nl fr)(hi:PI X tg iter wi)(hg:∀C s3 H3 fp pins,PG (gV X scope cl Nc C s3 H3 fp pins) tg g)(ht:∀C s3 H3 fp pins,PIf (gV X scope cl Nc C s3 H3 fp pins) ifs tt)(he:∀C s3 H3 fp pins,PE (gV X scope cl Nc C s3 H3 fp pins) elt te)(I:Inv X pins σ H s)(h:Qv wi nl fr g tt te σ H Q){RR:Value->Addr->Result->Shared->Prop}(fin:∀D C s',(∃H',(∃m,s'.heap.Ns C m)/\Inv X pins σ H' s'/\pH X pins H' C/\Q (.ref D) H')->RR (.ref D) C (.ok .next) s'):
  zzW X (eval iter X.env) (λx s₁=>zzW X (pyIter x) (λit s₂=>zzW X (newList []) (λacc s₃=>
   zzW X (newFunctionEnv scope X.env.globals cl [] X.env.qual none .none (some X.env)) (λcenv s₄=>
    codeAny (model X.prog X.w) X.A (.compStart (.ListComp elt [⟨tg,iter,ifs,0⟩] scope pos) 0 it acc { cenv with scope:=relabel scope X.env }) (RR acc cenv.locals) s₄) X.xe s₃) X.xe s₂) X.xe s₁) X.xe s:=by
 refine thn (hi pins s σ H _ I h) λv s1 h1=>thn h1 λitv s2 h2=>?_;obtain⟨it,fp,tn,J,H2,e,I2,T,st2,f2,hD⟩:=h2;subst e;have hn2:H2 s2.heap.objs.size=none:=I2.hok.fresh (Nat.le_refl _);obtain⟨W,⟨m0,w0⟩,turn⟩:=hD s2.heap.objs.size hn2;refine wpAny_newObj_type (wpAny_newFunctionEnv ck.cell (by intro y hy;simp at hy) (λh4 hns hsb=>?_) ck.kind);dsimp only at hns hsb ⊢;have I3:Inv X pins σ (upd H2 s2.heap.objs.size (.lst [])) { s2 with heap:=s2.heap.push { cls:=.type "list",dict:=none,data:=.seq ([]:List Value).toArray } }:=
  I2.laid (t':=s2.toks) (λb u e=>Heap.get?_push_of_some _ e) (Nat.le_refl _) ⟨Nat.zero_le _,[],0,.nil,Heap.get?_push_size _ rfl⟩
 have hfs:∀b∈fp,b < s2.heap.objs.size:=λb hb=>by
  obtain⟨o,e,_⟩:=T.obj 0 _ st2 b hb;exact Heap.lt_size e
 have f3:∀b∈fp,pH X pins (upd H2 s2.heap.objs.size (.lst [])) b:=λb hb=>⟨by rw[aV (Nat.ne_of_lt (hfs b hb))];exact(f2 b hb).1,(f2 b hb).2⟩
 generalize hH3:upd H2 s2.heap.objs.size (.lst [])=H3 at *
 generalize hs3:({ s2 with heap:=s2.heap.push { cls:=.type "list",dict:=none,data:=.seq ([]:List Value).toArray } }:Shared)=s3 at *
 have z3:s3.heap=s2.heap.push { cls:=.type "list",dict:=none,data:=.seq ([]:List Value).toArray }:=by rw[<- hs3]
 have hsz3:s3.heap.objs.size=s2.heap.objs.size+1:=by rw[z3,Heap.size_push]
 rw[<- z3] at hns hsb ⊢;have hk4:∀b o,s3.heap.get? b=some o->h4.get? b=some o:=λb o e=>hsb.extBut b o (Nat.ne_of_lt (Heap.lt_size e)) (Heap.get?_push_of_some _ e);have hfs3:∀b∈fp,b < s3.heap.objs.size:=λb hb=>Nat.lt_of_lt_of_le (hfs b hb) (by rw[hsz3];exact Nat.le_succ _);have hns':h4.Ns s3.heap.objs.size λ_=>none:=by simpa using hns
 have K0:=λtk=>Jq (tk:=tk) ck I3 f3 hfs3 hns' hk4;have stat:∀{H':Hp},(∀b∈fp,H' b=none)->∀b∈fp,pH (gV X scope cl Nc s3.heap.objs.size s3 H3 fp pins) [] H' b:=λ{H'} hn b hb=>by
  obtain⟨f0,g1,g2,g3,g4,g5⟩:=f3 b hb;exists hn b hb,Nat.ne_of_lt (hfs3 b hb),λz=>?_,.inl hb,λx c e=>g4 x c (ck.sub x c e),λp hp=>g5 p (by simpa using hp);exact(mem_cons.mp (I3.stkSub b z)).elim g1 g2
 have st4:tn 0 h4:=T.keep 0 _ _ st2 λb hb o e=>hk4 b o (by rw[z3];exact Heap.get?_push_of_some _ e);have loop:∀tk,codeAny (model X.prog X.w) X.A (.compLoop (.ListComp elt [⟨tg,iter,ifs,0⟩] scope pos) 0 (.ref it) (.ref s2.heap.objs.size) (compEnvC scope cl s3.heap.objs.size X.env)) (RR (.ref s2.heap.objs.size) s3.heap.objs.size) { s3 with heap:=h4,toks:=tk }:=by
  intro tk;refine Og (λn s'=>∃i ys H',Inv (gV X scope cl Nc s3.heap.objs.size s3 H3 fp pins) [] (σC nl fr σ) H' s'/\tn i s'.heap/\(∀b∈fp,H' b=none)/\W i n ys H') ?_ m0 ⟨0,[],H3,K0 tk,st4,λb hb=>(f3 b hb).1,w0⟩;rintro n s5 ⟨i,ys,H5,I5,st5,fr5,w5⟩;obtain⟨hl5,q5⟩:=turn i n ys H5 w5;rcases q5 with ⟨stop,qn⟩ | ⟨go,step⟩
  .refine wpAny_mono (T.done (gV X scope cl Nc s3.heap.objs.size s3 H3 fp pins) rfl rfl rfl hc i [] s5 (σC nl fr σ) H5 (λ_ _=>False) I5 (stat fr5) st5 stop) (λr s6 h6=>?_) λ_ _ z=>z;obtain⟨hr,I6⟩:=h6;subst hr;obtain⟨z1,z2⟩:=Uc I3 f3 I6;refine fin _ _ _ ⟨H5,?_,z1,z2,qn⟩;obtain⟨m,hm,_⟩:=I6.loc;exists m,hm
  .refine wpAny_mono (T.item (gV X scope cl Nc s3.heap.objs.size s3 H3 fp pins) rfl rfl rfl hc i [] s5 (σC nl fr σ) H5 (λ_ _=>False) I5 (stat fr5) st5 go) (λr s6 h6=>?_) λ_ _ z=>z;obtain⟨u,hr,h6⟩:=h6;subst hr;refine wpAny_mono h6 (λ_ s7 h7=>?_) λ_ _ z=>z;obtain⟨x,H7,I7,r7,y7,st7,fr7⟩:=h7;have I7':=I7.pinned (stat fr7) (T.obj _ _ st7);refine wpAny_mono (hg s3.heap.objs.size s3 H3 fp pins _ s7 _ H7 x u _ I7' r7 (step x H7 y7)) (λ_ s8 h8=>?_) λ_ _ z=>z;obtain⟨σ8,H8,I8,l8,k8,q8⟩:=h8;refine wpAny_mono (ht s3.heap.objs.size s3 H3 fp pins _ s8 σ8 H8 _ I8 q8) (λb s9 h9=>?_) λ_ _ z=>z;obtain⟨H9,I9,q9⟩:=h9;have again:∀{ys':wk} {H':Hp} {s':Shared} {m':Nat},Inv (gV X scope cl Nc s3.heap.objs.size s3 H3 fp pins) ([]++wY fp s7.heap) σ8 H' s'->m' < n->W (i+1) m' ys' H'->
     ∃m,m < n/\∃i ys H',Inv (gV X scope cl Nc s3.heap.objs.size s3 H3 fp pins) [] (σC nl fr σ) H' s'/\tn i s'.heap/\(∀b∈fp,H' b=none)/\W i m ys H':=λ{ys' H' s' m'} I' hm w'=>by
    exists m',hm,i+1,ys',H',I'.unpinned.weak l8.symm k8,T.keep _ _ _ st7 λb hb o e=>(I'.pin (b,o) (mem_append_right _ (mem_append_right _ (nQ hb e)))).1,λb hb=>?_,w';obtain⟨o,e,d⟩:=T.obj _ _ st7 b hb;exact(I'.pin (b,o) (mem_append_right _ (mem_append_right _ (nQ hb e)))).2.1
   cases b with
   |false=>
    rw[if_neg Bool.false_ne_true] at q9 ⊢;obtain⟨m',hm,w9⟩:=q9;exact again I9 hm w9
   |true=>
    rw[if_pos rfl] at q9 ⊢;refine wpAny_mono (he s3.heap.objs.size s3 H3 fp pins _ s9 σ8 H9 _ I9 q9) (λyv s10 h10=>?_) λ_ _ z=>z;obtain⟨y,H10,I10,r10,hl10,hz10,m',hm,w10⟩:=h10;refine wpAny_mono (eQ (X:=gV X scope cl Nc s3.heap.objs.size s3 H3 fp pins) _ s10 σ8 H10 (.ref s2.heap.objs.size) [y] _ [yv] (λv H'=>H'=upd H10 s2.heap.objs.size (.lst (ys++[y]))) I10 rfl (.cons r10 .nil) ⟨_,ys,y,rfl,rfl,hl10,hz10,rfl⟩) (λ_ s11 h11=>?_) λ_ _ z=>z;obtain⟨_,H11,I11,_,e11⟩:=h11;subst e11;exact again I11 hm w10
 have L:=loop (s2.toks+([]:List (Str × Value)).length);rw[show s3.gens=s2.gens by rw[<- hs3],show s3.drawn=s2.drawn by rw[<- hs3],show s3.os=s2.os by rw[<- hs3]] at L;exact codeAny_compStart_list L (T.self _ 0 _ _ _ st4 L)
theorem dD (hc:X.calm=true)(ck:Co X scope cl Nc nl fr)(hi:PI X tg iter wi)(hg:∀C s3 H3 fp pins,PG (gV X scope cl Nc C s3 H3 fp pins) tg g)(ht:∀C s3 H3 fp pins,PIf (gV X scope cl Nc C s3 H3 fp pins) ifs tt)(he:∀C s3 H3 fp pins,PE (gV X scope cl Nc C s3 H3 fp pins) elt te)(hs:∀x,foldedSetIterable iter X.env x=pure x:=by intro _;rfl):PE X (.ListComp elt [⟨tg,iter,ifs,0⟩] scope pos) (Qv wi nl fr g tt te):=by
 intro pins s σ H Q I h;rw[eval_ListComp];refine wpAny_comprehension_free (use:=none) rfl hs ck.clos ck.kind ck.names (Ez (RR:=λacc C=>compPost (model X.prog X.w) X.A X.xe none (EP X pins σ Q) acc C) hc ck hi hg ht he I h λD C s' hh=>?_);obtain⟨H',⟨m,hm⟩,hI,hF,q⟩:=hh;exists m,hm,λh' hs'=>⟨.ref D,H',hI.off hF hs',rfl,q⟩
theorem rN (hN:X.N.Nodup)(hiy:X.N[i]?=some y)(hy:X.env.scope.names.lookup y=some .local)(hc:X.calm=true)(ck:Co X scope cl Nc nl fr)(hi:PI X tg iter wi)(hg:∀C s3 H3 fp pins,PG (gV X scope cl Nc C s3 H3 fp pins) tg g)(ht:∀C s3 H3 fp pins,PIf (gV X scope cl Nc C s3 H3 fp pins) ifs tt)(he:∀C s3 H3 fp pins,PE (gV X scope cl Nc C s3 H3 fp pins) elt te)(hsw:swapsWith (.ListComp elt [⟨tg,iter,ifs,0⟩] scope pos) (some (.Name y py)) spos.line X.env=pure true)(hs:∀x,foldedSetIterable iter X.env x=pure x:=by intro _;rfl):PS X (.Assign [.Name y py] (.ListComp elt [⟨tg,iter,ifs,0⟩] scope pos) spos) (qk1 (Qv wi nl fr g tt te) (iM i)):=by
 intro pins s σ H D I h;rw[exec_Assign_Name_used _ _ _ _ hsw];refine wpAny_bind (wpAny_standAt (wpAny_bind ?_));show wpAny _ X.A (do let _ <- comprehension (.ListComp elt [⟨tg,iter,ifs,0⟩] scope pos) scope X.env _ (newList []) false (eval iter X.env) (some (assign (.Name y py) X.env))) _ _ s;refine wpAny_bind (wpAny_mono (wpAny_comprehension_free (use:=some (assign (.Name y py) X.env)) (Q:=λ_ s'=>SP X pins D .next s') rfl hs ck.clos ck.kind ck.names
  (Ez (RR:=λacc C=>compPost (model X.prog X.w) X.A X.xe (some (assign (.Name y py) X.env)) (λ_ s'=>SP X pins D .next s') acc C) hc ck hi hg ht he I h λDd C s' hh=>?_)) (λ_ s' hq=>wpAny_pure (wpAny_pure hq)) λ_ _ e=>e)
 obtain⟨H',⟨m,hm⟩,hI,hF,q⟩:=hh;show wpAny _ X.A (assign (.Name y py) X.env (.ref Dd)) _ _ _;refine wpAny_assign_Name (zO hI hN hiy (.inl hy) (v:=.ref Dd) rfl (λs2 I2 hsb=>?_) (.inr hy));obtain⟨a,sb,ha⟩:=hsb;have hCa:C≠a:=by
  rcases ha with z | z
  .rw[z];exact hF.2.1
  .exact Ne.symm (hF.2.2.2.2.1 y a z)
 exists m,hm.sameBut sb hCa,λh' hs'=>⟨_,H',I2.off hF hs',q⟩
end
end L2
namespace Mq
abbrev Q2:=Int × Int
def gc (a b:Int):Int:=(Int.gcd a b:Nat)
theorem Kh (a b:Int):gc b (Int.fmod a b)=gc a b:=by
 unfold gc;rw[Int.fmod_def,Int.gcd_comm a b,Int.sub_eq_add_neg,<- Int.mul_neg,Int.gcd_add_mul_left_right]
theorem zI (h:b≠0):(Int.fmod a b).natAbs < b.natAbs:=by
 rcases (by lia:0 < b\/b < 0) with h1 | h1
 .have:=Int.fmod_nonneg_of_pos a h1;have:=Int.fmod_lt_of_pos a h1;lia
 .have h2:0 < -b:=by lia
  have e:Int.fmod a b=- Int.fmod (-a) (-b):=by
   rw[Int.neg_fmod_neg];lia
  have:=Int.fmod_nonneg_of_pos (-a) h2;have:=Int.fmod_lt_of_pos (-a) h2;lia
theorem Kx (a:Int):gc a 0=if a < 0 then -a else a:=by
 unfold gc;rw[Int.gcd_zero];split<;>lia
theorem yM (h:b≠0):0 < gc a b:=by
 have:=Int.gcd_pos_of_ne_zero_right a h;unfold gc;lia
structure Low (p:Q2):Prop where
 pos:1<=p.2
 one:gc p.1 p.2=1
def dvr (t b:Int):Int:=if b < 0 then -gc t b else gc t b
def red (t b:Int):Q2:=(Int.fdiv t (dvr t b),Int.fdiv b (dvr t b))
theorem tH (h:b≠0):dvr t b≠0:=by
 have:=yM (a:=t) h;unfold dvr;split<;>lia
theorem hJ (hg:g≠0)(h:a=g*k):Int.fdiv a g=k:=by
 rw[h,Int.mul_fdiv_cancel_left _ hg]
theorem Xx (t b:Int):dvr t b ∣ t/\dvr t b ∣ b:=by
 have h1:gc t b ∣ t:=Int.gcd_dvd_left t b;have h2:gc t b ∣ b:=Int.gcd_dvd_right t b;unfold dvr;split
 .exists Int.neg_dvd.mpr h1,Int.neg_dvd.mpr h2
 .exists h1,h2
theorem uC (h:b≠0):t=dvr t b*(red t b).1/\b=dvr t b*(red t b).2:=by
 obtain⟨⟨x,hx⟩,⟨y,hy⟩⟩:=Xx t b;have hg:=tH (t:=t) h;have e1:(red t b).1=x:=hJ hg hx;have e2:(red t b).2=y:=hJ hg hy;rw[e1,e2];exists hx,hy
theorem jH (h:b≠0):Low (red t b):=by
 obtain⟨h1,h2⟩:=uC (t:=t) h;have hg:=tH (t:=t) h;have hp:=yM (a:=t) h;have nd:(dvr t b).natAbs=(gc t b).natAbs:=by unfold dvr;split<;>simp
 have e:Int.gcd t b=(dvr t b).natAbs*Int.gcd (red t b).1 (red t b).2:=by
  rw[<- Int.gcd_mul_left,<- h1,<- h2]
 have e2:(gc t b).natAbs=Int.gcd t b:=by unfold gc;simp
 rw[nd,e2] at e;have hp':0 < Int.gcd t b:=by unfold gc at hp;lia
 have one:Int.gcd (red t b).1 (red t b).2=1:=by
  have:Int.gcd t b*Int.gcd (red t b).1 (red t b).2=Int.gcd t b*1:=by lia
  exact Nat.eq_of_mul_eq_mul_left hp' this
 refine⟨?_,by unfold gc;rw[one];rfl⟩;have sgn:0 < (red t b).2:=by
  by_cases hb:b < 0
  .have hd:dvr t b < 0:=by unfold dvr;rw[if_pos hb];lia
   have hq:¬(red t b).2<=0:=λq=>by
    have:=Int.mul_nonneg_of_nonpos_of_nonpos (Int.le_of_lt hd) q;lia
   lia
  .have hd:0 < dvr t b:=by unfold dvr;rw[if_neg hb];lia
   have hq:¬(red t b).2<=0:=λq=>by
    have:=Int.mul_nonpos_of_nonneg_of_nonpos (Int.le_of_lt hd) q;lia
   lia
 lia
theorem tS (h:b≠0):(red t b).1*b=t*(red t b).2:=by
 obtain⟨h1,h2⟩:=uC (t:=t) h;generalize (red t b).1=x at *
 generalize (red t b).2=y at *
 generalize dvr t b=g at *
 subst h1 h2;grind
theorem kG {a g k:Int}(hg:g≠0)(h:a=g*k):k.natAbs<=a.natAbs:=by
 rw[h,Int.natAbs_mul];exact Nat.le_mul_of_pos_left _ ()
theorem oF (h:b≠0):(red t b).1.natAbs<=t.natAbs/\(red t b).2.natAbs<=b.natAbs:=by
 obtain⟨h1,h2⟩:=uC (t:=t) h;exists kG (tH h) h1,kG (tH h) h2
theorem Hb (h:b≠0):(dvr t b).natAbs<=b.natAbs:=by
 have e:(dvr t b).natAbs=Int.gcd t b:=by unfold dvr gc;split<;>simp
 rw[e];exact Int.gcd_le_natAbs_right t h
theorem Su (hp:Low p)(hq:Low q)(h:p.1*q.2=q.1*p.2):p=q:=by
 have gp:Int.gcd p.2 p.1=1:=by have:=hp.one;rw[Int.gcd_comm];unfold gc at this;lia
 have gq:Int.gcd q.2 q.1=1:=by have:=hq.one;rw[Int.gcd_comm];unfold gc at this;lia
 have d1:p.2 ∣ q.2:=by
  have:p.2 ∣ p.1*q.2:=⟨q.1,by rw[h,Int.mul_comm]⟩
  have:=Int.dvd_gcd_mul_iff_dvd_mul.mpr this;rw[gp] at this;simpa using this
 have d2:q.2 ∣ p.2:=by
  have:q.2 ∣ q.1*p.2:=⟨p.1,by rw[<- h,Int.mul_comm]⟩
  have:=Int.dvd_gcd_mul_iff_dvd_mul.mpr this;rw[gq] at this;simpa using this
 have l1:=Int.le_of_dvd (by have:=hq.pos;lia) d1;have l2:=Int.le_of_dvd (by have:=hp.pos;lia) d2;have e2:p.2=q.2:=by lia
 have e1:p.1=q.1:=by
  rw[e2] at h;exact Int.eq_of_mul_eq_mul_right (by have:=hq.pos;lia) h
 exact Prod.ext e1 e2
def iO (p q:Q2):Q2:=red (p.1*q.2+q.1*p.2) (p.2*q.2)
def minus (p q:Q2):Q2:=red (p.1*q.2 - q.1*p.2) (p.2*q.2)
def uG (p q:Q2):Q2:=red (p.1*q.1) (p.2*q.2)
def mP (p q:Q2):Q2:=red (p.1*q.2) (p.2*q.1)
def tot (l:List Q2):Q2:=l.foldl iO (0,1)
theorem jE {a b:Int}(ha:1<=a)(hb:1<=b):a*b≠0:=by
 have:=Int.mul_pos (show 0 < a by lia) (show 0 < b by lia);lia
theorem jZ (hp:1<=p.2)(hq:1<=q.2):Low (iO p q):=jH (jE hp hq)
theorem Ih (hp:1<=p.2)(hq:1<=q.2):(iO p q).1*(p.2*q.2)=(p.1*q.2+q.1*p.2)*(iO p q).2:=tS (jE hp hq)
def B (n:Nat)(i:Int):Prop:=i.natAbs < 2 ^ n
structure Bd (n:Nat) (p:Q2):Prop where
 a:B n p.1
 b:B n p.2
theorem B.mono (h:B n i)(l:n<=m):B m i:=Nat.lt_of_lt_of_le h (Nat.pow_le_pow_right ∅ l)
theorem B.mul (h:B n i)(q:B m j):B (n+m) (i*j):=by
 unfold B at *
 rw[Int.natAbs_mul,Nat.pow_add];exact Nat.mul_lt_mul'' h q
theorem B.add (h:B n i)(q:B n j):B (n+1) (i+j):=by
 unfold B at *
 have:=Int.natAbs_add_le i j;rw[Nat.pow_succ];lia
theorem B.neg (h:B n i):B n (-i):=by unfold B at *;lia
theorem B.sub (h:B n i)(q:B n j):B (n+1) (i - j):=by
 rw[Int.sub_eq_add_neg];exact h.add q.neg
theorem B.le (h:B n i)(l:j.natAbs<=i.natAbs):B n j:=Nat.lt_of_le_of_lt l h
theorem Bd.mono (h:Bd n p)(l:n<=m):Bd m p:=⟨h.a.mono l,h.b.mono l⟩
theorem uY (h:Bd n p)(g:Bd m q)(hp:1<=p.2)(hq:1<=q.2):Bd (n+m+1) (iO p q):=by
 have k:=oF (t:=p.1*q.2+q.1*p.2) (jE hp hq);have a2:B (n+m) (q.1*p.2):=by rw[Nat.add_comm];exact g.a.mul h.b
 exists ((h.a.mul g.b).add a2).le k.1,((h.b.mul g.b).mono (Nat.le_succ _)).le k.2
def D:List Q2->Int
 | []=>1
 |f :: r=>f.2*D r
def N:List Q2->Int
 | []=>0
 |f :: r=>f.1*D r+f.2*N r
theorem Zj (xs ys:List Q2):D (xs++ys)=D xs*D ys:=by
 induction xs with
 |nil=>simp[D]
 |cons x r ih=>simp only[cons_append,D,ih];grind
theorem qn8 (xs ys:List Q2):N (xs++ys)=N xs*D ys+D xs*N ys:=by
 induction xs with
 |nil=>simp[N,D]
 |cons x r ih=>simp only[cons_append,N,D,ih,Zj];grind
def Pos (l:List Q2):Prop:=∀f∈l,1<=f.2
theorem Nq:∀{p:Q2},Low p->Pos l->Low (l.foldl iO p):=by
 induction l with
 |nil=>intro p h _;exact h
 |cons x r ih=>intro p h k;exact ih (jZ h.pos (k x ⋯)) λf hf=>k f (by simp[hf])
theorem qa1:Low (0,1):=⟨Int.le_refl 1,rfl⟩
theorem vJ (h:Pos l):Low (tot l):=Nq qa1 h
theorem Fb:∀{p:Q2},1<=p.2->Pos l->(l.foldl iO p).1*(p.2*D l)=(p.1*D l+p.2*N l)*(l.foldl iO p).2:=by
 induction l with
 |nil=>intro p h _;simp[D,N]
 |cons x r ih=>
  intro p h k;have hx:=k x ⋯;have kr:Pos r:=λf hf=>k f (by simp[hf]);have c:=Ih h hx;have hl:=jZ h hx;have i:=ih hl.pos kr;simp only[foldl_cons,D,N];generalize (foldl iO (iO p x) r).1=a at *
  generalize (foldl iO (iO p x) r).2=b at *
  have ne:(iO p x).2≠0:=by have:=hl.pos;lia
  generalize (iO p x).1=u at *
  generalize (iO p x).2=v at *
  generalize D r=d at *
  generalize N r=n at *
  have:v*(a*(p.2*(x.2*d)))=v*((p.1*(x.2*d)+p.2*(x.1*d+x.2*n))*b):=by grind
  exact Int.eq_of_mul_eq_mul_left ne this
theorem Pe (h:Pos l):(tot l).1*D l=N l*(tot l).2:=by
 have:=Fb (p:=(0,1)) (Int.le_refl 1) h;unfold tot;simpa using this
theorem Tw:∀{n:Nat} {p:Q2},Bd n p->Low p->Pos l->(∀f∈l,Bd k f)->Bd (n+(k+1)*l.length) (l.foldl iO p):=by
 induction l with
 |nil=>intro n p h _ _ _;simpa using h
 |cons x r ih=>
  intro n p h hl hp hb;have q:=uY h (hb x ⋯) hl.pos (hp x ⋯);have:=ih q (jZ hl.pos (hp x ⋯)) (λf hf=>hp f (by simp[hf])) λf hf=>hb f (by simp[hf]);refine this.mono ?_;simp only[length_cons,Nat.mul_add,Nat.mul_one];lia
theorem qa8 (hp:Pos l)(hb:∀f∈l,Bd k f):Bd (1+(k+1)*l.length) (tot l):=
 Tw ⟨show (0:Nat) < 2 ^ 1 by decide,show (1:Nat) < 2 ^ 1 by decide⟩ qa1 hp hb
end Mq
open Mq (Bd Hb Kh Kx Low Q2 dvr gc hJ iO jE jH jZ mP oF red tH tot uG uY vJ zI)
namespace L2
open PySem PySem.Spec PyProof.Rows
structure aZ (K:Frag) (x qual:Str) (st:Stmt) (dV:Value) (f:Addr) (fd:FuncData):Prop where
 ex:∃(oc:Value) (od:Option Addr) (kV doc pm:Value) (an:Option Addr) (cdv ct:Value) (osl:Array (Option Value)),
  fd=W.fnOf x qual (fI st) (eV st) (aH st) dV kV doc pm an cdv ct/\K.lookup f=some ⟨oc,od,.func fd,osl⟩/\W.codeIn K cdv qual=true
 kp:W.keepIn K (.ref f)=true
section
variable {P:Program} {w:World} {K:Frag} {mg:Str->Option Value} {base:Heap} {CX:CXT}
theorem aZ.okX {st:Stmt}(F:aZ K x qual st dV f fd)(S:aS N ps (aH st))(len:∀vs H Q E,sp vs H Q E->vs.length=ps.length)(hbody:∀(cdv:Value) (A:Around) (outer:List Env) (s:Shared) (H:Hp) (vs:wk) (Q:VK) (E:XK),iI k (A.deeper (envOfC qual (aH st) s.heap.objs.size f cdv))->sp vs H Q E->
   ∃t,PSs (zD CX P w K mg base N qual (aH st) f cdv A outer s H E) (eV st) t/\t { nx:=λ_ H'=>Q .non H',rt:=Q } (start N vs) H):aL P w K mg base CX (k+1) f fd ps sp:=by
 obtain⟨oc,od,kV,doc,pm,an,cdv,ct,osl,rfl,lk,hcd⟩:=F.ex;exact qn1 lk hcd S len λA outer s H vs Q E hr hsp=>hbody cdv A outer s H vs Q E hr hsp
theorem aZ.ok {st:Stmt}(F:aZ K x qual st dV f fd)(S:aS N ps (aH st))(len:∀vs H Q E,sp vs H Q E->vs.length=ps.length)(hbody:∀(cdv:Value) (A:Around) (outer:List Env) (s:Shared) (H:Hp) (vs:wk) (Q:VK) (E:XK),iI k (A.deeper (envOfC qual (aH st) s.heap.objs.size f cdv))->sp vs H Q E->
   ∃t,PSs (zD CX P w K mg base N qual (aH st) f cdv A outer s H E).nox (eV st) t/\t { nx:=λ_ H'=>Q .non H',rt:=Q } (start N vs) H):aL P w K mg base CX (k+1) f fd ps sp:=
 F.okX S len λcdv A outer s H vs Q E hr hsp=>by
  obtain⟨t,h,q⟩:=hbody cdv A outer s H vs Q E hr hsp;exists t,h.nox,q
theorem aZ.ok9 {st:Stmt}(F:aZ K x qual st dV f fd)(S:aS N ps (aH st))(hbody:∀(cdv:Value) (A:Around) (outer:List Env) (s:Shared) (H:Hp) (vs:wk) (Q:VK) (E:XK),iI k (A.deeper (envOfC qual (aH st) s.heap.objs.size f cdv))->sp vs H Q E->
   ∃t,PSs (zD CX P w K mg base N qual (aH st) f cdv A outer s H E).nox (eV st) t/\t { nx:=λ_ H'=>Q .non H',rt:=Q } (start N vs) H)(len:∀vs H Q E,sp vs H Q E->vs.length=ps.length:=by intro _ _ _ _ h;first|(cases h;subst_vars;rfl)|(repeat (first | (obtain⟨rfl,_⟩:=h;rfl) | obtain⟨_,h⟩:=h))):aL P w K mg base CX (k+1) f fd ps sp:=F.ok S len hbody
theorem aZ.binds {st:Stmt}(F:aZ K x qual st dV f fd)(h:∀(kV doc pm:Value) (an:Option Addr) (cdv ct:Value) (us:List Value),us.length=ps.length->bindArgs (W.fnOf x qual (fI st) (eV st) (aH st) dV kV doc pm an cdv ct) ⟨us,[]⟩=pure (ps.zip us)):aP K fd ps []:=by
 obtain⟨oc,od,kV,doc,pm,an,cdv,ct,osl,rfl,lk,hcd⟩:=F.ex;exact .all (h kV doc pm an cdv ct)
theorem vH {st:Stmt}{kV doc pm cdv ct:Value}(l:K.lookup f=some ⟨oc,od,.func (W.fnOf x qual (fI st) (eV st) (aH st) dV kV doc pm an cdv ct),osl⟩)(c:W.codeIn K cdv qual=true)(k:kI9 K f):aZ K x qual st dV f (W.fnOf x qual (fI st) (eV st) (aH st) dV kV doc pm an cdv ct):=⟨⟨oc,od,kV,doc,pm,an,cdv,ct,osl,rfl,l,c⟩,k⟩
end
abbrev fT (p:Q2):HO:=.tup [.int p.1,.int p.2]
def Fq (K:Frag)(H:Hp)(a:Addr)(p:Q2):Prop:=SqT K H a [.int p.1,.int p.2]
theorem aX.seqT {K:Frag}(e:aX H H')(h:SqT K H a xs):SqT K H' a xs:=by
 rcases h with (h | ⟨o,h⟩) | h
 .exact .inl (.inl (e _ _ h))
 .exact .inl (.inr ⟨o,e _ _ h⟩)
 .exact .inr h
theorem aG (h:H p=none)(o:HO):aX H (upd H p o):=λb u q=>by rw[aV (bL q h)];exact q
theorem nw {H:Hp}{x:Addr}(h:H x=none)(o:HO):∃H1,upd H x o=H1/\aX H H1/\H1 x=some o:=⟨_,rfl,aG h o,aB⟩
theorem aX.fq {K:Frag}(e:aX H H')(h:Fq K H a p):Fq K H' a p:=e.seqT h
theorem Fq.of {K:Frag}(h:H a=some (fT p)):Fq K H a p:=SqT.of h
theorem eI {K:Frag}(hv:σ[i]?=some (some (.ref a)))(h:Fq K H a p)(q:Q (.int p.1) H):tOp (Si K) (Nx i) (tC (.int 0)) σ H Q:=
 ⟨_,hv,a,_,_,_,rfl,rfl,h,rfl,q⟩
theorem cU {K:Frag}(hv:σ[i]?=some (some (.ref a)))(h:Fq K H a p)(q:Q (.int p.2) H):tOp (Si K) (Nx i) (tC (.int 1)) σ H Q:=
 ⟨_,hv,a,_,_,_,rfl,rfl,h,rfl,q⟩
theorem cQ (h1:Mq.B n i)(h2:Mq.B m j)(h3:n<=1048576)(h4:m<=1048576)(q:Q (.int (i*j)) H):rI Yk (λi j=>.int (i*j)) (.int i) (.int j) H Q:=
 ⟨_,_,rfl,rfl,⟨n,m,h1,h2,h3,h4⟩,q⟩
theorem iS (h1:j≠0)(h2:Mq.B n j)(h3:n<=9000)(q:Q (.int (i.fdiv j)) H):rI Li (λi j=>.int (i.fdiv j)) (.int i) (.int j) H Q:=
 ⟨_,_,rfl,rfl,⟨h1,n,h2,h3⟩,q⟩
structure Bl (mg:Str->Option Value):Prop where
 isi:mg "isinstance"=none
 int:mg "int"=none
 bool:mg "bool"=none
 abs:mg "abs"=none
def wP (t:Value):Prop:=t=.type "bool"\/t=.type "str"\/t=.type "NoneType"\/t=.type "tuple"\/t=.type "list"
inductive pE (K:Frag) (vs:wk) (H:Hp) (Q:VK) (E:XK):Prop where
 |mk (x):vs=[x]->((∃i,x=.int i/\Q (.bl true) H)\/(∃t,pI K H x t/\wP t/\Q (.bl false) H))->pE K vs H Q E
inductive Fa (vs:wk) (H:Hp) (Q:VK) (E:XK):Prop where
 |mk (a b:Int):vs=[.int a,.int b]->Q (.int (gc a b)) H->Fa vs H Q E
def uU (H:Hp)(Q:VK)(p:Q2):Prop:=∀a H',aX H H'->H' a=some (fT p)->Q (.ref a) H'
inductive nA (vs:wk) (H:Hp) (Q:VK) (E:XK):Prop where
 |mk (t b:Int) (n:Nat):vs=[.int t,.int b]->b≠0->Mq.B n b->n<=9000->uU H Q (red t b)->nA vs H Q E
inductive nX (K:Frag) (f:Q2->Q2->Q2) (vs:wk) (H:Hp) (Q:VK) (E:XK):Prop where
 |mk (a b:Addr) (p q:Q2) (n m:Nat):vs=[.ref a,.ref b]->Fq K H a p->Fq K H b q->1<=p.2->1<=q.2->Bd n p->Bd m q->n+m+1<=9000->uU H Q (f p q)->nX K f vs H Q E
inductive Fqs (K:Frag) (H:Hp):wk->List Q2->Prop where
 |nil:Fqs K H [] []
 |cons {a:Addr} {p:Q2} {xs:wk} {ps:List Q2} (h:Fq K H a p) (q:Fqs K H xs ps):Fqs K H (.ref a :: xs) (p :: ps)
theorem Fqs.same {K:Frag}(e:aX H H'):∀{xs:wk} {ps:List Q2},Fqs K H xs ps->Fqs K H' xs ps
 |_,_,.nil=>.nil
 |_,_,.cons h q=>.cons (e.fq h) (Fqs.same e q)
theorem Fqs.length {K:Frag}:∀{xs:wk} {ps:List Q2},Fqs K H xs ps->xs.length=ps.length
 |_,_,.nil=>rfl
 |_,_,.cons _ q=>by simp[Fqs.length q]
theorem Fqs.get {K:Frag}:∀{xs:wk} {ps:List Q2} {i:Nat} {x:V},Fqs K H xs ps->xs[i]?=some x->∃a p,x=.ref a/\ps[i]?=some p/\Fq K H a p
 |_,_,_,_,.nil,h=>by simp at h
 |_,_,0,_,.cons h _,e=>by simp at e;exists _,_,e.symm,rfl,h
 |_,_,i+1,_,.cons _ q,e=>by simpa using Fqs.get q (by simpa using e)
theorem Fqs.app {K:Frag}:∀{xs ys:wk} {ps qs:List Q2},Fqs K H xs ps->Fqs K H ys qs->Fqs K H (xs++ys) (ps++qs)
 |_,_,_,_,.nil,r=>r
 |_,_,_,_,.cons h q,r=>.cons h (Fqs.app q r)
theorem Fq.upd {K:Frag}(h:Fq K H a p)(hl:H l=some (.lst xs)):Fq K (L2.upd H l o) a p:=by
 rcases h with (h | ⟨u,h⟩) | h
 .exact .inl (.inl (by rw[aV (gX h hl (λz=>by cases z))];exact h))
 .exact .inl (.inr ⟨u,by rw[aV (gX h hl (λz=>by cases z))];exact h⟩)
 .exact .inr h
theorem Fqs.upd {K:Frag}(hl:H l=some (.lst ys)):∀{xs:wk} {ps:List Q2},Fqs K H xs ps->Fqs K (L2.upd H l o) xs ps
 |_,_,.nil=>.nil
 |_,_,.cons h q=>.cons (h.upd hl) (Fqs.upd hl q)
theorem aX.change (s:aX H H')(h:H l=none):aX H (L2.upd H' l o):=λb u q=>by
 rw[aV (bL q h)];exact s b u q
def qd (p:Q2):PyData:=.tuple [.int p.1,.int p.2]
theorem Fq.dat {K:Frag}(h:Fq K H a p):pV K H (.ref a) (qd p):=.tup h (.cons (.int _) (.cons (.int _) .nil))
theorem Vf (p:Q2):(qd p).canLay0=true:=rfl
theorem Um (p:Q2):(qd p).depth<=1:=by simp[qd,PyData.depth,PyData.depthAll]
theorem qk5 (p q:Q2):PyData.eqv (qd p) (qd q)=decide (p=q):=by
 unfold qd;simp only[PyData.eqv,PyData.eqvAll]
 by_cases h:p=q
 .subst h;simp
 .rw[decide_eq_false h]
  by_cases h1:p.1=q.1
  .have h2:p.2≠q.2:=λz=>h (Prod.ext h1 z);simp[h2]
  .simp[h1]
theorem Iq {K:Frag}(h1:Fq K H a p)(h2:Fq K H b q)(z:Q (.bl (if neg then !decide (p=q) else decide (p=q))) H):Nw K neg (.ref a) (.ref b) H Q:=by
 exists _,_,h1.dat,h2.dat,Vf p,Vf q,?_,?_
 .have:=Um p;lia
 .rw[qk5];exact z
abbrev Kk (nl:Nat)(fr:List Nat)(g:TG)(tt:TT)(te:TE)(σ:St)(D:Addr)(Pv:Nat->wk->Hp->Prop)(i:Nat)(ys:wk)(x:V)(H:Hp):Prop:=
 g x (σC nl fr σ) H λσ2 H4=>σ2.length=(σC nl fr σ).length/\(∀(i:Nat) v,(σC nl fr σ)[i]?=some (some v)->σ2[i]?=some (some v))/\
  tt σ2 H4 λb H5=>if b=true then te σ2 H5 λy H6=>H6 D=some (.lst ys)/\ys.length < sizeLine/\Pv (i+1) (ys++[y]) (upd H6 D (.lst (ys++[y]))) else Pv (i+1) ys H5
section
variable {nl:Nat} {fr:List Nat} {g:TG} {tt:TT} {te:TE} {σ:St} {D:Addr} {H1:Hp} {Q:VK}
theorem iJ {lo:Int}(Pv:Nat->wk->Hp->Prop)(h0:Pv 0 [] (upd H1 D (.lst [])))(hl:∀i ys H,Pv i ys H->H D=some (.lst ys))(hs:∀i ys H,i < n->Pv i ys H->∀(C:Nat->wk->Hp->Prop),(∀ys H,Pv (i+1) ys H->C (i+1) ys H)->Kk nl fr g tt te σ D C i ys (.int (lo+i)) H)(hd:∀ys H,Pv n ys H->Q (.ref D) H):
  xL (Itr lo n) nl fr g tt te σ D H1 Q:=by
 exists λi m ys H=>m=n - i/\i<=n/\Pv i ys H,⟨n,⋯,Nat.zero_le _,h0⟩,?_;rintro i m ys H ⟨rfl,hi,p⟩;exists hl i ys H p,?_
 by_cases hlt:i < n
 .refine .inr ⟨hlt,λx H' y=>?_⟩;obtain⟨e,y⟩:=y;subst e y;exact hs i ys _ hlt p (λj zs Hz=>∃m',m' < n - i/\m'=n - j/\j<=n/\Pv j zs Hz) λzs Hz z=>⟨n - (i+1),(),rfl,hlt,z⟩
 .have e:i=n:=by lia
  subst e;exact .inl ⟨Nat.le_refl _,hd ys H p⟩
theorem dB {K:Frag}(Pv:Nat->wk->Hp->Prop)(h0:Pv 0 [] (upd H1 D (.lst [])))(hl:∀i ys H,Pv i ys H->H D=some (.lst ys))(hx:∀i ys H,i<=xs.length->Pv i ys H->SqL K H a xs)(hs:∀i ys x H,xs[i]?=some x->Pv i ys H->∀(C:Nat->wk->Hp->Prop),(∀ys H,Pv (i+1) ys H->C (i+1) ys H)->Kk nl fr g tt te σ D C i ys x H)(hd:∀ys H,Pv xs.length ys H->Q (.ref D) H):
  xL (Itl K a) nl fr g tt te σ D H1 Q:=by
 exists λi m ys H=>m=xs.length - i/\i<=xs.length/\Pv i ys H,⟨xs.length,⋯,Nat.zero_le _,h0⟩,?_;rintro i m ys H ⟨rfl,hi,p⟩;exists hl i ys H p,?_;have q:=hx i ys H hi p
 by_cases hlt:i < xs.length
 .refine .inr ⟨⟨xs,xs[i],q,by simp[hlt]⟩,λx H' y=>?_⟩;obtain⟨e,y⟩:=y;subst e;exact hs i ys x _ (y xs q) p (λj zs Hz=>∃m',m' < xs.length - i/\m'=xs.length - j/\j<=xs.length/\Pv j zs Hz) λzs Hz z=>⟨xs.length - (i+1),(),rfl,hlt,z⟩
 .have e:i=xs.length:=by lia
  subst e;exact .inl ⟨⟨xs,q,Nat.le_refl _⟩,hd ys H p⟩
theorem clS {nl:Nat}{fr:List Nat}{g:TG}{tt:TT}{te:TE}{σ:St}{D:Addr}{H:Hp}{Q:VK}{K:Frag}{a:Addr}{xs:wk} (hD:H D=none) (Pv:Nat→wk→Hp→Prop) (h0:Pv 0 [] (upd H D (.lst []))) (hx:∀H',aX H H'→SqL K H' a xs) (hs:∀i ys x H1,xs[i]?=some x→(aX H H1/\H1 D=some (.lst ys)/\Pv i ys H1)→∀C:Nat→wk→Hp→Prop,(∀ys H1,(aX H H1/\H1 D=some (.lst ys)/\Pv (i+1) ys H1)→C (i+1) ys H1)→Kk nl fr g tt te σ D C i ys x H1) (hd:∀ys H1,(aX H H1/\H1 D=some (.lst ys)/\Pv xs.length ys H1)→Q (.ref D) H1):xL (Itl K a) nl fr g tt te σ D H Q:=dB (λi ys H1=>aX H H1/\H1 D=some (.lst ys)/\Pv i ys H1) ⟨aG hD _,aB,h0⟩ (λ_ _ _ h=>h.2.1) (λ_ _ _ _ h=>hx _ h.1) hs hd
theorem crS {nl:Nat}{fr:List Nat}{g:TG}{tt:TT}{te:TE}{σ:St}{D:Addr}{H:Hp}{Q:VK}{lo:Int}{n:Nat} (hD:H D=none) (Pv:Nat→wk→Hp→Prop) (h0:Pv 0 [] (upd H D (.lst []))) (hs:∀i ys H1,i<n→(aX H H1/\H1 D=some (.lst ys)/\Pv i ys H1)→∀C:Nat→wk→Hp→Prop,(∀ys H1,(aX H H1/\H1 D=some (.lst ys)/\Pv (i+1) ys H1)→C (i+1) ys H1)→Kk nl fr g tt te σ D C i ys (.int (lo+i)) H1) (hd:∀ys H1,(aX H H1/\H1 D=some (.lst ys)/\Pv n ys H1)→Q (.ref D) H1):xL (Itr lo n) nl fr g tt te σ D H Q:=iJ (λi ys H1=>aX H H1/\H1 D=some (.lst ys)/\Pv i ys H1) ⟨aG hD _,aB,h0⟩ (λ_ _ _ h=>h.2.1) hs hd
end
theorem cZ:((σC 1 fr σ).set 0 (some x)).length=(σC 1 fr σ).length/\∀(i:Nat) v,(σC 1 fr σ)[i]?=some (some v)->((σC 1 fr σ).set 0 (some x))[i]?=some (some v):=by
 exists ⋯,λi v h=>?_
 match i with
 |0=>unfold σC at h;simp at h
 |k+1=>rw[getElem?_set_ne ()];exact h
theorem dI {names:List (Str × NameKind)}{cl:List (Str × Addr)}(h:names.all (λy=>!(y.2 == .cell || y.2 == .free) || (cl.lookup y.1).isSome)=true)(x:Str)(hx:names.lookup x=some .cell\/names.lookup x=some .free):∃c,cl.lookup x=some c:=by
 have key:∀k,(k=NameKind.cell\/k=NameKind.free)->names.lookup x=some k->∃c,cl.lookup x=some c:=λk hk e=>by
  have m:=all_eq_true.mp h _ (PySem.mem_of_lookup e);have:(k == NameKind.cell || k == NameKind.free)=true:=by rcases hk with rfl | rfl<;>rfl
  simp only[this,Bool.not_true,Bool.false_or] at m;exact Option.isSome_iff_exists.mp m
 rcases hx with e | e
 .exact key _ (.inl rfl) e
 .exact key _ (.inr rfl) e
section
variable {X:Cx} {pins:List (Addr × Obj)} {σ:St} {H:Hp} {s:Shared} {h':Heap}
theorem Inv.turnedL {fp:List Addr}(I:Inv X pins σ H s)(k:∀b o,b∉fp->s.heap.get? b=some o->h'.get? b=some o)(hf:∀b∈fp,pH X pins H b):Inv X pins σ H { s with heap:=h',toks:=t' }:=by
 have nit:∀b u,H b=some u->b∉fp:=λb u e z=>by rw[(hf b z).1] at e;cases e
 have nL:X.env.locals∉fp:=λz=>(hf _ z).2.1 rfl;refine I.step (g':=s.gens) (d':=s.drawn) (ch:=fp) (λb hb=>?_) (λb o _ _ hc e _=>k b o hc e) (λb o _ _ hc e _=>⟨o.slots,k b o hc e⟩) (λ_ _ _ _ n=>n)
  (λb o hc e=>⟨o,k b o hc e⟩) (λ_ _ e=>e) (λ_ _ _ e=>e) (λb ps e=>⟨#[],by rw[e];simp⟩) (λm hm=>?_) (λb u e=>?_) I.bare
 .obtain⟨f0,f1,f2,f3,f4,f5⟩:=hf b hb;exists f3,f1,f4,f5
 .obtain⟨o,es,ep,ho,r⟩:=hm;exists o,es,ep,k _ o nL ho,r
 .refine(I.hok b u e).stay (λc v hc q=>k c v ?_ q) (λ_ q=>q) λ_ _ q=>q;rcases hc with z | z
  .rw[z];exact nit b u e
  .exact nit c _ z
end
def Itz (K : Frag)(a b : Addr) : It :=
  ⟨λi H => ∃ xs ys x y, SqL K H a xs /\ SqL K H b ys /\ xs[i]? = some x /\ ys[i]? = some y,
   λi H v H' => ∃ T x y, v = .ref T /\ H T = none /\ H' = upd H T (.tup [x, y]) /\ ∀ xs ys, SqL K H a xs -> SqL K H b ys -> xs[i]? = some x /\ ys[i]? = some y,
   λi H => ∃ xs ys, SqL K H a xs /\ SqL K H b ys /\ (xs.length <= i \/ ys.length <= i)⟩
def qn5 (z TI TO i1 i2 l1 l2:Addr)(i:Nat)(h:Heap):Prop:=
 ZipApart z TI TO i1 i2 l1 l2/\IsZip h z TI TO .none/\IsPair h TI (.ref i1) (.ref i2)/\(∃a b,IsPair h TO a b)/\h.IsListIter i1 l1 i/\h.IsListIter i2 l2 i
theorem Pu {K:Frag}(z TI TO i1 i2 l1 l2:Addr):
  Pf P w K (.Tuple elts kk tpos) (Itz K l1 l2) [z,TI,TO,i1,i2] z (qn5 z TI TO i1 i2 l1 l2) where
 mem:=by simp
 obj:=λi h st b hb=>by
  obtain⟨ap,hz,hi,⟨a,c,ho⟩,⟨o1,e1,c1,d1⟩,⟨o2,e2,c2,d2⟩⟩:=st;simp only[mem_cons,not_mem_nil,or_false] at hb;rcases hb with rfl | rfl | rfl | rfl | rfl
  .exists _,hz,λv q=>by cases q
  .exists _,hi,λv q=>by cases q
  .exists _,ho,λv q=>by cases q
  .exists o1,e1,λv q=>by rw[d1] at q;cases q
  .exists o2,e2,λv q=>by rw[d2] at q;cases q
 keep:=λi h h' st k=>by
  obtain⟨ap,hz,hi,⟨a,c,ho⟩,⟨o1,e1,c1,d1⟩,⟨o2,e2,c2,d2⟩⟩:=st;exists ap,k _ ⋯ _ hz,k _ ⋯ _ hi,⟨a,c,k _ ⋯ _ ho⟩,⟨o1,k _ ⋯ _ e1,c1,d1⟩,⟨o2,k _ ⋯ _ e2,c2,d2⟩
 item:=by
  intro X hP hw hK hc i pins s σ H E I hf st hg;subst hP hw hK;obtain⟨ap,hz,hi,⟨a,c,ho⟩,t1,t2⟩:=st;obtain⟨xs,ys,x,y,hx,hy,ex,ey⟩:=hg;obtain⟨its1,rv1,p1,z1⟩:=I.list hx;obtain⟨its2,rv2,p2,z2⟩:=I.list hy;obtain⟨u1,hu1,ru1⟩:=rv1.get ex;obtain⟨u2,hu2,ru2⟩:=rv2.get ey;refine wpAny_pyNext_zip_item ap hz hi ho t1 t2 p1.isList p2.isList (x:=u1) (y:=u2) (by simpa using hu1) (by simpa using hu2) λh' g1 g2 g3 g4 g5 g6 kk'=>?_;have hn:H s.heap.objs.size=none:=I.hok.fresh (Nat.le_refl _);have lt:∀b∈[z,TI,TO,i1,i2],b < s.heap.objs.size:=λb hb=>by
   simp only[mem_cons,not_mem_nil,or_false] at hb;obtain⟨o1,e1,_⟩:=t1;obtain⟨o2,e2,_⟩:=t2;rcases hb with rfl | rfl | rfl | rfl | rfl
   .exact Heap.lt_size hz
   .exact Heap.lt_size hi
   .exact Heap.lt_size ho
   .exact Heap.lt_size e1
   .exact Heap.lt_size e2
  have I1:Inv X pins σ (upd H s.heap.objs.size (.tup [x,y])) { s with heap:=s.heap.push { cls:=.type "tuple",data:=.seq #[u1,u2] } }:=
   I.laid (t':=s.toks) (λb o e=>Heap.get?_push_of_some _ e) (Nat.le_refl _) (show dP X.prog X.w _ _ _ (.tup [x,y]) from ⟨zl9 2,[u1,u2],.cons ru1 (.cons ru2 .nil),IsTup.new _ _⟩)
  have hf1:∀b∈[z,TI,TO,i1,i2],pH X pins (upd H s.heap.objs.size (.tup [x,y])) b:=λb hb=>⟨by rw[aV (Nat.ne_of_lt (lt b hb))];exact(hf b hb).1,(hf b hb).2⟩
  have k1:∀b o,b∉[z,TI,TO,i1,i2]->(s.heap.push { cls:=.type "tuple",data:=.seq #[u1,u2] }).get? b=some o->h'.get? b=some o:=λb o nb e=>by
   simp only[mem_cons,not_mem_nil,or_false,not_or] at nb
   by_cases hb:b=s.heap.objs.size
   .subst hb;rw[Heap.get?_push_size _ rfl] at e
    cases e
    exact g5
   .have e0:s.heap.get? b=some o:=by rw[Heap.get?_push_ne _ _ _ hb] at e;exact e
    exact kk' b o nb.1 nb.2.2.1 nb.2.2.2.1 nb.2.2.2.2 e0
  have I2:Inv X pins σ (upd H s.heap.objs.size (.tup [x,y])) { s with heap:=h',toks:=s.toks }:=I1.turnedL (t':=s.toks) k1 hf1;exists _,rfl,wpAny_letOwnedTupleGo_zip (s:={ s with heap:=h' }) g1 λh2 q1 q2=>?_;have kz:∀b o,b≠z->h'.get? b=some o->h2.get? b=some o:=λb o nb e=>(q2.2 b nb).trans e;have I3:Inv X pins σ (upd H s.heap.objs.size (.tup [x,y])) { s with heap:=h2,toks:=s.toks }:=Inv.turnedL (s:={ s with heap:=h',toks:=s.toks }) (t':=s.toks) (fp:=[z]) I2 (λb o nb e=>kz b o (by simpa using nb) e) λb hb=>hf1 b (by simp at hb;simp[hb]);have hTI:h'.get? TI=some { cls:=.type "tuple",data:=.seq #[.ref i1,.ref i2] }:=kk' TI _ ap.TIz ap.TITO ap.TIi1 ap.TIi2 hi;obtain⟨o3,e3,c3,d3⟩:=g3;obtain⟨o4,e4,c4,d4⟩:=g4;exists .ref s.heap.objs.size,_,I3,rfl,⟨_,x,y,rfl,hn,rfl,λxs' ys' h1 h2=>?_⟩,⟨ap,q1,kz _ _ ap.TIz hTI,⟨_,_,kz _ _ ap.TOz g2⟩,⟨o3,kz _ _ ap.i1z e3,c3,d3⟩,⟨o4,kz _ _ ap.i2z e4,c4,d4⟩⟩,λb hb=>(hf1 b hb).1;rw[I.list_inj h1 hx,I.list_inj h2 hy];exists ex,ey
 done:=by
  intro X hP hw hK hc i pins s σ H E I hf st hg;subst hP hw hK;obtain⟨ap,hz,hi,⟨a,c,ho⟩,t1,t2⟩:=st;obtain⟨xs,ys,hx,hy,hor⟩:=hg;obtain⟨its1,rv1,p1,z1⟩:=I.list hx;obtain⟨its2,rv2,p2,z2⟩:=I.list hy;have l1':=rv1.length;have l2':=rv2.length;refine wpAny_pyNext_zip_end (I.ok.hd hc) ap hz hi ho t1 t2 p1.isList p2.isList (by rcases hor with h | h;left;simp;lia;right;simp;lia) λh' kk'=>⟨rfl,?_⟩
  refine I.turnedL (t':=s.toks) (λb o nb e=>?_) hf;simp only[mem_cons,not_mem_nil,or_false,not_or] at nb;exact kk' b o nb.1 nb.2.2.1 nb.2.2.2.1 nb.2.2.2.2 e
 self:=λA i s Q E st h=>by
  obtain⟨ap,hz,hi,⟨a,c,ho⟩,t1,t2⟩:=st;exact wpAny_pyIter_zip hz h
section
variable {X:Cx}
def qt3 (K:Frag)(ta:TA):TI:=λσ H R=>ta σ H λvs H1=>∃a b,vs=[.ref a,.ref b]/\(∃xs,SqL K H1 a xs)/\(∃ys,SqL K H1 b ys)/\R (Itz K a b) H1
theorem Db (hg:Gl X "zip")(hm:X.mg "zip"=none)(hv:bootBuiltins "zip"=some (.type "zip"))(ha:PA X [e1,e2] ta)(hs:starEach [e1,e2] X.env=(false,eval e1 X.env) :: starEach [e2] X.env:=by rfl)(hpl:(backTo pos (starEach [e2] X.env)).any (·.1)=false:=by rfl):PI X (.Tuple elts kk tpos) (.Call (.Name "zip" p) [e1,e2] [] pos) (qt3 X.K ta):=by
 intro pins s σ H R I h;refine Call_ (kZ I hg hm hv (PyProof.Rows.callWith_type1 (thn (ha pos pins s σ H _ I h) λus s1 ⟨vs,H1,I1,r1,q1⟩=>?_) hs hpl));obtain⟨a,b,rfl,⟨xs,hx⟩,⟨ys,hy⟩,q⟩:=q1;obtain⟨u,w',rfl,ra,rb⟩:=Rq r1
 cases (show u=Value.ref a from ra)
 cases (show w'=Value.ref b from rb)
 obtain⟨its1,rv1,p1,z1⟩:=I1.list hx;obtain⟨its2,rv2,p2,z2⟩:=I1.list hy;have la:a < s1.heap.objs.size:=by obtain⟨o,e,_⟩:=p1.isList;exact Heap.lt_size e
 have lb:b < s1.heap.objs.size:=by obtain⟨o,e,_⟩:=p2.isList;exact Heap.lt_size e
 refine call_zip_2 p1.isList p2.isList λh' g1 g2 g3 g4 g5 g6 kk'=>?_;refine wpAny_pyIter_zip g1 ?_;have ne:∀i j:Nat,i≠j->s1.heap.objs.size+i≠s1.heap.objs.size+j:=λi j n e=>n (Nat.add_left_cancel e);have nl:∀(c:Addr) (i:Nat),c < s1.heap.objs.size->c≠s1.heap.objs.size+i:=λc i l e=>absurd (Nat.lt_of_lt_of_le l (Nat.le_add_right _ i)) (by rw[<- e];exact Nat.lt_irrefl _);have n0:∀j:Nat,j≠0->s1.heap.objs.size+j≠s1.heap.objs.size:=λj n e=>n (Nat.add_left_cancel (e.trans (Nat.add_zero _).symm));exists s1.heap.objs.size+4,[s1.heap.objs.size+4,s1.heap.objs.size+2,s1.heap.objs.size+3,s1.heap.objs.size,s1.heap.objs.size+1],_,Itz X.K a b,H1,rfl,I1.kept (t':=s1.toks) kk',Pu _ _ _ _ _ a b,⟨?_,g1,g2,⟨_,_,g3⟩,g4,g5⟩,λc hc=>?_,q
 .exact⟨ne 2 4 ∅,ne 3 4 ∅,(n0 4 ∅).symm,ne 1 4 ∅,ne 2 3 ∅,n0 2 ∅,ne 2 1 ∅,n0 3 ∅,ne 3 1 ∅,(n0 1 ∅).symm,
   nl a 4 la,nl a 3 la,Nat.ne_of_lt la,nl a 1 la,nl b 4 lb,nl b 3 lb,Nat.ne_of_lt lb,nl b 1 lb⟩
 .have hle:s1.heap.objs.size<=c:=by
   simp only[mem_cons,not_mem_nil,or_false] at hc;rcases hc with rfl | rfl | rfl | rfl | rfl<;>first | exact Nat.le_add_right _ _ | exact Nat.le_refl _
  exact I1.fpOk hle (I1.hok.fresh hle)
theorem Kn {K:Frag}{g:TG}{tb:TS}{D:kE}(Pv:Nat->St->Hp->Prop)(h0:Pv 0 σ H)(hl:∀i σ H,i<=min xs.length ys.length->Pv i σ H->SqL K H a xs/\SqL K H b ys)(hs:∀i x y σ H T,xs[i]?=some x->ys[i]?=some y->Pv i σ H->H T=none->g (.ref T) σ (upd H T (.tup [x,y])) λσ2 H2=>tb { D with nx:=Pv (i+1),ct:=Pv (i+1),bk:=D.nx } σ2 H2)(hd:∀σ H,Pv (min xs.length ys.length) σ H->D.nx σ H):
  ∃W:Nat->Nat->St->Hp->Prop,(∃m,W 0 m σ H)/\∀i m σ H,W i m σ H->
   ((Itz K a b).stop i H/\D.nx σ H)\/((Itz K a b).go i H/\∃N:St->Hp->Prop,(∀σ' H',N σ' H'->∃m',m' < m/\W (i+1) m' σ' H')/\∀x H',(Itz K a b).yld i H x H'->g x σ H' λσ2 H2=>tb { D with nx:=N,ct:=N,bk:=D.nx } σ2 H2):=by
 exists λi m σ H=>m=min xs.length ys.length - i/\i<=min xs.length ys.length/\Pv i σ H,⟨_,rfl,Nat.zero_le _,h0⟩,?_;rintro i m σ H ⟨rfl,hi,p⟩;obtain⟨qx,qy⟩:=hl i σ H hi p
 by_cases hlt:i < min xs.length ys.length
 .have hx:i < xs.length:=by lia
  have hy:i < ys.length:=by lia
  refine .inr ⟨⟨xs,ys,xs[i],ys[i],qx,qy,by simp[hx],by simp[hy]⟩,Pv (i+1),λσ' H' p'=>⟨min xs.length ys.length - (i+1),(),rfl,hlt,p'⟩,λv H' z=>?_⟩;obtain⟨T,x,y,rfl,hT,rfl,hh⟩:=z;obtain⟨ex,ey⟩:=hh xs ys qx qy;exact hs i x y σ H T ex ey p hT
 .have e:i=min xs.length ys.length:=by lia
  subst e;exact .inl ⟨⟨xs,ys,qx,qy,()⟩,hd σ H p⟩
theorem Fe {K:Frag}(Pv:Nat->wk->Hp->Prop)(h0:Pv 0 [] (upd H1 D (.lst [])))(hl:∀i zs H,Pv i zs H->H D=some (.lst zs))(hx:∀i zs H,i<=min xs.length ys.length->Pv i zs H->SqL K H a xs/\SqL K H b ys)(hs:∀i zs x y H T,xs[i]?=some x->ys[i]?=some y->Pv i zs H->H T=none->∀(C:Nat->wk->Hp->Prop),(∀zs H,Pv (i+1) zs H->C (i+1) zs H)->Kk nl fr g tt te σ D C i zs (.ref T) (upd H T (.tup [x,y])))(hd:∀zs H,Pv (min xs.length ys.length) zs H->Q (.ref D) H):
  xL (Itz K a b) nl fr g tt te σ D H1 Q:=by
 exists λi m zs H=>m=min xs.length ys.length - i/\i<=min xs.length ys.length/\Pv i zs H,⟨_,rfl,Nat.zero_le _,h0⟩,?_;rintro i m zs H ⟨rfl,hi,p⟩;exists hl i zs H p,?_;obtain⟨qx,qy⟩:=hx i zs H hi p
 by_cases hlt:i < min xs.length ys.length
 .have hx':i < xs.length:=by lia
  have hy':i < ys.length:=by lia
  refine .inr ⟨⟨xs,ys,xs[i],ys[i],qx,qy,by simp[hx'],by simp[hy']⟩,λv H' z=>?_⟩;obtain⟨T,x,y,rfl,hT,rfl,hh⟩:=z;obtain⟨ex,ey⟩:=hh xs ys qx qy;exact hs i zs x y H T ex ey p hT (λj zs Hz=>∃m',m' < min xs.length ys.length - i/\m'=min xs.length ys.length - j/\j<=min xs.length ys.length/\Pv j zs Hz) λzs Hz z=>⟨min xs.length ys.length - (i+1),(),rfl,hlt,z⟩
 .have e:i=min xs.length ys.length:=by lia
  subst e;exact .inl ⟨⟨xs,ys,qx,qy,()⟩,hd zs H p⟩
end
def Tb (h0:Heap)(H:Hp)(h:Heap)(a:Addr)(v:Value):Prop:=
 v=.none\/∃T oT ts,v=.ref T/\T≠a/\h0.get? T=none/\H T=none/\h.get? T=some oT/\oT.data=.fields ts/\ts[3]?=some .none
structure Fl (h0:Heap) (H:Hp) (h:Heap) (a:Addr) (C:Value) (d:Option Addr):Prop where
 new:h0.get? a=none
 free:H a=none
 at_:∃oe vs v,h.get? a=some oe/\oe.cls=C/\oe.dict=d/\oe.data=.fields vs/\vs[1]?=some v/\Tb h0 H h a v
theorem Fl.older (F:Fl h0 H h a C d)(k:∀b,h0.get? b=none->h1.get? b=none):Fl h1 H h a C d:=by
 obtain⟨n,f,oe,vs,v,e1,e2,e3,e4,e5,t⟩:=F;exists k _ n,f,oe,vs,v,e1,e2,e3,e4,e5,?_;rcases t with t | ⟨T,oT,ts,t1,t2,t3,t4⟩
 .exact .inl t
 .exact .inr ⟨T,oT,ts,t1,t2,k _ t3,t4⟩
theorem wX (f:Array Value->Array Value)(o:Obj):(o.mapFields f).dict=o.dict:=by
 obtain⟨c,d,dt,sl⟩:=o
 cases dt<;>rfl
section
variable {M:Model} {A:Around} {E:Value->Shared->Prop} {s:Shared}
theorem Aa {head:Value}(hfr:A.frames=some (env :: outer))(hl:s.heap.FunFrames base (env :: outer))(hf:env.frame=some L)(he:s.heap.get? e=some oe)(hd:oe.data=.fields vs)(hsz:1 < vs.size)(h:∀h' T oT ts,s.heap.objs.size<=T->(∀b o,b∉frs (env :: outer)->b≠e->s.heap.get? b=some o->h'.get? b=some o)->(∀b o,b∈frs (env :: outer)->s.heap.get? b=some o->∃sl,h'.get? b=some { o with slots:=sl })->
   h'.get? e=some (oe.mapFields (·.setIfInBounds 1 (.ref T)))->h'.get? T=some oT->oT.data=.fields ts->ts[3]?=some .none->T≠e->Q .unit { s with heap:=h' }):
  wpAny M A (do let a <- frameOf env;let pl <- entryPlaceOf L hadNext;let b <- EntryCells.newEntry head a .none (rawInt L) .none pl;setField (.ref e) 1 b) (λ_ s'=>wpAny M A (setFlight (.ref e) none) Q E s') E s:=by
 have hene:e∉frs (env :: outer):=λhm=>by
  obtain⟨_,o,ho,hnf⟩:=hl.mem hm;rw[he] at ho;injection ho with ho;subst ho;exact hnf vs hd
 refine wpAny_bind (wpAny_frameOf_fun hfr hl hf λh₁ hs₁=>?_);refine wpAny_bind (wpAny_entryPlaceOf λpl hpl=>?_);unfold EntryCells.newEntry newFields;refine wpAny_bind (wpAny_newObj_type ?_ (hpl.sizeOk5 _ _ _ _ _));have he₁:h₁.get? e=some oe:=(hs₁.2.1 e hene).trans he;have he₂:=Heap.get?_push_of_some (h:=h₁) { cls:=.type "traceback",dict:=none,data:=.fields ([head,.ref L,.none,rawInt L,.none]++(if pl.isEmpty then replicate 6 Value.none else pl)).toArray } he₁;refine wpAny_setField he₂ hd hsz ?_;have hTe:h₁.objs.size≠e:=Nat.ne_of_gt (Heap.lt_size he₁);have hd₃:=Obj.data_mapFields hd (·.setIfInBounds 1 (Value.ref h₁.objs.size));have he₃:=Heap.get?_update_self (Obj.mapFields (·.setIfInBounds 1 (Value.ref h₁.objs.size))) he₂ (Obj.isFreed_of_fields hd₃);have hT₃:=(Heap.get?_update_other (h₁.push { cls:=.type "traceback",dict:=none,data:=.fields ([head,.ref L,.none,rawInt L,.none]++(if pl.isEmpty then replicate 6 Value.none else pl)).toArray })
  (Obj.mapFields (·.setIfInBounds 1 (Value.ref h₁.objs.size))) (Ne.symm hTe)).trans (Heap.get?_push_size h₁ rfl)
 unfold setFlight;refine wpAny_bind (wpAny_field he₃ hd₃ (x:=.ref h₁.objs.size) (by simp[hsz]) ?_);rw[if_pos (show (Value.ref h₁.objs.size != Value.none)=true from by simp)];have keep:∀b o,b≠e->h₁.get? b=some o->
   (((h₁.push { cls:=.type "traceback",dict:=none,data:=.fields ([head,.ref L,.none,rawInt L,.none]++(if pl.isEmpty then replicate 6 Value.none else pl)).toArray }).update e (Obj.mapFields (·.setIfInBounds 1 (Value.ref h₁.objs.size)))).update h₁.objs.size
    (Obj.mapFields (·.setIfInBounds 3 ((none:Option Addr).elim Value.none λf=>rawInt f)))).get? b=some o:=λb o hbe hb=>by
  have hbT:h₁.objs.size≠b:=Nat.ne_of_gt (Heap.lt_size hb);rw[Heap.get?_update_other _ _ hbT,Heap.get?_update_other _ _ (Ne.symm hbe)];exact Heap.get?_push_of_some _ hb
 refine wpAny_setField hT₃ rfl (by simp only[size_toArray,xj,length_cons,length_nil]<;>lia) (h _ h₁.objs.size _ _ (Nat.le_of_eq hs₁.1.symm) ?_ ?_ ?_
  (Heap.get?_update_self _ hT₃ (Obj.isFreed_of_fields (Obj.data_mapFields rfl _))) (Obj.data_mapFields rfl _) ?_ hTe)
 .exact λb o hb hbe q=>keep b o hbe ((hs₁.2.1 b hb).trans q)
 .intro b o hb q;obtain⟨sl,e1⟩:=hs₁.2.2 b o q;exists sl,keep b _ (λz=>hene (z ▸ hb)) e1
 .rw[Heap.get?_update_other _ _ hTe];exact he₃
 .first | (simp;done) | (rcases hpl with rfl | ⟨_,_,_,_,_,_,_,rfl⟩<;>simp)
theorem Ti (hfr:A.frames=some (env :: outer))(hl:s.heap.FunFrames base (env :: outer))(hf:env.frame=some L)(F:Fl h0 H s.heap e C d)(hnew:∀b,s.heap.objs.size<=b->h0.get? b=none/\H b=none)(h:∀(h':Heap) (ch:List Addr),(∀b∈ch,h0.get? b=none/\H b=none/\∃o vs,s.heap.get? b=some o/\o.data=.fields vs)->(∀b o,b∉frs (env :: outer)->b∉ch->s.heap.get? b=some o->h'.get? b=some o)->
   (∀b o,b∈frs (env :: outer)->s.heap.get? b=some o->∃sl,h'.get? b=some { o with slots:=sl })->Fl h0 H h' e C d->Q .unit { s with heap:=h' }):
  wpAny M A (noteFrame (.ref e) env) (λ_ s'=>wpAny M A (setFlight (.ref e) none) Q E s') E s:=by
 obtain⟨n,f,oe,vs,v,e1,e2,e3,e4,e5,t⟩:=F;have hsz:1 < vs.size:=(Array.getElem?_eq_some_iff.mp e5).1;have fin:∀{h':Heap} {T:Addr} {oT:Obj} {ts:Array Value},s.heap.objs.size<=T->h'.get? e=some (oe.mapFields (·.setIfInBounds 1 (.ref T)))->h'.get? T=some oT->oT.data=.fields ts->ts[3]?=some .none->T≠e->Fl h0 H h' e C d:=by
  intro h' T oT ts z he hT hd h3 hTe;exists n,f,_,_,.ref T,he,?_,?_,Obj.data_mapFields e4 _,by simp[hsz],.inr ⟨T,oT,ts,rfl,hTe,(hnew T z).1,(hnew T z).2,hT,hd,h3⟩
  .rw[Obj.cls_mapFields];exact e2
  .rw[wX];exact e3
 rcases t with rfl | ⟨T,oT,ts,rfl,t2,t3,t4,t5,t6,t7⟩
 .unfold noteFrame;simp only[hf];refine wpAny_bind (wpAny_field e1 e4 e5 ?_);rw[if_neg ∅];refine Aa hfr hl hf e1 e4 hsz λh' T oT ts z k1 k2 he hT hd h3 hTe=>?_;refine h h' [e] (λb hb=>?_) (λb o h1 h2 q=>k1 b o h1 (λw=>h2 (by simp[w])) q) k2 (fin z he hT hd h3 hTe);have hb:b=e:=by simpa using hb
  subst hb;exists n,f,_,_,e1,e4
 .unfold noteFrame;simp only[hf];refine wpAny_bind (wpAny_field e1 e4 e5 ?_);rw[if_pos (show (Value.ref T != Value.none)=true from by simp)];refine wpAny_bind (wpAny_field t5 t6 t7 ?_);rw[if_neg (show ¬((Value.none == rawInt L)=true) from by simp[rawInt])];refine wpAny_bind (wpAny_setField t5 t6 (Array.getElem?_eq_some_iff.mp t7).1 ?_);have other:∀b,b≠T->(s.heap.update T (Obj.mapFields (·.setIfInBounds 3 Value.none))).get? b=s.heap.get? b:=λb hb=>Heap.get?_update_other _ _ (Ne.symm hb);have noRecord:∀b o,s.heap.get? b=some o->(∀vs,o.data≠.fields vs)->b≠T:=λb o hb hnf q=>by
   rw[q,t5] at hb;injection hb with hb;subst hb;exact hnf ts t6
  have nofr:∀b,b∈frs (env :: outer)->b≠T:=λb hb=>by
   obtain⟨_,o,ho,hnf⟩:=hl.mem hb;exact noRecord b o ho hnf
  refine Aa (s:={ s with heap:=s.heap.update T (Obj.mapFields (·.setIfInBounds 3 Value.none)) }) (base:=base) hfr (hl.of_keeps λb o hb hnf=>⟨o,(other b (noRecord b o hb hnf)).trans hb,rfl⟩) hf ((other e (Ne.symm t2)).trans e1) e4 hsz
   λh' T' oT' ts' z k1 k2 he hT hd h3 hTe=>?_
  have z':s.heap.objs.size<=T':=by
   have:=Heap.size_after_update s.heap T (Obj.mapFields (·.setIfInBounds 3 Value.none));exact Nat.le_trans (Nat.le_of_eq this.symm) z
  refine h h' [e,T] (λb hb=>?_) (λb o h1 h2 q=>?_) (λb o hb q=>?_) (fin z' he hT hd h3 hTe)
  .rcases mem_cons.mp hb with hb | hb
   .subst hb;exists n,f,_,_,e1,e4
   .have hb:b=T:=by simpa using hb
    subst hb;exists t3,t4,_,_,t5,t6
  .exact k1 b o h1 (λw=>h2 (by simp[w])) ((other b λw=>h2 (by simp[w])).trans q)
  .exact k2 b o hb ((other b (nofr b hb)).trans q)
end
section
variable {X:Cx} {pins:List (Addr × Obj)} {σ:List (Option V)} {H H':Hp} {s:Shared} {h':Heap}
theorem Inv.stepN {ch:List Addr}(I:Inv X pins σ H s)(hch:∀b∈ch,X.s₀.heap.get? b=none/\b≠X.env.locals/\(∀x c,X.env.cells.lookup x=some c->c≠b)/\∀p∈X.pn++pins,p.1≠b)(keep:∀b o,b≠X.env.locals->b∉X.fs->b∉ch->s.heap.get? b=some o->H b=none->h'.get? b=some o)(slot:∀b o,b≠X.env.locals->b∈X.fs->b∉ch->s.heap.get? b=some o->H b=none->∃sl,h'.get? b=some { o with slots:=sl })(there:∀b o,b∉ch->s.heap.get? b=some o->∃o',h'.get? b=some o')(ns:∀m,s.heap.Ns X.env.locals m->h'.Ns X.env.locals m)(hok:HOk X.prog X.w H h')(hg:AllBare g'):
  Inv X pins σ H { s with heap:=h',gens:=g',drawn:=d',toks:=t' }:=by
 have neL:∀b o,X.s₀.heap.get? b=some o->b≠X.env.locals:=λb o e=>Nat.ne_of_lt (Nat.lt_of_lt_of_le (Heap.lt_size e) I.ok.above);have neC:∀b o,X.s₀.heap.get? b=some o->b∉ch:=λb o e hb=>by rw[(hch b hb).1] at e;cases e
 have cellK:∀x c,X.env.cells.lookup x=some c->∀v,s.heap.IsCell c v->h'.IsCell c v:=λx c e v ⟨o,ho,hd⟩=>by
  have nch:c∉ch:=λz=>(hch c z).2.2.1 x c e rfl
  by_cases hc:c∈X.fs
  .obtain⟨sl,q⟩:=slot c o (I.cne x c e) hc nch ho (I.freeC x c e);exists _,q,hd
  .exists o,keep c o (I.cne x c e) hc nch ho (I.freeC x c e),hd
 exists I.ok,I.os,hg,⟨λb o e n hb hx=>?_,λb o e n hb hx=>?_,λb o e n hx=>?_,λb o e hx=>?_,λb xs e=>I.base.tups b xs e,λb o xs e=>I.base.frzs b o xs e,λb ps e=>I.base.tbls b ps e⟩,?_,λx c e=>?_,I.free,I.freeC,λp hp=>?_,hok,I.len
 .exact keep b o (neL b o e) hb (neC b o e) (I.base.keep b o e n hb hx) (I.base.free b o e n hx)
 .obtain⟨sl,e1⟩:=I.base.slot b o e n hb hx;obtain⟨sl',e2⟩:=slot b _ (neL b o e) hb (neC b o e) e1 (I.base.free b o e n hx);exists sl',e2
 .exact I.base.free b o e n hx
 .obtain⟨o',e1⟩:=I.base.there b o e hx;exact there b o' (neC b o e) e1
 .obtain⟨m,hn,hl⟩:=I.loc;exists m,ns m hn,λi x v e1 e2 e3=>?_;obtain⟨u,r,l⟩:=hl i x v e1 e2 e3;exists u,r,?_;rcases l with l | ⟨k,c,e,z⟩
  .exact .inl l
  .exact .inr ⟨k,c,e,cellK x c e _ z⟩
 .obtain⟨v,z⟩:=I.cell x c e;exists v,cellK x c e v z
 .obtain⟨e,n,ne,nf,d⟩:=I.pin p hp;have nch:p.1∉ch:=λz=>(hch p.1 z).2.2.2 p hp rfl;exists keep p.1 p.2 ne nf nch e n,n,ne,nf,d
structure Frm (X:Cx):Prop where
 ex:X.ex=[]
 st:X.stack=X.env :: X.outer
 fr:X.env.frame=some X.env.locals
def uV (X:Cx)(pins:List (Addr × Obj))(σ:List (Option V))(H:Hp)(s:Shared)(a:Addr)(C:Value)(d:Option Addr):Prop:=
 Inv X pins σ H s/\∃h0:Heap,(∀p∈X.pn++pins,h0.get? p.1≠none)/\(∀b o,X.s₀.heap.get? b=some o->∃o',h0.get? b=some o')/\(∀b o,h0.get? b=some o->∃o',s.heap.get? b=some o')/\Fl h0 H s.heap a C d
theorem tF {h1 h2:Heap}(k:∀b o,h1.get? b=some o->∃o',h2.get? b=some o')(b:Addr)(e:h2.get? b=none):h1.get? b=none:=by
 cases q:h1.get? b with
 |none=>rfl
 |some o=>obtain⟨o',z⟩:=k b o q;rw[e] at z;cases z
theorem Mo {h:Heap}(e:h.objs.size<=b):h.get? b=none:=Heap.get?_none_of_le e
theorem tQ {h:Heap}(e:h.get? b=some o)(hd:o.data=.fields vs)(e':h.get? c=some o')(hd':∀vs,o'.data≠.fields vs):b≠c:=by
 intro z;subst z;rw[e] at e';cases e';exact hd' vs hd
theorem Cb {a:Addr}{C:Value}{d:Option Addr}{h0:Heap}(I:Inv X pins σ H s)(hp:∀p∈X.pn++pins,h0.get? p.1≠none)(hs:∀b o,X.s₀.heap.get? b=some o->∃o',h0.get? b=some o'){b:Addr}(hb:h0.get? b=none/\H b=none/\∃o vs,s.heap.get? b=some o/\o.data=.fields vs) :
  X.s₀.heap.get? b=none/\b≠X.env.locals/\(∀x c,X.env.cells.lookup x=some c->c≠b)/\∀p∈X.pn++pins,p.1≠b:=by
 obtain⟨h1,h2,o,vs,h3,h4⟩:=hb;exists tF hs b h1,?_,λx c e=>?_,λp hq z=>hp p hq (by rw[z];exact h1)
 .obtain⟨m,⟨o',es,ep,ho',hd',_⟩,_⟩:=I.loc;exact tQ h3 h4 ho' λvs z=>by rw[hd'] at z;cases z
 .obtain⟨v,o',ho',hd'⟩:=I.cell x c e;exact Ne.symm (tQ h3 h4 ho' λvs z=>by rw[hd'] at z;cases z)
theorem Lh (hA:A'.frames=some X.stack)(fm:Frm X)(L:uV X pins σ H s a C d)(h:∀s',uV X pins σ H s' a C d->Q .unit s'):
  wpAny (model X.prog X.w) A' (noteFrame (.ref a) X.env) (λ_ s2=>wpAny (model X.prog X.w) A' (setFlight (.ref a) none) Q E s2) E s:=by
 obtain⟨I,h0,hp,hs,ht,F⟩:=L;have hstk:=I.stack;have hfree:=I.stkFree;rw[fm.st] at hA hstk hfree;have hfrs:frs (X.env :: X.outer)=X.env.locals :: X.fs:=by unfold frs;rw[filterMap_cons,fm.fr];rfl
 refine Ti (base:=X.base) hA hstk fm.fr F (λb hb=>⟨tF ht b (Mo hb),I.hok.fresh hb⟩) λh' ch c1 c2 c3 F'=>?_;have tr:∀c u,H c=some u->∀v,s.heap.get? c=some v->h'.get? c=some v:=λc u e v q=>
  c2 c v (λz=>by rw[hfree c z] at e;cases e) (λz=>by rw[(c1 c z).2.1] at e;cases e) q
 have th:∀b o,b∉ch->s.heap.get? b=some o->∃o',h'.get? b=some o':=λb o hb q=>by
  by_cases hf:b∈frs (X.env :: X.outer)
  .obtain⟨sl,e⟩:=c3 b o hf q;exists _,e
  .exists o,c2 b o hf hb q
 have J:Inv X pins σ H { s with heap:=h',gens:=s.gens,drawn:=s.drawn,toks:=s.toks }:=by
  refine I.stepN (ch:=ch) (λb hb=>Cb (a:=a) (C:=C) (d:=d) I hp hs (c1 b hb)) (λb o h1 h2 h3 e _=>c2 b o (by rw[hfrs];intro z;rcases mem_cons.mp z with z | z;exact h1 z;exact h2 z) h3 e)
   (λb o _ h2 _ e _=>c3 b o (by rw[hfrs];exact mem_cons_of_mem _ h2) e) th (λm hm=>?_) (λb u e=>?_) I.bare
  .obtain⟨o,es,ep,ho,r⟩:=hm;obtain⟨sl,e⟩:=c3 _ o (by rw[hfrs];exact mem_cons_self) ho;exists _,es,ep,e,r
  .refine(I.hok b u e).stay (λc v hc q=>?_) (λ_ q=>q) λ_ _ q=>q;rcases hc with rfl | hc
   .exact tr c u e v q
   .exact tr c _ hc v q
 refine h _ ⟨J,h0,hp,hs,λb o e=>?_,F'⟩;obtain⟨o',e'⟩:=ht b o e;exact th b o' (λz=>by rw[(c1 b z).1] at e;cases e) e'
theorem Xp (L:uV X pins σ H s a C d)(h:∀s',uV X pins σ H s' a C d->Q .unit s'):wpAny (model X.prog X.w) A' (setFlight (.ref a) none) Q E s:=by
 have L':=L;obtain⟨I,h0,hp,hs,ht,F⟩:=L';obtain⟨n,f,oe,vs,v,e1,e2,e3,e4,e5,t⟩:=F;unfold setFlight;refine wpAny_bind (wpAny_field e1 e4 e5 ?_);rcases t with rfl | ⟨T,oT,ts,rfl,t2,t3,t4,t5,t6,t7⟩
 .rw[if_neg ∅];exact wpAny_pure (h s L)
 .rw[if_pos (show (Value.ref T != Value.none)=true from by simp)];have hsz3:3 < ts.size:=(Array.getElem?_eq_some_iff.mp t7).1;have other:∀b,b≠T->(s.heap.update T (Obj.mapFields (·.setIfInBounds 3 ((none:Option Addr).elim Value.none λf=>rawInt f)))).get? b=s.heap.get? b:=λb hb=>Heap.get?_update_other _ _ (Ne.symm hb);have hT':=Heap.get?_update_self (Obj.mapFields (·.setIfInBounds 3 ((none:Option Addr).elim Value.none λf=>rawInt f))) t5 (Obj.isFreed_of_fields (Obj.data_mapFields t6 _));refine wpAny_setField t5 t6 hsz3 ?_;have c1:∀b∈[T],h0.get? b=none/\H b=none/\∃o vs,s.heap.get? b=some o/\o.data=.fields vs:=λb hb=>by
   have hb:b=T:=by simpa using hb
   subst hb;exists t3,t4,_,_,t5,t6
  have nT:∀b,b∉[T]->b≠T:=λb hb z=>hb (by simp[z]);have J:Inv X pins σ H { s with heap:=(s.heap.update T (Obj.mapFields (·.setIfInBounds 3 ((none:Option Addr).elim Value.none λf=>rawInt f)))),gens:=s.gens,drawn:=s.drawn,toks:=s.toks }:=by
   refine I.stepN (ch:=[T]) (λb hb=>Cb (a:=a) (C:=C) (d:=d) I hp hs (c1 b hb)) (λb o _ _ h3 e _=>(other b (nT b h3)).trans e) (λb o _ _ h3 e _=>⟨o.slots,(other b (nT b h3)).trans e⟩)
    (λb o h3 e=>⟨o,(other b (nT b h3)).trans e⟩) (λm hm=>?_) (λb u e=>?_) I.bare
   .obtain⟨o,es,ep,ho,hd,r⟩:=hm;exists o,es,ep,(other _ (Ne.symm (tQ t5 t6 ho λvs z=>by rw[hd] at z;cases z))).trans ho,hd,r
   .refine(I.hok b u e).stay (λc v hc q=>(other c ?_).trans q) (λ_ q=>q) λ_ _ q=>q;rintro rfl;rcases hc with rfl | hc
    .rw[t4] at e;cases e
    .rw[t4] at hc;cases hc
  refine h _ ⟨J,h0,hp,hs,λb o e=>?_,⟨n,f,oe,vs,.ref T,(other a (Ne.symm t2)).trans e1,e2,e3,e4,e5,.inr ⟨T,_,_,rfl,t2,t3,t4,hT',Obj.data_mapFields t6 _,by simp[hsz3]⟩⟩⟩;obtain⟨o',e'⟩:=ht b o e;exists o',(other b (λz=>by rw[z,t3] at e;cases e)).trans e'
end
def CX1 (P:Program)(w:World):CXT:=λouter H s E e s'=>∃a C d H',e=.ref a/\s'.os=s.os/\AllBare s'.gens/\Un (frs outer) [] H H' s.heap s'.heap/\HOk P w H' s'.heap/\Fl s.heap H' s'.heap a C d/\E C d H'
def qb1 (X:Cx)(E:XK):Prop:=∀(pins:List (Addr × Obj)) (σ:St) (H:Hp) (s:Shared) (a:Addr) (C:Value) (d:Option Addr),uV X pins σ H s a C d->E C d H->X.xe (.ref a) s
section
variable {X:Cx} {pins:List (Addr × Obj)} {σ:List (Option V)} {H:Hp} {s s':Shared} {E:XK} {e:Value}
theorem rE (fm:Frm X)(I:Inv X pins σ H s)(hcx:CX1 X.prog X.w X.stack H s E e s'):∃a C d H',e=.ref a/\uV X pins σ H' s' a C d/\E C d H':=by
 obtain⟨a,C,d,H',rfl,os,bare,un,hok,F,q⟩:=hcx;exists a,C,d,H',rfl,⟨I.call' (ch:=[]) os un hok bare (λb z=>absurd z ⋯),s.heap,λp hp z=>?_,λb o e=>I.base.there b o e (by rw[fm.ex];simp),λb o e=>un.there b o e ⋯,F⟩,q;rw[(I.pin p hp).1] at z;cases z
theorem Ny (fm:Frm X)(xo:qb1 X E):kX (CX1 X.prog X.w) X E:=λpins σ H s e s' I hcx=>by
 obtain⟨a,C,d,H',rfl,L,q⟩:=rE fm I hcx;exact xo pins σ H' s' a C d L q
end
theorem rS {K:Frag}:
  Frm (zD CX P w K mg base N qual scope f cd A outer s H E):=⟨rfl,rfl,rfl⟩
theorem Du {K:Frag}:
  qb1 (zD (CX1 P w) P w K mg base N qual scope f cd A outer s H E) E:=by
 intro pins σ H' s' a C d L q;show wpAny (model P w) (A.deeper (envOfC qual scope s.heap.objs.size f cd)) (leaving (envOfC qual scope s.heap.objs.size f cd) (.ref a)) (λ_ s''=>CX1 P w outer H s E (.ref a) s'') (λe' s''=>CX1 P w outer H s E e' s'') s';unfold leaving;refine wpAny_bind (Lh (X:=zD (CX1 P w) P w K mg base N qual scope f cd A outer s H E) L.1.ok.frames rS L λs'' L''=>?_);obtain⟨J,h0,hp,hs0,hth,F⟩:=L'';exists a,C,d,H',rfl,J.os,J.bare,J.base,J.hok,F.older λb z=>tF hs0 b z,q
abbrev yP:List Value:=[.type "ValueError",.type "Exception",.type "BaseException",.type "object"]
def qn2 (K:Frag)(C:Addr):Prop:=W.excIn K C yP "ValueError.__new__"=true
abbrev TEX:=St->Hp->VK->XK->Prop
abbrev TSX:=kE->(St->XK)->St->Hp->Prop
def XP (X:Cx)(pins:List (Addr × Obj))(E:St->XK)(e:Value)(s':Shared):Prop:=∃a C d σ' H',e=.ref a/\uV X pins σ' H' s' a C d/\E σ' C d H'
def PX (X:Cx)(e:Expr)(t:TEX):Prop:=
 ∀(pins:List (Addr × Obj)) (s:Shared) (σ:St) (H:Hp) (Q:VK) (E:XK),Inv X pins σ H s->t σ H Q E->zzW X (eval e X.env) (EP X pins σ Q) (XP X pins λσ' C d H'=>σ'=σ/\E C d H') s
def PSX (X:Cx)(st:Stmt)(t:TSX):Prop:=
 ∀(pins:List (Addr × Obj)) (s:Shared) (σ:St) (H:Hp) (D:kE) (E:St->XK),Inv X pins σ H s->t D E σ H->zzW X (exec st X.env) (SP X pins D) (XP X pins E) s
def qr2 (X:Cx)(st:List Stmt)(t:TSX):Prop:=
 ∀(pins:List (Addr × Obj)) (s:Shared) (σ:St) (H:Hp) (D:kE) (E:St->XK),Inv X pins σ H s->t D E σ H->zzW X (execs st X.env) (SP X pins D) (XP X pins E) s
theorem XP.at (h:XP X pins (λσ' C d H'=>σ'=σ/\E σ C d H') e s'):XP X pins E e s':=by
 obtain⟨a,C,d,σ',H',rfl,L,rfl,q⟩:=h;exists a,C,d,σ',H',rfl,L,q
section
variable {X:Cx} {k:Nat} {f C:Addr} {fd:FuncData} {ps:List Str} {sp:Sp} {dvs:wk} {ds:List Value} {x m:Str} {p pos apos:Pos} {e o:Expr} {es:List Expr} {ta:TE} {t:TA}
def qt6 (i:Nat)(te:TEX):TSX:=λD E σ H=>te σ H (λv H1=>D.nx (σ.set i (some v)) H1) (E σ)
theorem Yb (hN:X.N.Nodup)(hi:X.N[i]?=some x)(hx:Loc X.env.scope x)(he:PX X e te)(hs:swapsWith e (some (.Name x pos')) pos.line X.env=pure false:=by rfl)(hf:X.fn x=true\/X.env.scope.names.lookup x=some .local:=by first | exact .inl rfl | exact .inr rfl | assumption):
  PSX X (.Assign [.Name x pos'] e pos) (qt6 i te):=by
 intro pins s σ H D E I h;refine wpAny_Assign_Name (wpAny_mono (he pins s σ H _ _ I h) (λv s1 h1=>?_) λ_ _ z=>XP.at z) hs;obtain⟨y,H1,I1,r1,q1⟩:=h1;exact jY I1 hN hi hx r1 (λs2 I2=>⟨_,H1,I2,q1⟩) hf
theorem Sh {st:Stmt}{t:TSX}(h1:PSX X st t):qr2 X [st] t:=by
 intro pins s σ H D E I h;refine wpAny_execs_cons (wpAny_mono (h1 pins s σ H D E I h) (λf s1 q=>?_) λ_ _ z=>z)
 cases f with
 |next=>exact wpAny_execs_nil q
 |ret v=>exact q
 |brk=>exact q
 |cont=>exact q
end
abbrev Cx.sup (X:Cx)(a:Addr):Cx:={ X with A:=X.A.mark (some (.ref a)),calm:=false,xe:=λ_ _=>False }
section
variable {X:Cx} {pins:List (Addr × Obj)} {σ:List (Option V)} {H:Hp} {s:Shared} {a:Addr}
theorem Cx.Ok.sup (ok:X.Ok)(a:Addr):(X.sup a).Ok:=
 ⟨ok.mod,ok.kind,ok.glob,ok.blt,ok.above,ok.inj,ok.has,ok.cab,λz=>Bool.noConfusion z,ok.frames,ok.stk,ok.exf,ok.bs,ok.bsz,ok.noex,ok.exfs,ok.funs,ok.frf⟩
theorem Inv.sup (I:Inv X pins σ H s)(a:Addr):Inv (X.sup a) pins σ H s:=⟨I.ok.sup a,I.os,I.bare,I.base,I.loc,I.cell,I.free,I.freeC,I.pin,I.hok,I.len⟩
theorem Inv.unsup (ok:X.Ok)(I:Inv (X.sup a) pins σ H s):Inv X pins σ H s:=⟨ok,I.os,I.bare,I.base,I.loc,I.cell,I.free,I.freeC,I.pin,I.hok,I.len⟩
def sV (a:Addr)(C:Value)(d:Option Addr):HO:=.ext λh=>∃o vs,h.get? a=some o/\o.cls=C/\o.dict=d/\o.data=.fields vs
theorem uV.track (L:uV X pins σ H s a C d)(fm:Frm X):Inv X pins σ (upd H a (sV a C d)) s:=by
 obtain⟨I,h0,hp,hs,ht,F⟩:=L;obtain⟨n,f,oe,vs,v,e1,e2,e3,e4,e5,t⟩:=F;obtain⟨c1,c2,c3,c4⟩:=Cb (a:=a) (C:=C) (d:=d) I hp hs (b:=a) ⟨n,f,_,_,e1,e4⟩;have tr:∀b u,H b=some u->upd H a (sV a C d) b=some u:=λb u e=>by rw[aV (bL e f)];exact e
 exists I.ok,I.os,I.bare,⟨I.base.keep,I.base.slot,λb o e n' hx=>?_,I.base.there,λb xs e=>tr _ _ (I.base.tups b xs e),λb o u e=>tr _ _ (I.base.frzs b o u e),λb ps e=>?_⟩,I.loc,I.cell,?_,λx c e=>?_,λp hp'=>?_,λb o e=>?_,I.len
 .have:b≠a:=λz=>by rw[z,c1] at e;cases e
  rw[aV this];exact I.base.free b o e n' hx
 .obtain⟨more,z⟩:=I.base.tbls b ps e;exists more,tr _ _ z
 .rw[aV (Ne.symm c2)];exact I.free
 .rw[aV (c3 x c e)];exact I.freeC x c e
 .obtain⟨z1,z2,z3⟩:=I.pin p hp';exists z1,by rw[aV (c4 p hp')];exact z2,z3
 .by_cases hb:b=a
  .subst hb;rw[aB] at e;cases e;exists ⟨oe,vs,e1,e2,e3,e4⟩,⟨oe,e1⟩,λh1 h2 p k=>?_;obtain⟨o,vs',z1,z2⟩:=p;exists o,vs',k o z1,z2
  .rw[aV hb] at e;exact(I.hok b o e).stay (λ_ _ _ q=>q) (λc q=>tr _ _ q) λc xs q=>tr _ _ q
theorem pG (I:Inv X pins σ H s)(hN:X.N.Nodup)(hj:X.N[j]?=some n)(hl:X.env.scope.names.lookup n=some .local)(h:∀s',Inv X pins (σ.set j none) H s'->Q .unit s'):wpAny (model X.prog X.w) A' (do bindName X.env n .none;unbindBehindTheSuite X.env n pos) Q E s:=by
 obtain⟨m,hn,hlk⟩:=id I.loc;have hcls:(X.env.scope.kind == .class || (X.env.scope.kind == .module && X.env.locals != X.env.globals))=false:=by rw[I.ok.kind];rfl
 have hiσ:j < σ.length:=by rw[I.len];exact(wq.mp hj).1
 have cne:=I.cne;refine wpAny_nameGoes_keeps hl hn hcls λh' v hn' hs=>?_;obtain⟨oL,_,_,hoL,_⟩:=id hn;refine h _ ⟨I.ok,I.os,I.bare,⟨λb o e n hb hx=>?_,λb o e n hb hx=>?_,I.base.free,λb o e hx=>?_,I.base.tups,I.base.frzs,I.base.tbls⟩,⟨_,hn',λi y v' e1 e2 e3=>?_⟩,λy c e=>?_,I.free,I.freeC,λp hp=>?_,λb ob e=>?_,by simpa using I.len⟩
 .exact(hs.2 b (Nat.ne_of_lt (Nat.lt_of_lt_of_le (Heap.lt_size e) I.ok.above))).trans (I.base.keep b o e n hb hx)
 .obtain⟨sl,e1⟩:=I.base.slot b o e n hb hx;exists sl,(hs.2 b (Nat.ne_of_lt (Nat.lt_of_lt_of_le (Heap.lt_size e) I.ok.above))).trans e1
 .obtain⟨o',e1⟩:=I.base.there b o e hx;exists o',(hs.2 b (Nat.ne_of_lt (Nat.lt_of_lt_of_le (Heap.lt_size e) I.ok.above))).trans e1
 .by_cases hij:i=j
  .subst hij;rw[getElem?_set_self hiσ] at e2
   cases e2
  .rw[getElem?_set_ne (Ne.symm hij)] at e2;obtain⟨u',r',q⟩:=hlk i y v' e1 e2 e3;exists u',r',?_;rcases q with ⟨k,e⟩ | ⟨k,c,e,z⟩
   .refine .inl ⟨k,?_⟩;have:y≠n:=λe=>hij (wM hN e1 (e ▸ hj));simp[this,e]
   .exact .inr ⟨k,c,e,z.sameBut hs (cne y c e)⟩
 .obtain⟨w',z⟩:=I.cell y c e;exists w',z.sameBut hs (cne y c e)
 .obtain⟨e,n,ne,nf,d⟩:=I.pin p hp;exists (hs.2 p.1 ne).trans e,n,ne,nf,d
 .refine(I.hok b ob e).stay (λc w' hc q=>(hs.2 c ?_).trans q) (λ_ q=>q) λ_ _ q=>q;rintro rfl;rcases hc with rfl | hc
  .rw[I.free] at e;cases e
  .rw[I.free] at hc;cases hc
end
abbrev TH:=Addr->Value->Option Addr->kE->St->Hp->Prop
def PH (X:Cx)(hs:List ExceptHandler)(t:TH):Prop:=
 ∀(pins:List (Addr × Obj)) (s:Shared) (σ:St) (H:Hp) (D:kE) (a:Addr) (C:Value) (d:Option Addr),uV X pins σ H s a C d->t a C d D σ H->zzW X (handleBy (.ref a) X.env hs) (SP X pins D) X.xe s
section
variable {X:Cx} {pos np:Pos} {T:Str} {tc:Value} {b₀:Stmt} {suite:List Stmt} {rest:List ExceptHandler} {ts:TS} {tr:TH}
def qb8:TH:=λ_ _ _ _ _ _=>False
theorem Ts:PH X hs qb8:=λ_ _ _ _ _ _ _ _ _ h=>h.elim
def Zi (X:Cx)(T:Str)(c:Value):Prop:=X.mg T=some c\/(X.mg T=none/\bootBuiltins T=some c/\T≠"__name__")
theorem qi7 (I:Inv X pins σ H s)(hg:Gl X T)(hc:Zi X T tc)(h:Q tc s)(hd:(T == ("__debug__":Str))=false:=by decide):zzW X (eval (.Name T np) X.env) Q E s:=by
 rcases hc with e | ⟨e,hv,hn⟩
 .exact kP I hg e h hd
 .exact kZ I hg e hv h hn hd
theorem uV.ty (L:uV X pins σ H s a C d):W.Looks M s.heap (typeOf (.ref a)) C:=by
 obtain⟨I,h0,hp,hs,ht,n,f,oe,vs,v,e1,e2,_⟩:=L;subst e2;exact(W.Looks.ld e1).andThen .now
def Vn (K:Frag)(tc:Value)(j:Nat)(ts:TS)(tr:TH):TH:=λa C d D σ H=>∃b,W.exmOne K C tc=some b/\
 if b=true then ts { nx:=λσ' H'=>D.nx (σ'.set j none) H',rt:=D.rt,bk:=λσ' H'=>D.bk (σ'.set j none) H',ct:=λσ' H'=>D.ct (σ'.set j none) H' } (σ.set j (some (.ref a))) (upd H a (sV a C d)) else tr a C d D σ H
theorem Zw (fm:Frm X)(hN:X.N.Nodup)(hj:X.N[j]?=some n)(hl:X.env.scope.names.lookup n=some .local)(hg:Gl X T)(hc:Zi X T tc)(hs:∀a,PSs (X.sup a) (b₀ :: suite) ts)(hr:PH X rest tr)(hd:(T == ("__debug__":Str))=false:=by decide):
  PH X (.ExceptHandler (some (.Name T np)) (some n) (b₀ :: suite) pos :: rest) (Vn X.K tc j ts tr):=by
 intro pins s σ H D a C d L h;obtain⟨b,hb,h⟩:=h;have I:=L.1;refine wpAny_handleBy_cons (codeAny_handlers_test (qi7 (X:=X.sup a) (I.sup a) hg hc ((W.exm_one I.kIn L.ty hb).here ?_) hd)) (by intro q;cases q)
 cases b with
 |false=>
  rw[if_neg Bool.false_ne_true] at h;exact hr pins s σ H D a C d L h
 |true=>
  rw[if_pos rfl] at h;refine codeAny_handlers_suite_as (Xp (X:=X) L λs' L'=>?_);refine jY (X:=X.sup a) ((L'.track fm).sup a) hN hj (.inl hl) (v:=.ref a) rfl (λs2 I2=>?_) (.inr hl);refine wpAny_mono (hs a pins s2 _ _ _ I2 h) (λf s3 q=>?_) λ_ _ z=>False.elim z
  cases f with
  |next=>
   obtain⟨σ',H',J,q⟩:=q;exact pG (J.unsup I.ok) hN hj hl λs4 J4=>⟨_,H',J4,q⟩
  |brk=>
   obtain⟨σ',H',J,q⟩:=q;exact pG (J.unsup I.ok) hN hj hl λs4 J4=>⟨_,H',J4,q⟩
  |cont=>
   obtain⟨σ',H',J,q⟩:=q;exact pG (J.unsup I.ok) hN hj hl λs4 J4=>⟨_,H',J4,q⟩
  |ret u=>
   obtain⟨v,σ',H',J,r,q⟩:=q;exact pG (J.unsup I.ok) hN hj hl λs4 J4=>⟨v,_,H',J4,r,q⟩
def qv4 (tb:TSX)(to:TS)(th:TH):TS:=λD σ H=>tb { D with nx:=to D } (λσ' C d H'=>∀a,H' a=none->th a C d D σ' H') σ H
theorem qj4 (fm:Frm X)(hb:qr2 X body tb)(ho:PSs X orelse to)(hh:PH X (h₀ :: hs) th):PS X (.Try body (h₀ :: hs) orelse [] pos) (qv4 tb to th):=by
 intro pins s σ H D I h;refine wpAny_Try_except (wpAny_mono (hb pins s σ H _ _ I h) (λf s1 q=>?_) λe s1 q=>?_)
 .cases f with
  |next=>
   obtain⟨σ',H',I',q⟩:=q;exact ho pins s1 σ' H' D I' q
  |ret v=>exact q
  |brk=>exact q
  |cont=>exact q
 .obtain⟨a,C,d,σ',H',rfl,L,q⟩:=q;refine Lh I.ok.frames fm L λs2 L2=>?_;exact hh pins s2 σ' H' D a C d L2 (q a L2.2.choose_spec.2.2.2.free)
end
structure Qt (K:Frag) (C:Addr):Prop where
 ga:W.findIn K (.ref C) "__getattribute__"=some (some (.builtin "BaseException.__getattribute__"))
 gn:W.findIn K (.ref C) "__getattr__"=some none
 bx:W.mroIn K C (.type "BaseException")=some true
 ob:W.mroIn K C (.type "object")=some true
 ca:W.findIn K (.ref C) "__class__"=some (some (.builtin "object.__class__"))
 hn:W.specialIn K (.builtin "object.__class__") "__get__"=some (some (.builtin "getset_descriptor.__get__"))
 tk:W.takesIn K (.builtin "object.__class__")=some true
 cl:(W.clsIn K C).isSome=true
section
variable {prog:Program} {w:World} {A:Around} {E:Value->Shared->Prop} {s:Shared} {K:Frag} {x D:Addr} {ox:Obj} {odo:Option Obj} {name:Str}
theorem Nd (k:Qt K D)(X:K.In s.heap)(I:W.InstAt s.heap x ox D odo)(h:Q .unit s):
  wpAny (model prog w) A (checkBuiltinCall "BaseException.__getattribute__" ⟨[.ref x,nameV],[]⟩) Q E s:=by
 have hk:builtinKind "BaseException.__getattribute__"=some .slot:=by decide +kernel
 have hsplit:splitId "BaseException.__getattribute__"=some ("BaseException","__getattribute__"):=by decide +kernel
 obtain⟨hh,g,d,t,os⟩:=s;have L0:=I.type (M:=model prog w);have L1:=W.looks_mroIn (M:=model prog w) X k.bx;have LI:W.Looks (model prog w) hh (isInstance (.ref x) (.type "BaseException")) true:=L0.andThen L1;have ha:=PySem.F.args_bexc_ga (.ref x) nameV;simp only[checkBuiltinCall,hk,hsplit];refine wpAny_bind (LI.at ?_)
 repeat (first | lk | wp_step)
 exact h
theorem qf6 {fill expr:Bool}(k:Qt K D)(X:K.In s.heap)(I:W.InstAt s.heap x ox D odo)(hv:W.handedIn v=true)(hf:W.findObj K D odo name=some (.value v)\/∃g a,W.findObj K D odo name=some (.bind g a)/\∀(A':Around) (R:Result->Shared->Prop),R (.ok (.ret v)) s->codeAny (model prog w) A' (.call g ⟨[a,.ref x,.ref D],[]⟩) R s)(h:P v s):
  wpAny (model prog w) A (getAttrBy (.ref x) (.str name tk) fill expr) P E s:=by
 obtain⟨hh,g,d,t,os⟩:=s;have L0:=I.type (M:=model prog w);have L1:=W.looks_findIn (M:=model prog w) X k.ga;have L2:=W.looks_findIn (M:=model prog w) X k.gn;unfold getAttrBy;refine wpAny_holding (wpAny_bind (L0.at (wpAny_bind (L1.at ?_))));show wpAny _ _ (getAttrByItsOwn (.ref x) (.str name tk) (.ref D) (.builtin "BaseException.__getattribute__") fill expr) _ _ _;unfold getAttrByItsOwn hookBefore;have f3:=PySem.F.attr_ValueError.ga.bind (.ref x);refine wpAny_bind (L2.at ?_);refine wpAny_bind (wpAny_attempt (wpAny_holding ?_));unfold callGetattribute boundAndCalled;rw[if_neg (by cases expr<;>decide)];refine wpAny_bind (wpAny_of_eq f3 ?_);refine wpAny_call (codeAny_call_builtin PySem.F.attr_ValueError.ga.plain PySem.F.entry_bexc_ga (Nd k X I ?_));unfold Builtin.«object.__getattribute__»;refine wpAny_bind (wpAny_pure ?_);refine wpAny_bind (wpAny_pure ?_);refine wpAny_bind (L0.at ?_);rcases hf with hf | ⟨gg,a,hf,hc⟩
 .refine wpAny_bind ((W.looks_find (M:=model prog w) X I hf).at ?_);refine wpAny_pure ?_;show wpAny _ _ (handedOut v) _ _ _;rw[W.handedOut_of hv];exact wpAny_pure h
 .refine wpAny_bind ((W.looks_find (M:=model prog w) X I hf).at ?_);show wpAny _ _ (Builtin.ObjectAttr.bindTo gg a (.ref x) (.ref D)) _ _ _;show wpAny _ _ (holding [a] (call gg [a,.ref x,.ref D]) >>= ret) _ _ _;refine wpAny_bind (wpAny_holding (wpAny_call (hc _ _ ?_)));refine wpAny_pure ?_;show wpAny _ _ (handedOut v) _ _ _;rw[W.handedOut_of hv];exact wpAny_pure h
end
end L2
namespace Mq
theorem mB (hp:1<=p.2)(hq:1<=q.2):Low (minus p q):=jH (jE hp hq)
theorem Nm (hp:1<=p.2)(hq:1<=q.2):Low (uG p q):=jH (jE hp hq)
theorem vX {p q:Q2}(hp:1<=p.2)(hq:q.1≠0):p.2*q.1≠0:=Int.mul_ne_zero () hq
theorem Fj (hp:1<=p.2)(hq:q.1≠0):Low (mP p q):=jH (vX hp hq)
theorem Ek (h:Bd n p)(g:Bd m q)(hp:1<=p.2)(hq:1<=q.2):Bd (n+m+1) (minus p q):=by
 have k:=oF (t:=p.1*q.2 - q.1*p.2) (jE hp hq);have a2:B (n+m) (q.1*p.2):=by rw[Nat.add_comm];exact g.a.mul h.b
 exists ((h.a.mul g.b).sub a2).le k.1,((h.b.mul g.b).mono (Nat.le_succ _)).le k.2
theorem Qf (h:Bd n p)(g:Bd m q)(hp:1<=p.2)(hq:1<=q.2):Bd (n+m) (uG p q):=by
 have k:=oF (t:=p.1*q.1) (jE hp hq);exists (h.a.mul g.a).le k.1,(h.b.mul g.b).le k.2
theorem Ml (h:Bd n p)(g:Bd m q)(hp:1<=p.2)(hq:q.1≠0):Bd (n+m) (mP p q):=by
 have k:=oF (t:=p.1*q.2) (vX hp hq);exists (h.a.mul g.b).le k.1,(h.b.mul g.a).le k.2
end Mq
open Mq (Ek Fj Ml mB)
namespace L2
open PySem PySem.Spec PyProof.Rows
inductive Az (K:Frag) (vs:wk) (H:Hp) (Q:VK) (E:XK):Prop where
 |mk (a b:Addr) (p q:Q2) (n m:Nat):vs=[.ref a,.ref b]->Fq K H a p->Fq K H b q->Bd n p->Bd m q->n+m+1<=9000->Q (.bl (decide (p.1*q.2 < q.1*p.2))) H->Az K vs H Q E
inductive TyQ (K:Frag) (H:Hp):V->Value->Prop where
 |of {x:V} {t:Value} (h:pI K H x t):TyQ K H x t
 |tup {a:Addr} {xs:wk} (h:SqT K H a xs):TyQ K H (.ref a) (.type "tuple")
 |lst {a:Addr} {xs:wk} (h:SqL K H a xs):TyQ K H (.ref a) (.type "list")
section
variable {X:Cx} {pins:List (Addr × Obj)} {σ:St} {H:Hp} {s:Shared} {A:Around} {E:Value->Shared->Prop} {Q:Value->Shared->Prop} {c:Value} {b:Bool}
theorem Jt (I:Inv X pins σ H s)(rx:cN x u)(ty:TyQ X.K H x t)(e:W.kitOne X.K t c=some b)(h:∀tk,Q (.bool b) { s with toks:=tk }):
  wpAny (model X.prog X.w) A (call (.builtin "isinstance") [u,c]) Q E s:=by
 cases ty with
 |of ty=>exact Of I rx ty e h
 | @tup a xs ht=>
  cases (show u=Value.ref a from rx)
  obtain⟨its,_,p,_⟩:=I.tuple ht;obtain⟨o,h1,h2,_⟩:=p;exact W.kia_one W.kitx_tuple I.kIn ⟨o,h1,h2⟩ e (λz=>nomatch z) h
 | @lst a xs ht=>
  cases (show u=Value.ref a from rx)
  obtain⟨its,_,p,_⟩:=I.list ht;obtain⟨o,h1,h2,_⟩:=p.isList;exact W.kia_one W.kitx_list I.kIn ⟨_,h1,h2⟩ e (λz=>nomatch z) h
end
section
variable {X:Cx}
theorem Ov:lQ X (.builtin "isinstance") (λxs H Q=>∃x n t b,xs=[x,.ty n]/\TyQ X.K H x t/\W.kitOne X.K t (.type n)=some b/\Q (.bl b) H):=by
 intro pins s σ H vs us Q I rv h;obtain⟨x,n,t,b,rfl,ty,e,q⟩:=h;obtain⟨u,u2,rfl,r1,r2⟩:=Rq rv
 cases (show u2=Value.type n from r2)
 exact Jt I r1 ty e λtk=>⟨.bl b,H,I.tok tk,rfl,q⟩
theorem gL {i:Nat}(hN:X.N[i]?=some x)(hv:Vis X.env.scope x)(b:X.mg "isinstance"=none)(b2:X.mg T=none)(g1:Gl X "isinstance")(g2:Gl X T)(hT:bootBuiltins T=some (.type T'))(hd:(x == ("__debug__":Str))=false:=by decide)(hcd:(x == ("__classdict__":Str))=false:=by decide)(hTn:T≠"__name__":=by decide)(hTd:(T == ("__debug__":Str))=false:=by decide)(he:starEach [.Name x p2,.Name T p3] X.env=(false,eval (.Name x p2) X.env) :: starEach [.Name T p3] X.env:=by rfl)(he2:starEach [.Name T p3] X.env=(false,eval (.Name T p3) X.env) :: starEach [] X.env:=by rfl)(hpl:(backTo pos (starEach [.Name T p3] X.env)).any (·.1)=false:=by rfl):
  PE X (.Call (.Name "isinstance" p1) [.Name x p2,.Name T p3] [] pos) (λσ H Q=>∃v t b,σ[i]?=some (some v)/\TyQ X.K H v t/\W.kitOne X.K t (.type T')=some b/\Q (.bl b) H):=by
 have h:=cB (X:=X) (pos:=pos) (p:=p1) Ov g1 b PyProof.Rows.boot_isinstance (aA (Qr (i:=i) (pos:=p2) hN hv hd hcd) (aA (We (v:=.ty T') (pos:=p3) g2 b2 hT rfl hTn hTd) aD he2) he) ∅ ∅ he hpl;intro pins s σ H Q I q;obtain⟨v,t,bb,h1,h2,h3,h4⟩:=q;exact h pins s σ H Q I ⟨v,h1,v,T',t,bb,rfl,h2,h3,h4⟩
end
theorem SqT.upd {K:Frag}(h:SqT K H a xs)(hl:H l=some (.lst ys)):SqT K (L2.upd H l o) a xs:=by
 rcases h with (h | ⟨u,h⟩) | h
 .exact .inl (.inl (by rw[aV (gX h hl (λz=>by cases z))];exact h))
 .exact .inl (.inr ⟨u,by rw[aV (gX h hl (λz=>by cases z))];exact h⟩)
 .exact .inr h
theorem yB {K:Frag}:∀ns:List Int,xH K H (ns.map V.int) (ns.map PyData.int)
 | []=>.nil
 |n :: r=>.cons (.int n) (yB r)
theorem Fp:∀ns:List Int,PyData.canLayAll0 (ns.map PyData.int)=true
 | []=>rfl
 |n :: r=>by
  show ((PyData.int n).canLay0 && PyData.canLayAll0 (r.map PyData.int))=true;rw[Fp r];rfl
theorem Tj (ns:List Int)(lo hi:Option Int):∃ms:List Int,kU (ns.map V.int) lo hi=ms.map V.int/\ms.length<=ns.length:=by
 exists (ns.drop (HT.sIx (ns.map V.int).length 0 lo)).take (HT.sIx (ns.map V.int).length (ns.map V.int).length hi - HT.sIx (ns.map V.int).length 0 lo),?_,?_
 .unfold kU;rw[map_take,map_drop]
 .rw[length_take,length_drop];lia
theorem kJ:(((σC 2 fr σ).set 0 (some x)).set 1 (some y)).length=(σC 2 fr σ).length/\∀(i:Nat) v,(σC 2 fr σ)[i]?=some (some v)->(((σC 2 fr σ).set 0 (some x)).set 1 (some y))[i]?=some (some v):=by
 exists ⋯,λi v h=>?_
 match i with
 |0=>unfold σC at h;simp at h
 |1=>unfold σC at h;simp at h
 |k+2=>rw[getElem?_set_ne (),getElem?_set_ne ()];exact h
theorem Fqs.set {K:Frag}(h:Fq K H a p):∀{xs:wk} {ps:List Q2} (i:Nat),Fqs K H xs ps->Fqs K H (xs.set i (.ref a)) (ps.set i p)
 |_,_,_,.nil=>.nil
 |_,_,0,.cons _ q=>.cons h q
 |_,_,i+1,.cons g q=>.cons g (Fqs.set h i q)
theorem Fqs.at {K:Frag}:∀{xs:wk} {ps:List Q2} {i:Nat} {p:Q2},Fqs K H xs ps->ps[i]?=some p->∃a,xs[i]?=some (.ref a)/\Fq K H a p
 |_,_,_,_,.nil,h=>by simp at h
 |_,_,0,_,.cons h _,e=>by simp at e;subst e;exists _,rfl,h
 |_,_,i+1,_,.cons _ q,e=>by simpa using Fqs.at q (by simpa using e)
theorem Ow (lo:-(2 ^ n:Int) < i)(hi:i < 2 ^ n):Mq.B n i:=by
 unfold Mq.B;have e:((2 ^ n:Nat):Int)=2 ^ n:=by simp
 lia
theorem mY (h:k < n):ixN n (k:Int)=some k:=by
 unfold ixN;rw[if_pos (),if_pos ()];simp
section
variable {X:Cx} {tg:Expr}
inductive qo9 (K:Frag) (xs:wk) (H:Hp) (Q:VK):Prop where
 |mk (p:Addr) (bs:List Bool):xs=[.ref p]->SqL K H p (bs.map V.bl)->Q (.bl (bs.all id)) H->qo9 K xs H Q
theorem rQ (hc:X.calm=true):lQ X (.builtin "all") (qo9 X.K):=by
 intro pins s σ H xs us Q I r h;obtain⟨p,bs,rfl,hq,q⟩:=h;obtain⟨u,rfl,rx⟩:=rT r
 cases rx
 obtain⟨its,rv,pl,hz⟩:=I.list hq;have hlen:its.toArray.size=bs.length:=by rw[size_toArray,<- rv.length,length_map]
 have hne:p≠s.heap.objs.size:=by
  obtain⟨o,e,_⟩:=pl.isList;exact Nat.ne_of_lt (Heap.lt_size e)
 refine call_all_walk (wpAny_pyIter_list pl.isList ?_);exists s.heap.objs.size,_,_,_,_,_,λi=>bs.getD i false,rfl,Walks.list (by exact I.ok.hd hc) s.heap.objs.size p hne its.toArray,⟨⟨_,Heap.get?_push_size _ rfl,rfl,rfl⟩,?_⟩,?_,?_
 .obtain⟨o,e,c⟩:=pl.isList;exists o,Heap.get?_push_of_some _ e,c
 .intro i v s' Q' E' hv q';have hv':its[i]?=some v:=by simpa using hv
  have hi:i < its.length:=(wq.mp hv').1;have hb:(bs.map V.bl)[i]?=some (.bl (bs.getD i false)):=by
   rw[getElem?_map,getElem?_eq_getElem (by rw[<- hlen];simpa using hi)];simp[List.getD,getElem?_eq_getElem (show i < bs.length by rw[<- hlen];simpa using hi)]
  obtain⟨u,hu,ru⟩:=rv.get hb;have e:u=v:=by rw[hv'] at hu;cases hu;rfl
  subst e
  cases ru
  exact wpAny_truthy_bool q'
 .intro h' tk kk;have e:(List.range its.toArray.size).all (λi=>bs.getD i false)=bs.all id:=by
   rw[hlen,Bool.eq_iff_iff,all_eq_true,all_eq_true];constructor
   .intro z b hb;obtain⟨i,hi,rfl⟩:=getElem_of_mem hb;have:=z i (mem_range.mpr hi);simpa[List.getD,getElem?_eq_getElem hi] using this
   .intro z i hi;have hi':=mem_range.mp hi;have:=z bs[i] (getElem_mem hi');simpa[List.getD,getElem?_eq_getElem hi'] using this
  rw[e];exists .bl _,H,I.kept (t':=tk) λb o hb=>?_,rfl,q;have hb2:b≠s.heap.objs.size:=Nat.ne_of_lt (Heap.lt_size hb);exact kk b o (by simpa using hb2) (Heap.get?_push_of_some _ hb)
end
inductive Lb {ι:Type} (C:ι->Addr) (m:Str) (sp:ι->Sp) (dvs:wk) (E:XK) (t:TA) (σ:St) (Q:VK) (x:V) (H1:Hp):Prop where
 |mk (i a dx fs):x=.ref a->H1 a=some (.ins (C i) dx fs)->fs.lookup m=none->(t σ H1 λvs H2=>sp i (x :: (vs++dvs)) H2 Q E)->Lb C m sp dvs E t σ Q x H1
def Up {ι:Type}(C:ι->Addr)(m:Str)(sp:ι->Sp)(dvs:wk)(E:XK)(ta:TE)(t:TA):TE:=λσ H Q=>ta σ H λx H1=>Lb C m sp dvs E t σ Q x H1
section
variable {X:Cx} {ι:Type} {C f:ι->Addr} {fd:ι->FuncData} {sp:ι->Sp} {m:Str} {CX:CXT} {k:Nat} {ps:List Str} {ds:List Value} {dvs:wk} {E:XK} {o e:Expr} {es:List Expr} {ta:TE} {t:TA} {apos pos:Pos}
theorem Eu (he:PE X o ta)(c:∀i,Cls X.K (C i))(hm:∀i,iG X.K (C i) m (f i))(F:∀i,aL X.prog X.w X.K X.mg X.base CX k (f i) (fd i) ps (sp i))(hr:iI k X.A)(hb:∀i,aP X.K (fd i) ps ds)(hd:cJ dvs ds)(hx:kX CX X E)(ha:PA X (e :: es) t)(hst:starEach (e :: es) X.env=(false,eval e X.env) :: starEach es X.env:=by rfl)(hpl:(backTo pos (starEach es X.env)).any (·.1)=false:=by rfl)(ht:eval (.Call (.Attribute o m apos) (e :: es) [] pos) X.env=(do
   let ov <- eval o X.env
   standAt apos.atName
   let (f,first) <- holding [ov] (getMethod ov m pl)
   callWith pos f first (backTo pos (starEach (e :: es) X.env)) (backToKw pos (keywordEach [] X.env))):=by rfl):
  PE X (.Call (.Attribute o m apos) (e :: es) [] pos) (Up C m sp dvs E ta t):=by
 intro pins s σ H Q I h;refine W.methodCall_KW (pl:=pl) (thn (he pins s σ H _ I h) λu s1 ⟨x,H1,I1,rx,i,a,dx,fs,ex,ea,l,q⟩=>?_) ht;subst ex;obtain rfl:u=Value.ref a:=rx;refine mQ I1 ea (c i) (hm i) l ?_;refine W.callWith_K (first:=[.ref a]) (h₀:=X.base) I.ok.mod.kin (hm i).kp (thn (ha pos pins s1 σ H1 _ I1 q) λus s2 ⟨vs,H2,I2,r,q2⟩=>⟨I2.kIn,?_⟩) hst hpl;exact yW (us:=.ref a :: us) (vs:=.ref a :: vs) (F i) hr (hb i) hd hx I2 (.cons rfl r) q2
theorem iL (he:PE X o ta)(c:∀i,Cls X.K (C i))(hm:∀i,iG X.K (C i) m (f i))(F:∀i,aL X.prog X.w X.K X.mg X.base CX k (f i) (fd i) ps (sp i))(hr:iI k X.A)(hb:∀i,aP X.K (fd i) ps ds)(hd:cJ dvs ds)(hx:kX CX X E)(ht:eval (.Call (.Attribute o m apos) [] [] pos) X.env=(do
   let ov <- eval o X.env
   standAt apos.atName
   let (f,first) <- holding [ov] (getMethod ov m pl)
   callWith pos f first (backTo pos (starEach [] X.env)) (backToKw pos (keywordEach [] X.env))):=by rfl):
  PE X (.Call (.Attribute o m apos) [] [] pos) (Up C m sp dvs E ta qb4):=by
 intro pins s σ H Q I h;refine W.methodCall_KW (pl:=pl) (thn (he pins s σ H _ I h) λu s1 ⟨x,H1,I1,rx,i,a,dx,fs,ex,ea,l,q⟩=>?_) ht;subst ex;obtain rfl:u=Value.ref a:=rx;refine mQ I1 ea (c i) (hm i) l ?_;exact W.callWith_K0 (first:=[.ref a]) I1.kIn (hm i).kp (yW (us:=[.ref a]) (vs:=[.ref a]) (F i) hr (hb i) hd hx I1 (.cons rfl .nil) q)
end
inductive Kd where
 |pc | pu | ho
 deriving DecidableEq
def Kd.wd:Kd->Str
 | .pc=>"piece"
 | .pu=>"push"
 | .ho=>"hold"
def Kd.cn:Kd->Str
 | .pc=>"Piece"
 | .pu=>"Push"
 | .ho=>"Hold"
theorem Kd.wd_inj {k j:Kd}(h:k.wd=j.wd):k=j:=by
 cases k<;>cases j<;>first | rfl | exact absurd h ∅
theorem fsg:¬(("start":Str) = "goal"):=by decide +kernel
theorem fsz:¬(("start":Str) = "size"):=by decide +kernel
theorem fgz:¬(("goal":Str) = "size"):=by decide +kernel
def pQ (s g z:V):List (Str × V):=gD "size" z (gD "goal" g (gD "start" s []))
theorem eX (s g z:V):(pQ s g z).lookup ("start":Str)=some s:=by
 unfold pQ;rw[bY,if_neg fsz,bY,if_neg fsg,bY,if_pos rfl]
theorem fQ (s g z:V):(pQ s g z).lookup ("goal":Str)=some g:=by
 unfold pQ;rw[bY,if_neg fgz,bY,if_pos rfl]
theorem hG (s g z:V):(pQ s g z).lookup ("size":Str)=some z:=by
 unfold pQ;rw[bY,if_pos rfl]
theorem gH (s g z:V){m:Str}(h1:¬m = "start")(h2:¬m = "goal")(h3:¬m = "size"):(pQ s g z).lookup m=none:=by
 unfold pQ;rw[bY,if_neg h3,bY,if_neg h2,bY,if_neg h1];rfl
def Rw (CK:Kd->Addr)(H:Hp)(x:Addr)(k:Kd)(s g z:V):Prop:=∃dx,H x=some (.ins (CK k) dx (pQ s g z))
theorem Rw.same (e:aX H H')(h:Rw CK H x k s g z):Rw CK H' x k s g z:=let ⟨dx,q⟩:=h;⟨dx,e _ _ q⟩
theorem Rw.upd (h:Rw CK H x k s g z)(hl:H l=some (.lst ys)):Rw CK (L2.upd H l o) x k s g z:=let ⟨dx,q⟩:=h;⟨dx,by rw[aV (gX q hl (λz=>by cases z))];exact q⟩
structure RT (K:Frag) (mg:Str->Option Value) (CR:Addr) (CK:Kd->Addr):Prop where
 cl:∀k,Cls K (CK k)
 nS:∀k,iN K (CK k) "start"
 nG:∀k,iN K (CK k) "goal"
 nZ:∀k,iN K (CK k) "size"
 t1:∀k,W.findIn K (.ref (CK k)) "__class__"=some (some (.builtin "object.__class__"))
 t2:W.specialIn K (.builtin "object.__class__") "__get__"=some (some (.builtin "getset_descriptor.__get__"))
 t3:W.takesIn K (.builtin "object.__class__")=some true
 t4:∀k,W.mroIn K (CK k) (.type "object")=some true
 isR:∀k,W.kitOne K (.ref (CK k)) (.ref CR)=some true
 isK:∀k j,W.kitOne K (.ref (CK k)) (.ref (CK j))=some (decide (k=j))
 mR:mg "Row"=some (.ref CR)
 mK:∀k,mg (Kd.cn k)=some (.ref (CK k))
section
variable {K:Frag} {mg:Str->Option Value} {CR:Addr} {CK:Kd->Addr} {H:Hp} {x:Addr} {k:Kd} {s g z:V}
theorem Rw.new (h1:H x=none)(h2:H dx=none)(ne:dx≠x):aX H (L2.upd (L2.upd H dx (.own x)) x (.ins C dx fs)):=λb o e=>by
 rw[aV (bL e h1),aV (bL e h2)];exact e
end
inductive Da (CK:Kd->Addr) (vs:wk) (H:Hp) (Q:VK) (E:XK):Prop where
 |mk (x dx:Addr) (k:Kd) (s g z:V):vs=[.ref x,s,g,z]->H x=some (.ins (CK k) dx [])->Q .non (upd H x (.ins (CK k) dx (pQ s g z)))->Da CK vs H Q E
inductive mZ (k:Kd) (vs:wk) (H:Hp) (Q:VK) (E:XK):Prop where
 |mk (x):vs=[x]->Q (.str k.wd) H->mZ k vs H Q E
inductive pB (k:Kd) (vs:wk) (H:Hp) (Q:VK) (E:XK):Prop where
 |mk (x):vs=[x]->Q (.bl (decide (k≠.pu))) H->pB k vs H Q E
inductive vB (CK:Kd->Addr) (vs:wk) (H:Hp) (Q:VK) (E:XK):Prop where
 |mk (x:Addr) (k:Kd) (s g z:V):vs=[.ref x]->Rw CK H x k s g z->(∀t,H t=none->Q (.ref t) (upd H t (.tup [.str k.wd,s,g,z])))->vB CK vs H Q E
def qv1 (CK:Kd->Addr)(H:Hp)(Q:VK)(k:Kd)(s g z:V):Prop:=∀x H',aX H H'->H x=none->Rw CK H' x k s g z->Q (.ref x) H'
theorem Td {K:Frag}(h1:pV K H x d)(h2:pV K H y d)(hl:d.canLay0=true)(hd:d.depth<=16)(z:Q (.bl (!neg)) H):Nw K neg x y H Q:=by
 exists d,d,h1,h2,hl,hl,(),?_;have e:PyData.eqv d d=true:=PySem.SeqAt.eqv_refl _ hl;rw[e]
 cases neg<;>exact z
def rd4 (w:Str)(i j:Int)(p:Q2):PyData:=.tuple [.str w,.int i,.int j,qd p]
theorem Xs (h:(PyData.str w).canLay0=true)(i j:Int)(p:Q2):(rd4 w i j p).canLay0=true:=by
 show ((PyData.str w).canLay0 && ((PyData.int i).canLay0 && ((PyData.int j).canLay0 && ((qd p).canLay0 && true))))=true;rw[h];rfl
theorem Kd.lay (k:Kd):(PyData.str k.wd).canLay0=true:=by cases k<;>decide +kernel
theorem ifT {A B:Prop}(h:c=true)(x:A):if c=true then A else B:=by rw[if_pos h];exact x
theorem ifF {A B:Prop}(h:c=false)(x:B):if c=true then A else B:=by rw[if_neg (by rw[h];decide)];exact x
theorem Vx {K:Frag}(h:SqT K H t [.str w,.int i,.int j,.ref a])(f:Fq K H a p):pV K H (.ref t) (rd4 w i j p):=.tup h (.cons (.str _) (.cons (.int _) (.cons (.int _) (.cons f.dat .nil))))
theorem dM (k j:Kd):decide (V.str k.wd=V.str j.wd)=decide (k=j):=by
 by_cases h:k=j
 .subst h;simp
 .rw[decide_eq_false h];exact decide_eq_false λz=>h (Kd.wd_inj (V.str.inj z))
theorem zzT (k k':Kd)(h:k=k'):decide (V.str k.wd=V.str k'.wd)=true:=by rw[dM];exact decide_eq_true h
theorem zzF (k k':Kd)(h:¬k=k'):decide (V.str k.wd=V.str k'.wd)=false:=by rw[dM];exact decide_eq_false h
theorem kF {p:Kd->Prop}(a:p .pc)(b:p .pu)(c:p .ho):∀k,p k:=λk=>by cases k<;>assumption
theorem xW (K:Frag)(t:PySem.Value):PySem.W.kitOne K t t=some true:=by unfold PySem.W.kitOne;rw[if_pos (beq_self_eq_true _)]
def kd3 {α:Type}(a b c:α):Kd->α
 | .pc=>a
 | .pu=>b
 | .ho=>c
end L2
namespace Mq
def gK (ps:List Q2):Prop:=∀p∈ps,Low p
end Mq
open Mq (gK)
namespace L2
open PySem PySem.Spec PyProof.Rows
section
variable {κ:Type} [DecidableEq κ]
def pZ (kvs:List (κ × V))(k:κ):Option V:=(kvs.find? λkv=>decide (kv.1=k)).map (·.2)
def mU (kvs:List (κ × V))(k:κ)(v:V):List (κ × V):=
 if (kvs.any λkv=>decide (kv.1=k))=true then kvs.map (λkv=>if kv.1=k then (kv.1,v) else kv) else kvs++[(k,v)]
theorem oQ {p:κ × V}(e:p.1=k):pZ (p :: r) k=some p.2:=by simp[pZ,find?_cons,e]
theorem lP {p:κ × V}(e:¬p.1=k):pZ (p :: r) k=pZ r k:=by simp[pZ,find?_cons,e]
theorem Gn (k:κ):∀kvs:List (κ × V),(kvs.any λkv=>decide (kv.1=k))=(pZ kvs k).isSome
 | []=>rfl
 |p :: r=>by
  rw[any_cons]
  by_cases e:p.1=k
  .simp only[oQ e,decide_eq_true e,Bool.true_or,Option.isSome_some]
  .rw[lP e,decide_eq_false e,Bool.false_or];exact Gn k r
theorem oI (kvs:List (κ × V))(k:κ)(v:V):(mU kvs k v).length<=kvs.length+1:=by
 unfold mU;split
 .rw[length_map];lia
 .rw[xj,length_cons,length_nil];lia
theorem kR.isSome_eq (r:kR o u):o.isSome=u.isSome:=by
 cases o with
 |none=>cases u with
  |none=>rfl
  |some _=>exact(show False from r).elim
 |some _=>cases u with
  |none=>exact(show False from r).elim
  |some _=>rfl
theorem kR.getD (r:kR o u)(rd:cN d d'):cN (o.getD d) (u.getD d'):=by
 cases o with
 |none=>cases u with
  |none=>exact rd
  |some _=>exact(show False from r).elim
 |some _=>cases u with
  |none=>exact(show False from r).elim
  |some _=>exact r
theorem KV.val (r:KV kvs vs)(k:κ):kR (pZ kvs k) (valueAt vs k):=by
 unfold KV at r
 induction r with
 |nil=>exact True.intro
 | @cons p q ps qs h t ih=>
  obtain⟨h1,h2⟩:=h
  by_cases e:p.1=k
  .have e':q.1=k:=h1.symm.trans e;have b:valueAt (q :: qs) k=some q.2:=by simp[valueAt,find?_cons,e']
   rw[oQ e,b];exact h2
  .have e':¬q.1=k:=λz=>e (h1.trans z);have b:valueAt (q :: qs) k=valueAt qs k:=by simp[valueAt,find?_cons,e']
   rw[lP e,b];exact ih
theorem KV.any (r:KV kvs vs)(k:κ):(kvs.any λkv=>decide (kv.1=k))=vs.any λkv=>decide (kv.1=k):=by
 unfold KV at r
 induction r with
 |nil=>rfl
 |cons h t ih=>rw[any_cons,any_cons,ih,h.1]
theorem KV.repl (r:KV kvs vs)(k:κ)(ry:cN y u):
  KV (kvs.map λkv=>if kv.1=k then (kv.1,y) else kv) (vs.map λkv=>if kv.1=k then (kv.1,u) else kv):=by
 unfold KV at r ⊢
 induction r with
 |nil=>exact .nil
 | @cons p q ps qs h t ih=>
  rw[map_cons,map_cons];refine .cons ?_ ih;obtain⟨h1,h2⟩:=h
  by_cases e:p.1=k
  .rw[if_pos e,if_pos (h1.symm.trans e)];exists h1,ry
  .rw[if_neg e,if_neg (λz=>e (h1.trans z))];exists h1,h2
theorem KV.put (r:KV kvs vs)(k:κ)(ry:cN y u):KV (mU kvs k y) (stored vs k u):=by
 unfold mU stored;rw[r.any k]
 by_cases e:(vs.any λkv=>decide (kv.1=k))=true
 .rw[if_pos e,if_pos e];exact r.repl k ry
 .rw[if_neg e,if_neg e];exact Paired.snoc r ⟨rfl,ry⟩
theorem KV.length {kvs:List (κ × V)}(r:KV kvs vs):kvs.length=vs.length:=Paired.length r
end
theorem yC (r:cN (kV k) u):(fH P w).is k u=true:=by
 cases k with
 |inl i=>obtain⟨t,e⟩:=(show ∃t,u=Value.int i t from r);subst e;exact Et P w i t
 |inr x=>obtain⟨t,e⟩:=(show ∃t,u=Value.str x t from r);subst e;exact Ei P w x t
theorem zW:∀{ks:List Key} {us:List Value},cJ (ks.map kV) us->ItemsAre (fH P w) ks us
 | [],_,r=>by rw[map_nil] at r;cases r;exact .nil
 |k :: ks,_,r=>by
  rw[map_cons] at r
  cases r with
  |cons h t=>exact .cons (yC h) (zW t)
abbrev KT (H:Hp):List (List Key × V)->List (List Key × Addr × Value)->Prop:=Paired λp q=>p.1=q.1/\H q.2.1=some (.tup (p.1.map kV))/\cN p.2 q.2.2
theorem KT.val (r:KT H kvs xs)(k:List Key):kR (pZ kvs k) ((atKey xs k).map (·.2)):=by
 induction r with
 |nil=>exact True.intro
 | @cons p q ps qs h t ih=>
  obtain⟨h1,_,h2⟩:=h
  by_cases e:p.1=k
  .have e':q.1=k:=h1.symm.trans e;have b:atKey (q :: qs) k=some q.2:=by simp[atKey,find?_cons,e']
   rw[oQ e,b];exact h2
  .have e':¬q.1=k:=λz=>e (h1.trans z);have b:atKey (q :: qs) k=atKey qs k:=by simp[atKey,find?_cons,e']
   rw[lP e,b];exact ih
theorem KT.repl (r:KT H kvs xs)(k:List Key)(ry:cN y u):
  KT H (kvs.map λkv=>if kv.1=k then (kv.1,y) else kv) (xs.map (putAt k u)):=by
 induction r with
 |nil=>exact .nil
 | @cons p q ps qs h t ih=>
  rw[map_cons,map_cons];refine .cons ?_ ih;obtain⟨h1,h2,h3⟩:=h;unfold putAt
  by_cases e:p.1=k
  .rw[if_pos e,if_pos (h1.symm.trans e)];exists h1,h2,ry
  .rw[if_neg e,if_neg (λz=>e (h1.trans z))];exists h1,h2,h3
theorem KT.put (r:KT H kvs xs)(k:List Key)(hb:H b=some (.tup (k.map kV)))(ry:cN y u):
  KT H (mU kvs k y) (storedH xs k b u):=by
 have e:(kvs.any λkv=>decide (kv.1=k))=(atKey xs k).isSome:=by
  rw[Gn,(r.val k).isSome_eq,Option.isSome_map]
 unfold mU storedH;rw[e]
 by_cases q:(atKey xs k).isSome=true
 .rw[if_pos q,if_pos q];exact r.repl k ry
 .rw[if_neg q,if_neg q];exact Paired.snoc r ⟨rfl,hb,ry⟩
theorem KT.keeps (r:KT H kvs xs)(ht:∀b ys,H b=some (.tup ys)->H' b=some (.tup ys)):KT H' kvs xs:=
 Paired.mapP r λ_ _ z=>⟨z.1,ht _ _ z.2.1,z.2.2⟩
section
variable {P:Program} {w:World} {H:Hp} {h:Heap} {a:Addr}
theorem qa0 (ok:HOk P w H h)(e:Rd H a u):dP P w H h a u:=e.ok ok
theorem uK (ok:HOk P w H h)(e:Rd H a (.dK kvs)):kvs.length<=sizeLine/\(a == sysModules)=false/\∃vs,KV kvs vs/\h.DictOf (fH P w) a vs:=
 show dP P w H h a (.dK kvs) from qa0 ok e
theorem qa2 (ok:HOk P w H h)(e:H a=some (.dK kvs)):kvs.length<=sizeLine/\(a == sysModules)=false/\∃vs,KV kvs vs/\h.DictOf (fH P w) a vs:=uK ok (.inl e)
theorem tG (ok:HOk P w H h)(e:H a=some (.tup (ks.map kV))):(tupleKind (fH P w)).is h ks a:=by
 obtain⟨_,its,r,o,h1,h2,n,h3⟩:=(show dP P w H h a (.tup (ks.map kV)) from ok a _ e)
 exists o,its.toArray,n,h1,h2,h3,by simpa using zW r
theorem wN (ok:HOk P w H h)(e:Rd H a (.dT kvs)):kvs.length<=sizeLine/\(a == sysModules)=false/\
  ∃xs,KT H kvs xs/\h.DictOfH (tupleKind (fH P w)) a xs:=by
 obtain⟨z,y,xs,r,o,es,ep,h1,h2,h3,h4,h5⟩:=(show dP P w H h a (.dT kvs) from qa0 ok e)
 exists z,y,xs,r,o,es,ep,h1,h2,h3,h4,λx hx=>?_,h5;have all:∀{l:List (List Key × V)} {m:List (List Key × Addr × Value)},KT H l m->∀x∈m,(tupleKind (fH P w)).is h x.1 x.2.1:=by
  intro l m q
  induction q with
  |nil=>intro x hx;exact nomatch hx
  | @cons p q ps qs hq t ih=>
   intro x hx;rcases mem_cons.mp hx with e | hx
   .subst e;exact tG ok (by rw[<- hq.1];exact hq.2.1)
   .exact ih x hx
 exact all r x hx
theorem qo5 (ok:HOk P w H h)(e:H a=some (.dT kvs)):kvs.length<=sizeLine/\(a == sysModules)=false/\
  ∃xs,KT H kvs xs/\h.DictOfH (tupleKind (fH P w)) a xs:=wN ok (.inl e)
end
def jN (H:Hp)(a:Addr)(y:V)(r:Option V):Prop:=
 (∃kvs k,Rd H a (.dK kvs)/\y=kV k/\r=pZ kvs k)\/∃kvs k b,Rd H a (.dT kvs)/\y=.ref b/\H b=some (.tup (k.map kV))/\r=pZ kvs k
def Hq (H:Hp)(a:Addr)(y v:V)(H':Hp):Prop:=
 (∃kvs k,H a=some (.dK kvs)/\y=kV k/\kvs.length < sizeLine/\H'=upd H a (.dK (mU kvs k v)))\/
 ∃kvs k b,H a=some (.dT kvs)/\y=.ref b/\H b=some (.tup (k.map kV))/\kvs.length < sizeLine/\H'=upd H a (.dT (mU kvs k v))
theorem jN.k {k:Key}(e:H a=some (.dK kvs)):jN H a (kV k) (pZ kvs k):=.inl ⟨kvs,k,.inl e,rfl,rfl⟩
theorem Hq.k {k:Key}(e:H a=some (.dK kvs))(hl:kvs.length < sizeLine):Hq H a (kV k) v (upd H a (.dK (mU kvs k v))):=.inl ⟨kvs,k,e,rfl,hl,rfl⟩
section
variable {X:Cx} {pins:List (Addr × Obj)} {σ:St} {H:Hp} {s:Shared} {a:Addr} {y v:V} {u r:Value} {o:Option V} {A:Around} {E:Value->Shared->Prop}
theorem Inv.big (I:Inv X pins σ H s):sysModules < s.heap.objs.size:=by
 have h:mainGlobals < s.heap.objs.size:=(I.mod.glob.keeps I.bk).lt;exact Nat.lt_trans ∅ h
theorem Np (hu:A.units+1 < cLine)(I:Inv X pins σ H s)(g:jN H a y (some v))(ry:cN y u)(h:∀w' s',Inv X pins σ H s'->cN v w'->Q w' s'):
  wpAny (model X.prog X.w) A (getItem (.ref a) u) Q E s:=by
 rcases g with ⟨kvs,k,e,ey,l⟩ | ⟨kvs,k,b,e,ey,eb,l⟩
 .subst ey;obtain⟨z,hd,vs,rel,dd⟩:=uK I.hok e;obtain⟨w',hw,rw'⟩:=kR.some_of (v:=v) (o:=valueAt vs k) (by rw[l];exact rel.val k);exact wpAny_getItem_of (yC ry) dd.mapOf hw (h w' _ (I.tok _) rw')
 .subst ey
  cases (show u=Value.ref b from ry)
  obtain⟨z,hd,xs,rel,dd⟩:=wN I.hok e;obtain⟨w',hw,rw'⟩:=kR.some_of (v:=v) (o:=(atKey xs k).map (·.2)) (by rw[l];exact rel.val k);obtain⟨p,hp,hp2⟩:=Option.map_eq_some_iff.mp hw;refine wpAny_getItem_heap (tupleKind_room_in1 hu) (tG I.hok eb) dd hp ?_;rw[hp2];exact h w' _ (I.tok _) rw'
theorem qu5 (hu:A.units+1 < cLine)(I:Inv X pins σ H s)(g:jN H a y o)(ry:cN y u)(h:∀s',Inv X pins σ H s'->Q (.bool o.isSome) s'):
  wpAny (model X.prog X.w) A (compareOp .In u (.ref a)) Q E s:=by
 rcases g with ⟨kvs,k,e,ey,l⟩ | ⟨kvs,k,b,e,ey,eb,l⟩
 .subst ey;obtain⟨z,hd,vs,rel,dd⟩:=uK I.hok e;refine wpAny_in_of (yC ry) hd dd.mapOf ?_;rw[<- (rel.val k).isSome_eq,<- l];exact h _ (I.tok _)
 .subst ey
  cases (show u=Value.ref b from ry)
  obtain⟨z,hd,xs,rel,dd⟩:=wN I.hok e;refine wpAny_in_heap (tupleKind_room_in1 hu) (tG I.hok eb) hd dd ?_;have q:=(rel.val k).isSome_eq;rw[Option.isSome_map] at q;rw[<- q,<- l];exact h _ (I.tok _)
theorem Wz (hu:A.units+1 < cLine)(I:Inv X pins σ H s)(g:jN H a y o)(ry:cN y u)(h:∀s',Inv X pins σ H s'->Q (.bool (!o.isSome)) s'):
  wpAny (model X.prog X.w) A (compareOp .NotIn u (.ref a)) Q E s:=by
 rcases g with ⟨kvs,k,e,ey,l⟩ | ⟨kvs,k,b,e,ey,eb,l⟩
 .subst ey;obtain⟨z,hd,vs,rel,dd⟩:=uK I.hok e;refine wpAny_notIn_of (yC ry) hd dd.mapOf ?_;rw[<- (rel.val k).isSome_eq,<- l];exact h _ (I.tok _)
 .subst ey
  cases (show u=Value.ref b from ry)
  obtain⟨z,hd,xs,rel,dd⟩:=wN I.hok e;refine wpAny_notIn_heap (tupleKind_room_in1 hu) (tG I.hok eb) hd dd ?_;have q:=(rel.val k).isSome_eq;rw[Option.isSome_map] at q;rw[<- q,<- l];exact h _ (I.tok _)
theorem Dk (I:Inv X pins σ H s)(mu:Mut (H a))(hs:Heap.SameBut a s.heap h')(he:∃q,h'.get? a=some q)(new:dP X.prog X.w (upd H a ob) h' a ob):
  Inv X pins σ (upd H a ob) { s with heap:=h',toks:=t' }:=
 I.write (x:=a) (e:=a) mu (.inl rfl) (λb q hb z=>(hs.2 b hb).trans z) he new
theorem Ul (z:kvs.length<=sizeLine)(hd:(a == sysModules)=false)(rel:KV kvs vs)(dd:h'.DictOf (fH P w) a vs):
  dP P w H' h' a (.dK kvs):=⟨z,hd,vs,rel,dd⟩
theorem Nt (hu:A.units+1 < cLine)(I:Inv X pins σ H s)(g:Hq H a y v H')(ry:cN y u)(rv:cN v r)(h:∀s',Inv X pins σ H' s'->Q .unit s'):
  wpAny (model X.prog X.w) A (setItem (.ref a) u r) Q E s:=by
 rcases g with ⟨kvs,k,e,ey,l,eH⟩ | ⟨kvs,k,b,e,ey,eb,l,eH⟩
 .subst ey eH;obtain⟨z,hd,vs,rel,dd⟩:=qa2 I.hok e;have hz:vs.length<=sizeLine:=by rw[<- rel.length];exact z
  have hl:(mU kvs k v).length<=sizeLine:=by have:=oI kvs k v;lia
  refine wpAny_setItem_pairs (hsz:=hz) (yC ry) dd λh' dd' hs=>h _ ?_;have he:∃q,h'.get? a=some q:=let ⟨q,_,_,hq,_⟩:=dd';⟨q,hq⟩
  exact Dk I (by rw[e];exact True.intro) hs he (Ul hl hd (rel.put k rv) dd')
 .subst ey eH
  cases (show u=Value.ref b from ry)
  obtain⟨z,hd,xs,rel,dd⟩:=qo5 I.hok e;have hz:xs.length<=sizeLine:=by rw[<- Paired.length rel];exact z
  have hl:(mU kvs k v).length<=sizeLine:=by have:=oI kvs k v;lia
  refine wpAny_setItem_heap (hsz:=hz) (tupleKind_room_in1 hu) (tG I.hok eb) dd λh' dd' hs=>h _ ?_;obtain⟨q,es,ep,hq,h2,h3,h4,_,h5⟩:=dd';refine Dk I (by rw[e];exact True.intro) hs ⟨q,hq⟩ ⟨hl,hd,_,(rel.put k eb rv).keeps λc ys ec=>?_,q,es,ep,hq,h2,h3,h4,h5⟩;rw[aV (gX ec e (λz=>nomatch z))];exact ec
end
section
variable {X:Cx} {pins:List (Addr × Obj)} {σ:St} {H:Hp} {s:Shared} {a:Addr} {kvs:List (Key × V)} {k:Key} {u:Value} {A:Around} {E:Value->Shared->Prop}
theorem qo2 (I:Inv X pins σ H s)(e:Rd H a (.dK kvs))(h:∀t s',Inv X pins σ H s'->Q (.int kvs.length t) s'):wpAny (model X.prog X.w) A (call (.builtin "len") [.ref a]) Q E s:=by
 obtain⟨z,hd,vs,rel,dd⟩:=uK I.hok e;refine call_len_dict hd dd (by rw[<- rel.length];rw[sizeLine_eq] at z;lia) ?_;rw[<- rel.length];exact h _ _ (I.tok _)
end
def qm1 (i:Expr):Prop:=∀ov iv,subscripted i false ov iv=operate [ov,iv] (getItem ov iv)
theorem Xd {T id:String}(hl:typeLookup (.type T) "__getitem__"=pure (some (.builtin id)))(hs:qm1 slice)(h:wpAny (model prog w) A (eval value env) (λo s₁=>wpAny (model prog w) A (eval slice env) (λi s₂=>s₂.TypeIs o T/\wpAny (model prog w) A (getItem o i) Q E s₂) E s₁) E s):
  wpAny (model prog w) A (eval (.Subscript value slice pos) env) Q E s:=by
 refine Subscript_ (wpAny_mono h (λo s₁ h₁=>wpAny_mono h₁ (λi s₂ h₂=>?_) λ_ _ x=>x) λ_ _ x=>x);obtain⟨hT,h₂⟩:=h₂;unfold subscriptTail;refine wpAny_bind ?_;rw[getitemInPython_of_ne hT.not_modules];refine wpAny_bind (wpAny_specialOf hT hl ?_);have fin:wpAny (model prog w) A (subscripted slice false o i) (λr s₃=>wpAny (model prog w) A (letTemporaryGo value o r >>= λ_=>pure r) Q E s₃) E s₂:=by
  rw[hs o i];exact wpAny_operating (wpAny_mono h₂ (λr s₃ h₃=>wpAny_bind (wpAny_letTemporaryGo (wpAny_pure h₃))) λ_ _ x=>x)
 first
  |exact wpAny_pure (wpAny_bind fin)
  |exact wpAny_bind (wpAny_pure (wpAny_bind fin))
  |exact wpAny_bind fin
theorem Ed (I:Inv X pins σ H s)(g:jN H a y o):s.TypeIs (.ref a) "dict":=by
 rcases g with ⟨kvs,k,e,_,_⟩ | ⟨kvs,k,b,e,_,_,_⟩
 .obtain⟨_,_,vs,_,dd⟩:=uK I.hok e;exact dd.typeIs
 .obtain⟨_,_,xs,_,dd⟩:=wN I.hok e;exact dd.typeIs
def qo3 (td ty:TE):TE:=λσ H Q=>td σ H λx H1=>ty σ H1 λy H2=>∃a v,x=.ref a/\jN H2 a y (some v)/\Q v H2
def qv5 (ty td:TE):TE:=λσ H Q=>ty σ H λy H1=>td σ H1 λx H2=>∃a o,x=.ref a/\jN H2 a y o/\Q (.bl o.isSome) H2
def Vr (ty td:TE):TE:=λσ H Q=>ty σ H λy H1=>td σ H1 λx H2=>∃a o,x=.ref a/\jN H2 a y o/\Q (.bl (!o.isSome)) H2
def ql0 (td ty tv:TE):TS:=λD σ H=>tv σ H λv H1=>td σ H1 λx H2=>ty σ H2 λy H3=>∃a H4,x=.ref a/\Hq H3 a y v H4/\D.nx σ H4
section
variable {X:Cx} {o i e value:Expr} {pos pos' tpos:Pos} {td ty tv:TE}
theorem mL (hu:X.A.units+1 < cLine)(ho:PE X o td)(hi:PE X i ty)(hs:qm1 i):PE X (.Subscript o i pos) (qo3 td ty):=by
 intro pins s σ H Q I h;refine Xd PySem.F.slot_dict_getitem.lookup hs (thn (ho pins s σ H _ I h) λu s1 ⟨x,H1,I1,rx,q1⟩=>thn (hi pins s1 σ H1 _ I1 q1) λiv s2 ⟨y,H2,I2,ry,a,v,ex,g,q2⟩=>?_);subst ex;obtain rfl:u=Value.ref a:=rx;exists Ed I2 g,Np hu I2 g ry λw' s3 I3 rw'=>⟨v,H2,I3,rw',q2⟩
theorem qe8 (hu:X.A.units+1 < cLine)(hi:PE X i ty)(ho:PE X o td):PC X .In i o (qv5 ty td):=by
 intro pins s σ H Q I h;refine thn (hi pins s σ H _ I h) λiv s1 ⟨y,H1,I1,ry,q1⟩=>thn (ho pins s1 σ H1 _ I1 q1) λu s2 ⟨x,H2,I2,rx,a,ov,ex,g,q2⟩=>?_;subst ex;obtain rfl:u=Value.ref a:=rx;exact qu5 hu I2 g ry λs3 I3=>⟨.bl ov.isSome,H2,I3,rfl,q2⟩
theorem Am (hu:X.A.units+1 < cLine)(hi:PE X i ty)(ho:PE X o td):PC X .NotIn i o (Vr ty td):=by
 intro pins s σ H Q I h;refine thn (hi pins s σ H _ I h) λiv s1 ⟨y,H1,I1,ry,q1⟩=>thn (ho pins s1 σ H1 _ I1 q1) λu s2 ⟨x,H2,I2,rx,a,ov,ex,g,q2⟩=>?_;subst ex;obtain rfl:u=Value.ref a:=rx;exact Wz hu I2 g ry λs3 I3=>⟨.bl (!ov.isSome),H2,I3,rfl,q2⟩
theorem Cr (hu:X.A.units+1 < cLine)(ho:PE X o td)(hi:PE X i ty)(hv:PE X value tv)(hs:swapsWith value (some (.Subscript o i pos')) pos.line X.env=pure false) :
  PS X (.Assign [.Subscript o i pos'] value pos) (ql0 td ty tv):=by
 intro pins s σ H D I h;refine wpAny_Assign_Subscript (thn (hv pins s σ H _ I h) λr s1 ⟨v,H1,I1,rv,q1⟩=>thn (ho pins s1 σ H1 _ I1 q1) λu s2 ⟨x,H2,I2,rx,q2⟩=>thn (hi pins s2 σ H2 _ I2 q2) λiv s3 ⟨y,H3,I3,ry,a,H4,ex,g,q3⟩=>?_) hs;subst ex;obtain rfl:u=Value.ref a:=rx;exact Nt hu I3 g ry rv λs4 I4=>⟨σ,H4,I4,q3⟩
end
theorem Fx (h:Heap)(hb:sysModules < h.objs.size):dP P w H (h.push { cls:=.type "dict",data:=.dict #[] }) h.objs.size (.dK []):=
 ⟨Nat.zero_le _,beq_eq_false_iff_ne.mpr (Ne.symm (Nat.ne_of_lt hb)),[],.nil,Heap.DictOf.new h⟩
def qc4:TE:=λ_ H Q=>∀p,H p=none->Q (.ref p) (upd H p (.dK []))
section
variable {X:Cx} {pos:Pos}
theorem Ec:PE X (.Dict [] [] pos) qc4:=λpins s σ H Q I h=>
 wpAny_Dict_empty ⟨.ref s.heap.objs.size,_,I.laid (a:=s.heap.objs.size) (o:=.dK []) (t':=s.toks) (λ_ _ q=>Heap.get?_push_of_some _ q) (Nat.le_refl _) (Fx s.heap I.big),rfl,h _ (I.hok.fresh (Nat.le_refl _))⟩
end
def Id:List (TE × TE)->St->Hp->(List (V × V)->Hp->Prop)->Prop
 | [],_,H,Q=>Q [] H
 | (tk,tv) :: r,σ,H,Q=>tk σ H λx H1=>tv σ H1 λy H2=>Id r σ H2 λps H3=>Q ((x,y) :: ps) H3
abbrev VV:List (V × V)->List (Value × Value)->Prop:=Paired λp q=>cN p.1 q.1/\cN p.2 q.2
def PPs (X:Cx)(pos:Pos)(keys:List (Option Expr))(values:List Expr)(trs:List (TE × TE)):Prop:=
 ∀(pins:List (Addr × Obj)) (s:Shared) (σ:St) (H:Hp) (Q:List (V × V)->Hp->Prop),Inv X pins σ H s->Id trs σ H Q->
  zzW X (evalPairs (pairTrees keys values X.env pos)) (λvs s'=>∃ps H',Inv X pins σ H' s'/\VV ps vs/\Q ps H') X.xe s
theorem Kl:PPs X pos [] [] []:=λpins s σ H Q I h=>pairTrees_nil_walk ⟨[],H,I,.nil,h⟩
theorem oJ (hk:PE X k tk)(hv:PE X v tv)(hr:PPs X pos ks vs trs):
  PPs X pos (some k :: ks) (v :: vs) ((tk,tv) :: trs):=λpins s σ H Q I h=>
 pairTrees_cons_walk (thn (hk pins s σ H _ I h) λu s1 ⟨x,H1,I1,rx,q1⟩=>thn (hv pins s1 σ H1 _ I1 q1) λw2 s2 ⟨y,H2,I2,ry,q2⟩=>
  thn (hr pins s2 σ H2 _ I2 q2) λws s3 ⟨ps,H3,I3,rel,q3⟩=>⟨(x,y) :: ps,H3,I3,.cons ⟨rx,ry⟩ rel,q3⟩)
def kS (kvs more:List (Key × V)):List (Key × V):=more.foldl (λacc kv=>mU acc kv.1 kv.2) kvs
theorem KV.merge:∀{more:List (Key × V)} {rs:List (Key × Value)} {kvs:List (Key × V)} {vs:List (Key × Value)},KV more rs->KV kvs vs->KV (kS kvs more) (merged vs rs):=by
 intro more rs kvs vs r;unfold KV at r
 induction r generalizing kvs vs with
 |nil=>intro q;exact q
 | @cons p q ps qs h t ih=>
  intro r0;have e:KV (mU kvs p.1 p.2) (stored vs q.1 q.2):=by
   have:=r0.put p.1 h.2;rw[<- h.1];exact this
  exact ih e
theorem pN:∀(more kvs:List (Key × V)),(kS kvs more).length<=kvs.length+more.length
 | [],kvs=>by show kvs.length<=kvs.length+0;lia
 |p :: r,kvs=>by
  have h1:=pN r (mU kvs p.1 p.2);have h2:=oI kvs p.1 p.2;show (kS (mU kvs p.1 p.2) r).length<=_;rw[length_cons];lia
theorem wI:∀{kvs:List (Key × V)} {ws:List (Value × Value)},VV (kvs.map λkv=>(kV kv.1,kv.2)) ws->∃rs,Carries (fH P w) ws rs/\KV kvs rs
 | [],_,r=>by rw[map_nil] at r;cases r;exists [],True.intro,.nil
 |p :: kvs,_,r=>by
  rw[map_cons] at r
  cases r with
  | @cons a b as bs h t=>
   obtain⟨rs,c,q⟩:=wI (P:=P) (w:=w) t;obtain⟨b1,b2⟩:=b;exists (p.1,b2) :: rs,⟨yC h.1,rfl,c⟩,.cons ⟨rfl,h.2⟩ q
def qr4 (trs:List (TE × TE)):TE:=λσ H Q=>∀p,H p=none->Id trs σ (upd H p (.dK [])) λps H2=>H2 p=some (.dK [])/\∃kvs:List (Key × V),ps=kvs.map (λkv=>(kV kv.1,kv.2))/\kvs.length<=15/\Q (.ref p) (upd H2 p (.dK (kS [] kvs)))
theorem Kt (h:PPs X pos keys values trs)(hall:keys.all (·.isSome)=true)(hl:keys.length=values.length)(h0:keys≠[])(h15:keys.length<=15):PE X (.Dict keys values pos) (qr4 trs):=by
 intro pins s σ H Q I q;have hn:=I.hok.fresh (Nat.le_refl s.heap.objs.size);have I1:=I.laid (a:=s.heap.objs.size) (o:=.dK []) (h':=s.heap.push { cls:=.type "dict",data:=.dict #[] }) (t':=s.toks) (λ_ _ q=>Heap.get?_push_of_some _ q) (Nat.le_refl _) (Fx s.heap I.big);refine wpAny_Dict_walk (knd:=fH X.prog X.w) hall hl h0 h15 (thn (h pins _ σ _ _ I1 (q _ hn)) λws s2 ⟨ps,H2,I2,rel,e,kvs,ep,lk,q2⟩=>?_);subst ep;obtain⟨rs,c,rk⟩:=wI (P:=X.prog) (w:=X.w) rel;obtain⟨z,hd,vs0,r0,dd⟩:=qa2 I2.hok e
 cases r0
 exists rs,c,dd,λh' dd' hs=>⟨.ref s.heap.objs.size,_,?_,rfl,q2⟩;have hz:(kS [] kvs).length<=sizeLine:=by
  have h1:=pN kvs [];rw[length_nil] at h1;rw[sizeLine_eq];lia
 have he:∃q,h'.get? s.heap.objs.size=some q:=let ⟨q,_,_,hq,_⟩:=dd';⟨q,hq⟩
 exact Dk I2 (by rw[e];exact True.intro) hs he (Ul hz hd (rk.merge .nil) dd')
structure M1 (X:Cx) (o:Expr) (m:Str) (apos:Pos) (e:Expr) (cpos:Pos):Prop where
 base:attributeBase o m X.env (eval o X.env)=eval o X.env
 few:((backTo cpos (starEach [e] X.env)).all (λx=>!x.1) && (backToKw cpos (keywordEach [] X.env)).all (λx=>x.1.isSome)
  && decide (([e]:List Expr).length+([]:List Keyword).length+(if ([]:List Keyword).isEmpty then 0 else 1) < 30))=true
 line:(apos.endLine == cpos.line)=true
 trees:backTo cpos (starEach [e] X.env)=[(false,eval e X.env)]
def IsD (H:Hp)(a:Addr):Prop:=(∃kvs,Rd H a (.dK kvs))\/∃kvs,Rd H a (.dT kvs)
theorem qh8 (I:Inv X pins σ H s)(d:IsD H a):
  s.TypeIs (.ref a) "dict"/\(∀b,Value.ref a=.ref b->∃ob,s.heap.get? b=some ob/\ob.dict=none)/\(a == sysModules)=false:=by
 rcases d with ⟨kvs,e⟩ | ⟨kvs,e⟩
 .obtain⟨_,hd,vs,_,dd⟩:=uK I.hok e;exists dd.typeIs,λb q=>?_,hd
  cases q
  obtain⟨ob,_,_,h1,h2,_⟩:=dd;exists ob,h1,h2.2.1
 .obtain⟨_,hd,xs,_,dd⟩:=wN I.hok e;exists dd.typeIs,λb q=>?_,hd
  cases q
  obtain⟨ob,_,_,h1,h2,_⟩:=dd;exists ob,h1,h2.2.1
section
variable {X:Cx} {pins:List (Addr × Obj)} {σ:St} {H:Hp} {s:Shared} {a:Addr} {y d:V} {u r:Value} {o:Option V} {A:Around} {E:Value->Shared->Prop}
theorem qe0 (hu:A.units+1 < cLine)(I:Inv X pins σ H s)(g:jN H a y o)(ry:cN y u)(h:∀w' s',Inv X pins σ H s'->cN (o.getD .non) w'->Q w' s'):
  wpAny (model X.prog X.w) A (call (.builtin "dict.get") [.ref a,u]) Q E s:=by
 rcases g with ⟨kvs,k,e,ey,l⟩ | ⟨kvs,k,b,e,ey,eb,l⟩
 .subst ey;obtain⟨z,hd,vs,rel,dd⟩:=uK I.hok e;refine call_meetsIn PySem.F.slot_dict_get dd.typeIs PySem.F.entry_dict_get (PySem.F.args_dict_get_2 _ _) (meets_dict_get (fH X.prog X.w) a (yC ry) hd) ⟨_,dd.mapOf,h _ _ (I.tok _) ?_⟩;rw[l];exact(rel.val k).getD rfl
 .subst ey
  cases (show u=Value.ref b from ry)
  obtain⟨z,hd,xs,rel,dd⟩:=wN I.hok e;refine call_meetsIn PySem.F.slot_dict_get dd.typeIs PySem.F.entry_dict_get (PySem.F.args_dict_get_2 _ _) (meetsH_dict_get (tupleKind (fH X.prog X.w)) a b hd) ⟨tupleKind_room_in1 hu,k,xs,tG I.hok eb,dd,h _ _ (I.tok _) ?_⟩;rw[l];exact(rel.val k).getD rfl
end
def qg4 (td ty:TE):TE:=λσ H Q=>td σ H λx H1=>∃a,x=.ref a/\IsD H1 a/\ty σ H1 λy H2=>∃o,jN H2 a y o/\Q (o.getD .non) H2
section
variable {X:Cx} {o e f:Expr} {apos cpos:Pos} {td ty tx:TE}
theorem Rt (hu:X.A.units+1 < cLine)(ho:PE X o td)(he:PE X e ty)(m:M1 X o "get" apos e cpos):PE X (.Call (.Attribute o "get" apos) [e] [] cpos) (qg4 td ty):=by
 intro pins s σ H Q I h;refine wpAny_Call_method m.base m.few m.line PySem.F.plainAttrs_dict PySem.F.slot_dict_get PySem.F.type_dict_get (thn (ho pins s σ H _ I h) λu s1 ⟨x,H1,I1,rx,a,ex,d,q1⟩=>?_);subst ex;obtain rfl:u=Value.ref a:=rx;obtain⟨t1,t2,_⟩:=qh8 I1 d;exists t1,t2,?_;rw[m.trees];refine Calls.callWith_builtin rfl (Calls.evalArgs_plain (Calls.spliced_cons (thn (he pins s1 σ H1 _ I1 q1) λiv s2 ⟨y,H2,I2,ry,ov,g,q2⟩=>Calls.spliced_nil ?_)));exact qe0 hu I2 g ry λw' s3 I3 rw'=>⟨_,H2,I3,rw',q2⟩
end
section
variable {X:Cx}
theorem zV:lQ X (.builtin "len") (λxs H Q=>∃a kvs,xs=[V.ref a]/\H a=some (.dK kvs)/\Q (.int kvs.length) H):=by
 intro pins s σ H xs us Q I r h;obtain⟨a,kvs,rfl,ha,q⟩:=h;obtain⟨u,rfl,ru⟩:=rT r
 cases ru
 exact qo2 I (.inl ha) λt s' I'=>⟨.int kvs.length,H,I',⟨t,rfl⟩,q⟩
end
def pK:Kd->Q2->Q2->Q2->Q2
 | .pc,u,_,p=>mP u p
 | .pu,_,_,p=>p
 | .ho,_,v,_=>v
theorem yF:∀ns:List Int,PyData.depthAll (ns.map PyData.int)<=1
 | []=>by simp[PyData.depthAll]
 |n :: r=>by
  have b:=yF r;simp only[map_cons,PyData.depthAll,PyData.depth];lia
theorem qf8 {K:Frag}{ns:List Int}(h1:SqL K H a (ns.map V.int))(h2:SqL K H b (ns.map V.int))(z:Q (.bl (!neg)) H):Nw K neg (.ref a) (.ref b) H Q:=
 Td (d:=.list (ns.map PyData.int)) (.lst h1 (yB ns)) (.lst h2 (yB ns)) (Fp ns) (by have:=yF ns;simp only[PyData.depth];lia) z
theorem Fq.mod {K:Frag}(l:K.lookup a=some ⟨.type "tuple",d,.seq #[.int i t,.int j u] n,sl⟩)(H:Hp):Fq K H a (i,j):=
 .inr ⟨_,_,_,l,rfl,rfl,(zl9 2),.cons ⟨_,rfl⟩ (.cons ⟨_,rfl⟩ .nil)⟩
abbrev RD:=Kd × Int × Int × Q2
inductive Rts (K:Frag) (H:Hp):wk->List RD->Prop where
 |nil:Rts K H [] []
 |cons {t z:Addr} {k:Kd} {i j:Int} {p:Q2} {xs:wk} {ds:List RD} (h:SqT K H t [.str k.wd,.int i,.int j,.ref z]) (f:Fq K H z p) (q:Rts K H xs ds):Rts K H (.ref t :: xs) ((k,i,j,p) :: ds)
section
variable {K:Frag} {H H':Hp}
theorem Rts.same (e:aX H H'):∀{xs:wk} {ds:List RD},Rts K H xs ds->Rts K H' xs ds
 |_,_,.nil=>.nil
 |_,_,.cons h f q=>.cons (e.seqT h) (e.fq f) (Rts.same e q)
theorem Rts.length:∀{xs:wk} {ds:List RD},Rts K H xs ds->xs.length=ds.length
 |_,_,.nil=>rfl
 |_,_,.cons _ _ q=>by simp[Rts.length q]
theorem Rts.app:∀{xs ys:wk} {ds es:List RD},Rts K H xs ds->Rts K H ys es->Rts K H (xs++ys) (ds++es)
 |_,_,_,_,.nil,r=>r
 |_,_,_,_,.cons h f q,r=>.cons h f (Rts.app q r)
theorem Rts.at:∀{xs:wk} {ds:List RD} {q:Nat} {d:RD},Rts K H xs ds->ds[q]?=some d->∃t z,xs[q]?=some (.ref t)/\SqT K H t [.str d.1.wd,.int d.2.1,.int d.2.2.1,.ref z]/\Fq K H z d.2.2.2
 |_,_,_,_,.nil,h=>by simp at h
 |_,_,0,_,.cons h f _,e=>by simp at e;subst e;exists _,_,rfl,h,f
 |_,_,i+1,_,.cons _ _ q,e=>by simpa using Rts.at q (by simpa using e)
theorem Rts.set (h:SqT K H t [.str k.wd,.int i,.int j,.ref z])(f:Fq K H z p):∀{xs:wk} {ds:List RD} (q:Nat),Rts K H xs ds->Rts K H (xs.set q (.ref t)) (ds.set q (k,i,j,p))
 |_,_,_,.nil=>.nil
 |_,_,0,.cons _ _ q=>.cons h f q
 |_,_,n+1,.cons a b q=>.cons a b (Rts.set h f n q)
theorem Rts.upd (hl:H l=some (.lst ys)):∀{xs:wk} {ds:List RD},Rts K H xs ds->Rts K (L2.upd H l o) xs ds
 |_,_,.nil=>.nil
 |_,_,.cons h f q=>.cons (h.upd hl) (f.upd hl) (Rts.upd hl q)
def rdd (d:RD):PyData:=rd4 d.1.wd d.2.1 d.2.2.1 d.2.2.2
theorem Rts.dat:∀{xs:wk} {ds:List RD},Rts K H xs ds->xH K H xs (ds.map rdd)
 |_,_,.nil=>.nil
 |_,_,.cons h f q=>.cons (Vx h f) (Rts.dat q)
theorem Eb:∀ds:List RD,PyData.canLayAll0 (ds.map rdd)=true
 | []=>rfl
 |d :: r=>by
  show ((rdd d).canLay0 && PyData.canLayAll0 (r.map rdd))=true;rw[Eb r,show (rdd d).canLay0=true from Xs (Kd.lay _) _ _ _];rfl
theorem yR:∀ds:List RD,PyData.depthAll (ds.map rdd)<=3
 | []=>by simp[PyData.depthAll]
 |d :: r=>by
  have b:=yR r;have a:(rdd d).depth<=3:=by simp[rdd,rd4,qd,PyData.depth,PyData.depthAll]
  simp only[map_cons,PyData.depthAll];lia
theorem qg6 (h1:SqL K H a xs)(h2:SqL K H b ys)(f1:Rts K H xs ds)(f2:Rts K H ys ds)(z:Q (.bl (!neg)) H):Nw K neg (.ref a) (.ref b) H Q:=
 Td (d:=.list (ds.map rdd)) (.lst h1 f1.dat) (.lst h2 f2.dat) (Eb ds) (by have:=yR ds;simp only[PyData.depth];lia) z
end
def cH (l:Addr)(H H':Hp):Prop:=∀b o,H b=some o->b≠l->H' b=some o
theorem aX.x (s:aX H H'):cH l H H':=λb o h _=>s b o h
theorem cH.write (a:cH l H H1):cH l H (upd H1 l o):=λc u h n=>by rw[aV n];exact a c u h n
section
variable {K:Frag} {H H':Hp} {l:Addr}
theorem cH.seq (e:cH l H H')(n:a≠l)(h:SqL K H a xs):SqL K H' a xs:=by
 rcases h with (h | ⟨u,h⟩) | h
 .exact .inl (.inl (e _ _ h n))
 .exact .inl (.inr ⟨u,e _ _ h n⟩)
 .exact .inr h
theorem cH.seqT (hl:H l=some (.lst ys))(e:cH l H H')(h:SqT K H a xs):SqT K H' a xs:=by
 rcases h with (h | ⟨u,h⟩) | h
 .exact .inl (.inl (e _ _ h (gX h hl (λz=>by cases z))))
 .exact .inl (.inr ⟨u,e _ _ h (gX h hl (λz=>by cases z))⟩)
 .exact .inr h
theorem cH.rts (hl:H l=some (.lst ys))(e:cH l H H'):∀{xs:wk} {ds:List RD},Rts K H xs ds->Rts K H' xs ds
 |_,_,.nil=>.nil
 |_,_,.cons h f q=>.cons (e.seqT hl h) (e.seqT hl f) (cH.rts hl e q)
end
theorem fpk:¬(("point_count":Str) = "kept"):=by decide +kernel
def pL (m:Int)(l:Addr):List (Str × V):=gD "kept" (.ref l) (gD "point_count" (.int m) [])
theorem Gk (m:Int)(l:Addr):(pL m l).lookup ("point_count":Str)=some (.int m):=by
 unfold pL;rw[bY,if_neg fpk,bY,if_pos rfl]
theorem gY (m:Int)(l:Addr):(pL m l).lookup ("kept":Str)=some (.ref l):=by
 unfold pL;rw[bY,if_pos rfl]
theorem gQ (m:Int)(l:Addr){x:Str}(h1:¬x = "point_count")(h2:¬x = "kept"):(pL m l).lookup x=none:=by
 unfold pL;rw[bY,if_neg h2,bY,if_neg h1];rfl
def qM (m:Int)(d:RD):Prop:=0<=d.2.1/\d.2.1 < m/\0<=d.2.2.1/\d.2.2.1 < m/\Low d.2.2.2/\(d.1=.pc->0 < d.2.2.2.1)/\Bd 1000 d.2.2.2
structure fK (CN:Addr) (K:Frag) (H:Hp) (n l:Addr) (m:Int) (ds:List RD):Prop where
 ob:∃dx,H n=some (.ins CN dx (pL m l))
 ls:∃ts,H l=some (.lst ts)/\Rts K H ts ds
theorem fK.same {K:Frag}(e:aX H H')(h:fK CN K H n l m ds):fK CN K H' n l m ds:=
 let ⟨⟨dx,a⟩,ts,b,c⟩:=h;⟨⟨dx,e _ _ a⟩,ts,e _ _ b,c.same e⟩
structure NT (K:Frag) (mg:Str->Option Value) (CN:Addr):Prop where
 cl:Cls K CN
 nP:iN K CN "point_count"
 nK:iN K CN "kept"
 t1:W.findIn K (.ref CN) "__class__"=some (some (.builtin "object.__class__"))
 t2:W.specialIn K (.builtin "object.__class__") "__get__"=some (some (.builtin "getset_descriptor.__get__"))
 t3:W.takesIn K (.builtin "object.__class__")=some true
 t4:W.mroIn K CN (.type "object")=some true
 mN:mg "Net"=some (.ref CN)
inductive oV (K:Frag) (CK:Kd->Addr) (vs:wk) (H:Hp) (Q:VK) (E:XK):Prop where
 |mk (t:Addr) (v s g z:V) (_:vs=[.ref t]) (_:SqT K H t [v,s,g,z]) (k:Kd):v=.str k.wd->qv1 CK H Q k s g z->oV K CK vs H Q E
inductive Kz (K:Frag) (vs:wk) (H:Hp) (Q:VK) (E:XK):Prop where
 |mk (a:Addr) (p:Q2):vs=[.ref a]->Fq K H a p->Low p->Q (.bl true) H->Kz K vs H Q E
inductive qf2 (K:Frag) (vs:wk) (H:Hp) (Q:VK) (E:XK):Prop where
 |mk (a:Addr) (p:Q2) (n:Nat):vs=[.ref a]->Fq K H a p->Low p->0 < p.1->Bd n p->n<=8000->Q (.bl true) H->qf2 K vs H Q E
inductive Wv (vs:wk) (H:Hp) (Q:VK) (E:XK):Prop where
 |mk (i b:Int):vs=[.int i,.int b]->0<=i->i < b->Q (.bl true) H->Wv vs H Q E
inductive Yj (K:Frag) (vs:wk) (H:Hp) (Q:VK) (E:XK):Prop where
 |mk (k:Kd) (z:Addr) (p:Q2):vs=[.str k.wd,.ref z]->Fq K H z p->Low p->(k=.pc->0 < p.1)->Bd 1000 p->Q .non H->Yj K vs H Q E
inductive Bv (CN:Addr) (vs:wk) (H:Hp) (Q:VK) (E:XK):Prop where
 |mk (n dx:Addr) (m:Int):vs=[.ref n,.int m]->H n=some (.ins CN dx [])->1<=m->m<=20->(∀l H',H l=none->(∀b o,H b=some o->b≠n->H' b=some o)->H' n=some (.ins CN dx (pL m l))->H' l=some (.lst [])->Q .non H')->Bv CN vs H Q E
inductive xD (CN:Addr) (K:Frag) (vs:wk) (H:Hp) (Q:VK) (E:XK):Prop where
 |mk (n l:Addr) (m:Int) (ds:List RD):vs=[.ref n]->fK CN K H n l m ds->Q (.int m) H->xD CN K vs H Q E
inductive Cv (CN:Addr) (K:Frag) (vs:wk) (H:Hp) (Q:VK) (E:XK):Prop where
 |mk (n l:Addr) (m:Int) (ds:List RD):vs=[.ref n]->fK CN K H n l m ds->(∀a ts H',aX H H'->H a=none->H' a=some (.lst ts)->Rts K H' ts ds->Q (.ref a) H')->Cv CN K vs H Q E
inductive Mf (CN:Addr) (K:Frag) (CK:Kd->Addr) (vs:wk) (H:Hp) (Q:VK) (E:XK):Prop where
 |mk (n l x z:Addr) (m:Int) (ds:List RD) (k:Kd) (i j:Int) (p:Q2):vs=[.ref n,.ref x]->fK CN K H n l m ds->Rw CK H x k (.int i) (.int j) (.ref z)->Fq K H z p->qM m (k,i,j,p)->ds.length < 40->(∀H',cH l H H'->fK CN K H' n l m (ds++[(k,i,j,p)])->Q (.int ds.length) H')->Mf CN K CK vs H Q E
inductive wO (CN:Addr) (K:Frag) (vs:wk) (H:Hp) (Q:VK) (E:XK):Prop where
 |mk (n l z:Addr) (m q:Int) (ds:List RD) (k:Kd) (i j:Int) (p0 p:Q2):vs=[.ref n,.int q,.ref z]->fK CN K H n l m ds->0<=q->ds[q.toNat]?=some (k,i,j,p0)->Fq K H z p->Low p->(k=.pc->0 < p.1)->Bd 1000 p->(∀H',cH l H H'->fK CN K H' n l m (ds.set q.toNat (k,i,j,p))->Q .non H')->wO CN K vs H Q E
theorem rK (P:St->Hp->Prop)(h1:∀X:St->Hp->Prop,(∀σ' H',P σ' H'->X σ' H')->(a1) { D with nx:=X } σ H)(h2:∀σ' H',P σ' H'->u D σ' H'):(iD a1 (u)) D σ H:=h1 _ h2
theorem Yh (P:St->Hp->Prop)(h1:∀X:St->Hp->Prop,(∀σ' H',P σ' H'->X σ' H')->(iD a1 (a2)) { D with nx:=X } σ H)(h2:∀σ' H',P σ' H'->u D σ' H'):(iD a1 (iD a2 (u))) D σ H:=h1 _ h2
theorem qm9 (P:St->Hp->Prop)(h1:∀X:St->Hp->Prop,(∀σ' H',P σ' H'->X σ' H')->(iD a1 (iD a2 (a3))) { D with nx:=X } σ H)(h2:∀σ' H',P σ' H'->u D σ' H'):(iD a1 (iD a2 (iD a3 (u)))) D σ H:=h1 _ h2
theorem qq8 (P:St->Hp->Prop)(h1:∀X:St->Hp->Prop,(∀σ' H',P σ' H'->X σ' H')->(iD a1 (iD a2 (iD a3 (a4)))) { D with nx:=X } σ H)(h2:∀σ' H',P σ' H'->u D σ' H'):(iD a1 (iD a2 (iD a3 (iD a4 (u))))) D σ H:=h1 _ h2
theorem qu3 (P:St->Hp->Prop)(h1:∀X:St->Hp->Prop,(∀σ' H',P σ' H'->X σ' H')->(iD a1 (iD a2 (iD a3 (iD a4 (a5))))) { D with nx:=X } σ H)(h2:∀σ' H',P σ' H'->u D σ' H'):(iD a1 (iD a2 (iD a3 (iD a4 (iD a5 (u)))))) D σ H:=h1 _ h2
theorem Od (ns:List Int)(lo hi:Option Int):∃ms:List Int,kU (ns.map V.int) lo hi=ms.map V.int:=
 ⟨(ns.drop (HT.sIx (ns.map V.int).length 0 lo)).take (HT.sIx (ns.map V.int).length (ns.map V.int).length hi - HT.sIx (ns.map V.int).length 0 lo),by unfold kU;rw[map_take,map_drop]⟩
end L2
namespace Mq
def val (p:Q2):Rat:=(p.1:Rat) / (p.2:Rat)
theorem eE {b:Int}(h:b≠0):(b:Rat)≠0:=λe=>h (Rat.intCast_inj.mp (by simpa using e))
theorem Ir {p:Q2}(hp:p.2≠0)(hb:b≠0)(h:p.1*b=t*p.2):val p=(t:Rat) / (b:Rat):=by
 unfold val;have h1:=eE hp;have h2:=eE hb;have h3:(p.1:Rat)*(b:Rat)=(t:Rat)*(p.2:Rat):=by rw[<- Rat.intCast_mul,<- Rat.intCast_mul,h]
 grind
theorem kQ (hb:b≠0):val (red t b)=(t:Rat) / (b:Rat):=by
 have:=(jH (t:=t) hb).pos;exact Ir () hb (tS hb)
theorem Yw (hp:Low p)(hq:Low q)(h:val p=val q):p=q:=by
 refine Su hp hq ?_;have p1:=eE (show p.2≠0 by have:=hp.pos;lia);have q1:=eE (show q.2≠0 by have:=hq.pos;lia);unfold val at h;have:(p.1:Rat)*(q.2:Rat)=(q.1:Rat)*(p.2:Rat):=by grind
 rw[<- Rat.intCast_mul,<- Rat.intCast_mul] at this;exact Rat.intCast_inj.mp this
theorem yS (hp:1<=p.2)(hq:1<=q.2):val (iO p q)=val p+val q:=by
 have p1:=eE (show p.2≠0 by lia);have q1:=eE (show q.2≠0 by lia);unfold iO;rw[kQ (jE hp hq),Rat.intCast_add,Rat.intCast_mul,Rat.intCast_mul,Rat.intCast_mul];unfold val;grind
theorem rZ (hp:1<=p.2)(hq:1<=q.2):val (minus p q)=val p - val q:=by
 have p1:=eE (show p.2≠0 by lia);have q1:=eE (show q.2≠0 by lia);unfold minus;rw[kQ (jE hp hq),Rat.intCast_sub,Rat.intCast_mul,Rat.intCast_mul,Rat.intCast_mul];unfold val;grind
theorem Nf (hp:1<=p.2)(hq:1<=q.2):val (uG p q)=val p*val q:=by
 have p1:=eE (show p.2≠0 by lia);have q1:=eE (show q.2≠0 by lia);unfold uG;rw[kQ (jE hp hq),Rat.intCast_mul,Rat.intCast_mul];unfold val;grind
theorem Eh (hp:1<=p.2)(hq:1<=q.2)(h0:q.1≠0):val (mP p q)=val p / val q:=by
 have p1:=eE (show p.2≠0 by lia);have q1:=eE (show q.2≠0 by lia);have q2:=eE h0;unfold mP;rw[kQ (vX hp h0),Rat.intCast_mul,Rat.intCast_mul];unfold val;grind
theorem rM:val (0,1)=0:=by unfold val;simp;grind
theorem Zx:val (1,1)=1:=by unfold val;simp;grind
structure Ps (p:Q2):Prop where
 low:Low p
 pos:0 < p.1
theorem Yi (ht:0 < t)(hb:0 < b):0 < (red t b).1:=by
 have h1:=tS (t:=t) (b:=b) ();have h2:=(jH (t:=t) (b:=b) ()).pos;have h3:0 < t*(red t b).2:=Int.mul_pos ht ();rw[<- h1] at h3;exact Int.pos_of_mul_pos_left h3 ()
theorem qc1 (ht:0 < t)(hb:0 < b):Ps (red t b):=⟨jH (),Yi ht hb⟩
def Gv:List Rat->Rat
 | []=>0
 |x :: l=>x+Gv l
theorem zL:∀{l:List Q2} {p:Q2},1<=p.2->Pos l->val (l.foldl iO p)=val p+Gv (l.map val)
 | [],p,_,_=>by simp[Gv];grind
 |q :: l,p,hp,h=>by
  have hq:=h q ⋯;rw[foldl_cons,zL (jZ hp hq).pos (λf hf=>h f (mem_cons_of_mem _ hf)),yS hp hq];simp only[map_cons,Gv];grind
theorem Ln (h:Pos l):val (tot l)=Gv (l.map val):=by
 unfold tot;rw[zL ∅ h,rM];grind
def rs (n:Nat)(F:Nat->Rat):Rat:=match n with
 |0=>0
 |n+1=>rs n F+F n
theorem aR {F G:Nat->Rat}(h:∀i,i < n->F i=G i):rs n F=rs n G:=by
 induction n with
 |zero=>rfl
 |succ n ih=>simp only[rs];rw[ih (λi hi=>h i ()),h n ()]
theorem gC (n:Nat)(F G:Nat->Rat):rs n (λi=>F i+G i)=rs n F+rs n G:=by
 induction n with
 |zero=>simp[rs];grind
 |succ n ih=>simp only[rs];rw[ih];grind
theorem fM (n:Nat)(c:Rat)(F:Nat->Rat):rs n (λi=>c*F i)=c*rs n F:=by
 induction n with
 |zero=>simp[rs]
 |succ n ih=>simp only[rs];rw[ih];grind
theorem tY (n:Nat)(F:Nat->Rat):rs n (λi=>- F i)=- rs n F:=by
 induction n with
 |zero=>simp[rs]
 |succ n ih=>simp only[rs];rw[ih];grind
theorem eZ (n:Nat):rs n (λ_=>0)=0:=by
 induction n with
 |zero=>rfl
 |succ n ih=>simp only[rs];rw[ih];grind
theorem Cj (n k:Nat)(F:Nat->Rat):rs n (λi=>if k=i then F i else 0)=if k < n then F k else 0:=by
 induction n with
 |zero=>simp[rs]
 |succ n ih=>
  simp only[rs];rw[ih]
  by_cases h1:k < n
  .rw[if_pos h1,if_neg (),if_pos ()];grind
  .by_cases h2:k=n
   .subst h2;rw[if_neg h1,if_pos rfl,if_pos ()];grind
   .rw[if_neg h1,if_neg h2,if_neg ()];grind
abbrev z0:Q2:=(0,1)
abbrev Row:=Nat × Nat × Q2
theorem gK.pos (h:gK ls):Pos ls:=λp hp=>(h p hp).pos
def qC (L b:Int):Int:=Int.fdiv L (gc L b)*b
theorem qJ (hL:1<=L)(hb:1<=b):1<=qC L b/\(∃j,qC L b=L*j)/\(∃k,qC L b=k*b/\1<=k)/\qC L b<=L*b:=by
 have gp:0 < gc L b:=yM ();have d1:gc L b ∣ L:=by unfold gc;exact Int.gcd_dvd_left ..
 have d2:gc L b ∣ b:=by unfold gc;exact Int.gcd_dvd_right ..
 obtain⟨k,hk⟩:=d1;obtain⟨j,hj⟩:=d2;have ek:Int.fdiv L (gc L b)=k:=hJ () hk;have k1:1<=k:=by
  have:0 < gc L b*k:=by lia
  have:=Int.pos_of_mul_pos_right this ();lia
 unfold qC;rw[ek];exists ?_,⟨j,?_⟩,⟨k,rfl,k1⟩,?_
 .have:0 < k*b:=Int.mul_pos () ();lia
 .generalize gc L b=g at *
  rw[hk,hj];grind
 .have:k<=L:=by
   rw[hk];have:=Int.mul_le_mul_of_nonneg_right (show 1<=gc L b by lia) (show 0<=k by lia);lia
  exact Int.mul_le_mul_of_nonneg_right this ()
def dR (ps:List Q2):Int:=ps.foldl (λL p=>qC L p.2) 1
theorem Nl (ps:List Q2)(p:Q2):dR (ps++[p])=qC (dR ps) p.2:=by unfold dR;rw[foldl_append];rfl
theorem oY {ps:List Q2}(h:ps[i]?=some p):dR (ps.take (i+1))=qC (dR (ps.take i)) p.2:=by
 rw[take_add_one,h];exact Nl _ _
theorem pX (hp:Pos ps)(hb:∀p∈ps,Bd n p):∀i,i<=ps.length->1<=dR (ps.take i)/\B (1+n*i) (dR (ps.take i))/\∀p∈ps.take i,∃k,dR (ps.take i)=k*p.2
 |0,_=>⟨by show (1:Int)<=1;lia,show (1:Nat) < 2 ^ (1+n*0) by simp,λp h=>by simp at h⟩
 |i+1,hi=>by
  obtain⟨h1,h2,h3⟩:=pX hp hb i ();have e:ps[i]?=some ps[i]:=getElem?_eq_getElem ();have mem:ps[i]∈ps:=getElem_mem _;rw[oY e];obtain⟨l1,⟨j,l2⟩,⟨k,l3,l4⟩,l5⟩:=qJ h1 (hp _ mem);exists l1,?_,λp hpp=>?_
  .have:=h2.mul (hb _ mem).b;refine B.mono (n:=1+n*i+n) (this.le ?_) (by rw[Nat.mul_succ];lia);have h0:1<=ps[i].2:=hp _ mem;have:0<=dR (ps.take i)*ps[i].2:=Int.mul_nonneg () ();lia
  .rw[take_add_one,e] at hpp;rcases mem_append.mp hpp with z | z
   .obtain⟨q,hq⟩:=h3 p z;exists q*j,by rw[l2,hq];grind
   .have:p=ps[i]:=by simpa using z
    rw[this];exists k,l3
theorem vT (hp:Pos ps):1<=dR ps:=by
 have:∀(l:List Q2) (L:Int),1<=L->Pos l->1<=l.foldl (λL p=>qC L p.2) L:=λl=>by
  induction l with
  |nil=>intro L h _;exact h
  |cons p l ih=>intro L h q;exact ih _ (qJ h (q p ⋯)).1 λx hx=>q x (mem_cons_of_mem _ hx)
 exact this ps 1 () hp
def Gi (L:Int)(p:Q2):Int:=p.1*Int.fdiv L p.2
def iw (ps:List Q2):List Int:=ps.map (Gi (dR ps))
theorem Ug (h:1<=p.2)(e:L=k*p.2):((Gi L p:Int):Rat)=val p*(L:Rat):=by
 have e1:Int.fdiv L p.2=k:=hJ () (by rw[e,Int.mul_comm]);have n:=eE (show p.2≠0 by lia);unfold Gi val;rw[e1,e,Rat.intCast_mul,Rat.intCast_mul];grind
theorem yH (hp:Pos ps):∀p∈ps,∃k,dR ps=k*p.2:=λp hpp=>by
 have:∀(l:List Q2) (L:Int),1<=L->Pos l->(∃j,l.foldl (λL p=>qC L p.2) L=L*j)/\∀p∈l,∃k,l.foldl (λL p=>qC L p.2) L=k*p.2:=λl=>by
  induction l with
  |nil=>intro L h _;exists ⟨1,⋯⟩,λp h=>by simp at h
  |cons q l ih=>
   intro L h hq;obtain⟨l1,⟨j,l2⟩,⟨k,l3,l4⟩,l5⟩:=qJ h (hq q ⋯);obtain⟨⟨j2,i1⟩,i2⟩:=ih (qC L q.2) l1 λx hx=>hq x (mem_cons_of_mem _ hx);exists ⟨j*j2,by rw[foldl_cons,i1,l2];grind⟩,λp hp=>?_;rcases mem_cons.mp hp with rfl | hp
   .exists k*j2,by rw[foldl_cons,i1,l3];grind
   .exact i2 p hp
 exact(this ps 1 () hp).2 p hpp
def gU (X:List (List Q2)):Prop:=∀row∈X,Pos row
theorem xU (h:Pos row)(j:Nat):1<=(row.getD j z0).2:=by
 rw[getD_eq_getElem?_getD]
 cases e:row[j]? with
 |none=>exact Int.le_refl 1
 |some v=>exact h v (mem_of_getElem? e)
end Mq
open Mq (Cj Eh Gi Ps Zx aR dR eE eZ fM gC gU iw kQ pX rM rZ vT yH yS)
namespace L2
open PySem PySem.Spec PyProof.Rows
def Ite (K : Frag)(a : Addr) : It :=
  ⟨λi H => ∃ xs x, SqL K H a xs /\ xs[i]? = some x,
   λi H v H' => ∃ T x, v = .ref T /\ H T = none /\ H' = upd H T (.tup [.int (i : Int), x]) /\ ∀ xs, SqL K H a xs -> xs[i]? = some x,
   λi H => ∃ xs, SqL K H a xs /\ xs.length <= i⟩
def qi9 (e it l:Addr)(i:Nat)(h:Heap):Prop:=e≠it/\(∃old,IsEnum h e it (i:Int) old)/\h.IsListIter it l i
theorem Nv {K:Frag}(e it l:Addr):
  Pf P w K (.Tuple elts kk tpos) (Ite K l) [e,it] e (qi9 e it l) where
 mem:=by simp
 obj:=λi h st b hb=>by
  obtain⟨ne,⟨old,he⟩,⟨o1,e1,c1,d1⟩⟩:=st;simp only[mem_cons,not_mem_nil,or_false] at hb;rcases hb with rfl | rfl
  .exists _,he,λv q=>by cases q
  .exists o1,e1,λv q=>by rw[d1] at q;cases q
 keep:=λi h h' st k=>by
  obtain⟨ne,⟨old,he⟩,⟨o1,e1,c1,d1⟩⟩:=st;exists ne,⟨old,k _ ⋯ _ he⟩,⟨o1,k _ ⋯ _ e1,c1,d1⟩
 item:=by
  intro X hP hw hK hc i pins s σ H E I hf st hg;subst hP hw hK;obtain⟨ne,⟨old,he⟩,t1⟩:=st;obtain⟨xs,x,hx,ex⟩:=hg;obtain⟨its1,rv1,p1,z1⟩:=I.list hx;obtain⟨u1,hu1,ru1⟩:=rv1.get ex;refine wpAny_pyNext_enum_item he t1 p1.isList (x:=u1) (by simpa using hu1) ne λh' g1 g2 g3 g4 kk'=>?_;have hn:H s.heap.objs.size=none:=I.hok.fresh (Nat.le_refl _);have lt:∀b∈[e,it],b < s.heap.objs.size:=λb hb=>by
   simp only[mem_cons,not_mem_nil,or_false] at hb;obtain⟨o1,e1,_⟩:=t1;rcases hb with rfl | rfl
   .exact Heap.lt_size he
   .exact Heap.lt_size e1
  have I1:Inv X pins σ (upd H s.heap.objs.size (.tup [.int (i:Int),x])) { s with heap:=s.heap.push { cls:=.type "tuple",data:=.seq #[.int i s.toks,u1] },toks:=s.toks+1 }:=
   I.laid (t':=s.toks+1) (λb o e=>Heap.get?_push_of_some _ e) (Nat.le_refl _) (show dP X.prog X.w _ _ _ (.tup [.int (i:Int),x]) from ⟨zl9 2,[.int i s.toks,u1],.cons ⟨_,rfl⟩ (.cons ru1 .nil),IsTup.new _ _⟩)
  have hf1:∀b∈[e,it],pH X pins (upd H s.heap.objs.size (.tup [.int (i:Int),x])) b:=λb hb=>⟨by rw[aV (Nat.ne_of_lt (lt b hb))];exact(hf b hb).1,(hf b hb).2⟩
  have k1:∀b o,b∉[e,it]->(s.heap.push { cls:=.type "tuple",data:=.seq #[.int i s.toks,u1] }).get? b=some o->h'.get? b=some o:=λb o nb e=>by
   simp only[mem_cons,not_mem_nil,or_false,not_or] at nb
   by_cases hb:b=s.heap.objs.size
   .subst hb;rw[Heap.get?_push_size _ rfl] at e
    cases e
    exact g3
   .have e0:s.heap.get? b=some o:=by rw[Heap.get?_push_ne _ _ _ hb] at e;exact e
    exact kk' b o nb.1 nb.2 e0
  have I2:Inv X pins σ (upd H s.heap.objs.size (.tup [.int (i:Int),x])) { s with heap:=h',toks:=s.toks+1 }:=Inv.turnedL (s:={ s with heap:=s.heap.push { cls:=.type "tuple",data:=.seq #[.int i s.toks,u1] },toks:=s.toks+1 }) (t':=s.toks+1) I1 k1 hf1;exists _,rfl,wpAny_letOwnedTupleGo_enum (s:={ s with heap:=h',toks:=s.toks+1 }) g1 λh2 q1 q2=>?_;have kz:∀b o,b≠e->h'.get? b=some o->h2.get? b=some o:=λb o nb e=>(q2.2 b nb).trans e;have I3:Inv X pins σ (upd H s.heap.objs.size (.tup [.int (i:Int),x])) { s with heap:=h2,toks:=s.toks+1 }:=Inv.turnedL (s:={ s with heap:=h',toks:=s.toks+1 }) (t':=s.toks+1) (fp:=[e]) I2 (λb o nb e=>kz b o (by simpa using nb) e) λb hb=>hf1 b (by simp at hb;simp[hb]);obtain⟨o3,e3,c3,d3⟩:=g2;exists .ref s.heap.objs.size,_,I3,rfl,⟨_,x,rfl,hn,rfl,λxs' h1=>?_⟩,⟨ne,⟨_,q1⟩,⟨o3,kz _ _ ne.symm e3,c3,d3⟩⟩,λb hb=>(hf1 b hb).1;rw[I.list_inj h1 hx];exact ex
 done:=by
  intro X hP hw hK hc i pins s σ H E I hf st hg;subst hP hw hK;obtain⟨ne,⟨old,he⟩,t1⟩:=st;obtain⟨xs,hx,hor⟩:=hg;obtain⟨its1,rv1,p1,z1⟩:=I.list hx;have l1':=rv1.length;refine wpAny_pyNext_enum_end (I.ok.hd hc) he t1 p1.isList (by simp;lia) λh' kk'=>⟨rfl,?_⟩
  refine I.turnedL (t':=s.toks) (λb o nb e=>?_) hf;simp only[mem_cons,not_mem_nil,or_false,not_or] at nb;exact kk' b o nb.2 e
 self:=λA i s Q E st h=>by
  obtain⟨ne,⟨old,he⟩,t1⟩:=st;exact wpAny_pyIter_enum he h
section
variable {X:Cx}
def ql8 (K:Frag)(ta:TA):TI:=λσ H R=>ta σ H λvs H1=>∃a,vs=[.ref a]/\(∃xs,SqL K H1 a xs)/\R (Ite K a) H1
theorem vI (hg:Gl X "enumerate")(hm:X.mg "enumerate"=none)(hv:bootBuiltins "enumerate"=some (.type "enumerate"))(ha:PA X [e1] ta)(hs:starEach [e1] X.env=(false,eval e1 X.env) :: starEach [] X.env:=by rfl)(hpl:(backTo pos (starEach [] X.env)).any (·.1)=false:=by rfl):PI X (.Tuple elts kk tpos) (.Call (.Name "enumerate" p) [e1] [] pos) (ql8 X.K ta):=by
 intro pins s σ H R I h;refine Call_ (kZ I hg hm hv (PyProof.Rows.callWith_type1 (thn (ha pos pins s σ H _ I h) λus s1 ⟨vs,H1,I1,r1,q1⟩=>?_) hs hpl));obtain⟨a,rfl,⟨xs,hx⟩,q⟩:=q1;obtain⟨u,rfl,ra⟩:=rT r1
 cases (show u=Value.ref a from ra)
 obtain⟨its1,rv1,p1,z1⟩:=I1.list hx;have la:a < s1.heap.objs.size:=by obtain⟨o,e,_⟩:=p1.isList;exact Heap.lt_size e
 refine call_enumerate_list p1.isList λh' g1 g2 g3 kk'=>?_;refine wpAny_pyIter_enum g1 ?_;exists s1.heap.objs.size+1,[s1.heap.objs.size+1,s1.heap.objs.size],_,Ite X.K a,H1,rfl,I1.kept (t':=s1.toks) kk',Nv _ _ a,⟨?_,⟨_,g1⟩,g2⟩,λc hc=>?_,q
 .exact Nat.succ_ne_self _
 .have hle:s1.heap.objs.size<=c:=by
   simp only[mem_cons,not_mem_nil,or_false] at hc;rcases hc with rfl | rfl<;>first | exact Nat.le_add_right _ _ | exact Nat.le_refl _
  exact I1.fpOk hle (I1.hok.fresh hle)
theorem Ea {K:Frag}{g:TG}{tb:TS}{D:kE}(Pv:Nat->St->Hp->Prop)(h0:Pv 0 σ H)(hl:∀i σ H,i<=xs.length->Pv i σ H->SqL K H a xs)(hs:∀i x σ H T,xs[i]?=some x->Pv i σ H->H T=none->g (.ref T) σ (upd H T (.tup [.int (i:Int),x])) λσ2 H2=>tb { D with nx:=Pv (i+1),ct:=Pv (i+1),bk:=D.nx } σ2 H2)(hd:∀σ H,Pv xs.length σ H->D.nx σ H):
  ∃W:Nat->Nat->St->Hp->Prop,(∃m,W 0 m σ H)/\∀i m σ H,W i m σ H->
   ((Ite K a).stop i H/\D.nx σ H)\/((Ite K a).go i H/\∃N:St->Hp->Prop,(∀σ' H',N σ' H'->∃m',m' < m/\W (i+1) m' σ' H')/\∀x H',(Ite K a).yld i H x H'->g x σ H' λσ2 H2=>tb { D with nx:=N,ct:=N,bk:=D.nx } σ2 H2):=by
 exists λi m σ H=>m=xs.length - i/\i<=xs.length/\Pv i σ H,⟨_,rfl,Nat.zero_le _,h0⟩,?_;rintro i m σ H ⟨rfl,hi,p⟩;have qx:=hl i σ H hi p
 by_cases hlt:i < xs.length
 .refine .inr ⟨⟨xs,xs[i],qx,by simp[hlt]⟩,Pv (i+1),λσ' H' p'=>⟨xs.length - (i+1),(),rfl,hlt,p'⟩,λv H' z=>?_⟩;obtain⟨T,x,rfl,hT,rfl,hh⟩:=z;exact hs i x σ H T (hh xs qx) p hT
 .have e:i=xs.length:=by lia
  subst e;exact .inl ⟨⟨xs,qx,Nat.le_refl _⟩,hd σ H p⟩
theorem zQ {K:Frag}(Pv:Nat->wk->Hp->Prop)(h0:Pv 0 [] (upd H1 D (.lst [])))(hl:∀i zs H,Pv i zs H->H D=some (.lst zs))(hx:∀i zs H,i<=xs.length->Pv i zs H->SqL K H a xs)(hs:∀i zs x H T,xs[i]?=some x->Pv i zs H->H T=none->∀(C:Nat->wk->Hp->Prop),(∀zs H,Pv (i+1) zs H->C (i+1) zs H)->Kk nl fr g tt te σ D C i zs (.ref T) (upd H T (.tup [.int (i:Int),x])))(hd:∀zs H,Pv xs.length zs H->Q (.ref D) H):
  xL (Ite K a) nl fr g tt te σ D H1 Q:=by
 exists λi m zs H=>m=xs.length - i/\i<=xs.length/\Pv i zs H,⟨_,rfl,Nat.zero_le _,h0⟩,?_;rintro i m zs H ⟨rfl,hi,p⟩;exists hl i zs H p,?_;have qx:=hx i zs H hi p
 by_cases hlt:i < xs.length
 .refine .inr ⟨⟨xs,xs[i],qx,by simp[hlt]⟩,λv H' z=>?_⟩;obtain⟨T,x,rfl,hT,rfl,hh⟩:=z;exact hs i zs x H T (hh xs qx) p hT (λj zs Hz=>∃m',m' < xs.length - i/\m'=xs.length - j/\j<=xs.length/\Pv j zs Hz) λzs Hz z=>⟨xs.length - (i+1),(),rfl,hlt,z⟩
 .have e:i=xs.length:=by lia
  subst e;exact .inl ⟨⟨xs,qx,Nat.le_refl _⟩,hd zs H p⟩
end
end L2
namespace Shp
open PySem L2
theorem Cc {t b:Int}(h:0 < b):dvr t b=gc t b:=by unfold dvr;rw[if_neg ()]
inductive Fmx (K:Frag) (D:Addr) (H:Hp):wk->List (List Q2)->Prop where
 |nil:Fmx K D H [] []
 |cons {u:Addr} {xs:wk} {ps:List Q2} {us:wk} {X:List (List Q2)} (ne:u≠D) (h:SqL K H u xs) (f:Fqs K H xs ps) (q:Fmx K D H us X):Fmx K D H (.ref u :: us) (ps :: X)
theorem Fmx.same (e:aX H H'):∀{xs:wk} {X:List (List Q2)},Fmx K D H xs X->Fmx K D H' xs X
 |_,_,.nil=>.nil
 |_,_,.cons n h f q=>.cons n (e.seq h) (f.same e) (q.same e)
theorem Fmx.length:∀{xs:wk} {X:List (List Q2)},Fmx K D H xs X->xs.length=X.length
 |_,_,.nil=>rfl
 |_,_,.cons _ _ _ q=>by rw[length_cons,length_cons,q.length]
theorem Fmx.get:∀{xs:wk} {X:List (List Q2)} {i:Nat} {x:V},Fmx K D H xs X->xs[i]?=some x->∃u ys ps,x=.ref u/\X[i]?=some ps/\SqL K H u ys/\Fqs K H ys ps
 |_,_,0,_,.cons n h f q,e=>by simp at e;exists _,_,_,e.symm,rfl,h,f
 |_,_,i+1,_,.cons n h f q,e=>by simp at e;exact q.get e
def wh (row:List Q2):List Int × Int:=(iw row,dR row)
end Shp
namespace Mq
def skip (j k:Nat):Nat:=if k < j then k else k+1
def sgn (n:Nat):Rat:=if n % 2=0 then 1 else -1
theorem xM (n:Nat):sgn (n+1)=- sgn n:=by
 unfold sgn;rcases Nat.mod_two_eq_zero_or_one n with h | h
 .rw[if_neg (),if_pos h]
 .rw[if_pos (),if_neg ()];grind
abbrev Mat:=Nat->Nat->Rat
def det:Nat->Mat->Rat
 |0,_=>1
 |n+1,M=>rs (n+1) λj=>sgn (n+j)*M n j*det n λi k=>M i (skip j k)
theorem hV (n:Nat)(M:Mat):det (n+1) M=rs (n+1) λj=>sgn (n+j)*M n j*det n λi k=>M i (skip j k):=rfl
theorem Vw (hk:k < n):skip j k < n+1:=by unfold skip;split<;>lia
theorem dH:∀{n:Nat} {M N:Mat},(∀i j,i < n->j < n->M i j=N i j)->det n M=det n N
 |0,_,_,_=>rfl
 |n+1,M,N,h=>by
  rw[hV,hV];exact aR λj hj=>by rw[h n j () hj,dH (N:=λi k=>N i (skip j k)) λi k hi hk=>h i _ () (Vw hk)]
theorem As (h:j<=k):skip (k+1) (skip j l)=skip j (skip k l):=by
 unfold skip
 by_cases h1:l < j
 .rw[if_pos h1,if_pos (show l < k by lia),if_pos (show l < k+1 by lia),if_pos h1]
 .rw[if_neg h1]
  by_cases h2:l < k
  .rw[if_pos h2,if_pos (show l+1 < k+1 by lia),if_neg h1]
  .rw[if_neg h2,if_neg (show ¬l+1 < k+1 by lia),if_neg (show ¬l+1 < j by lia)]
theorem Kw (n m:Nat)(F:Nat->Nat->Rat):(rs n λi=>rs m λj=>F i j)=rs m λj=>rs n λi=>F i j:=by
 induction n with
 |zero=>simp only[rs];rw[eZ]
 |succ n ih=>simp only[rs];rw[ih,<- gC]
theorem rA (n:Nat)(F:Nat->Rat):rs (n+1) F=F 0+rs n λi=>F (i+1):=by
 induction n with
 |zero=>simp only[rs];grind
 |succ n ih=>rw[show rs (n+1+1) F=rs (n+1) F+F (n+1) from rfl,ih];simp only[rs];grind
theorem zU (N:Nat)(X:Nat->Nat->Rat):(rs (N+1) λj=>rs N λk=>X j k)=(rs N λk=>rs N λj=>if k<=j then X (j+1) k else 0)+rs N λj=>rs N λk=>if j<=k then X j k else 0:=by
 have h1:(rs (N+1) λj=>rs N λk=>X j k)=(rs (N+1) λj=>rs N λk=>if k < j then X j k else 0)+rs (N+1) λj=>rs N λk=>if k < j then 0 else X j k:=by
  rw[<- gC];refine aR λj _=>?_;rw[<- gC];exact aR λk _=>by split<;>grind
 have h2:(rs (N+1) λj=>rs N λk=>if k < j then X j k else 0)=rs N λk=>rs N λj=>if k<=j then X (j+1) k else 0:=by
  rw[Kw];refine aR λk _=>?_;rw[rA,if_neg ()];have:(rs N λi=>if k < i+1 then X (i+1) k else 0)=rs N λj=>if k<=j then X (j+1) k else 0:=aR λi _=>by
   by_cases c:k<=i
   .rw[if_pos (),if_pos c]
   .rw[if_neg (),if_neg c]
  rw[this];grind
 have h3:(rs (N+1) λj=>rs N λk=>if k < j then 0 else X j k)=rs N λj=>rs N λk=>if j<=k then X j k else 0:=by
  show (rs N λj=>rs N λk=>if k < j then 0 else X j k)+(rs N λk=>if k < N then 0 else X N k)=_;have:(rs N λk=>if k < N then 0 else X N k)=rs N λ_=>0:=aR λk hk=>by rw[if_pos hk]
  rw[this,eZ];have e2:(rs N λj=>rs N λk=>if k < j then 0 else X j k)=rs N λj=>rs N λk=>if j<=k then X j k else 0:=aR λj _=>aR λk _=>by
   by_cases c:j<=k
   .rw[if_neg (),if_pos c]
   .rw[if_pos (),if_neg c]
  rw[e2];grind
 rw[h1,h2,h3]
theorem Ju (N:Nat)(X Y:Nat->Nat->Rat)(h:∀j k,j<=k->Y (k+1) j=- X j k)(h':∀j k,j<=k->X (k+1) j=- Y j k):(rs (N+1) λj=>rs N λk=>Y j k)=- rs (N+1) λj=>rs N λk=>X j k:=by
 rw[zU,zU];have e1:(rs N λk=>rs N λj=>if k<=j then Y (j+1) k else 0)=- rs N λj=>rs N λk=>if j<=k then X j k else 0:=by
  rw[<- tY];refine aR λk _=>?_;rw[<- tY];exact aR λj _=>by
   by_cases c:k<=j
   .rw[if_pos c,if_pos c,h k j c]
   .rw[if_neg c,if_neg c];grind
 have e2:(rs N λk=>rs N λj=>if k<=j then X (j+1) k else 0)=- rs N λj=>rs N λk=>if j<=k then Y j k else 0:=by
  rw[<- tY];refine aR λk _=>?_;rw[<- tY];exact aR λj _=>by
   by_cases c:k<=j
   .rw[if_pos c,if_pos c,h' k j c]
   .rw[if_neg c,if_neg c];grind
 rw[e1,e2];grind
def cX (a:Nat)(M:Mat):Mat:=λi=>if i=a then M (a+1) else if i=a+1 then M a else M i
theorem Md (n:Nat)(M:Mat):det (n+2) M=rs (n+2) λj=>rs (n+1) λk=>(sgn (n+1+j)*M (n+1) j)*(sgn (n+k)*M n (skip j k)*det n λi l=>M i (skip j (skip k l))):=by
 rw[hV];exact aR λj _=>by rw[hV,<- fM]
theorem rL (a b:Nat):sgn (a+1+b)=- sgn (a+b):=by rw[show a+1+b=a+b+1 by lia,xM]
theorem Ap (n:Nat)(M:Mat):det (n+2) (cX n M)=- det (n+2) M:=by
 rw[Md,Md];refine Ju (n+1) _ _ (λj k hjk=>?_) (λj k hjk=>?_)
 .show (sgn (n+1+(k+1))*cX n M (n+1) (k+1))*(sgn (n+j)*cX n M n (skip (k+1) j)*det n λi l=>cX n M i (skip (k+1) (skip j l)))=- ((sgn (n+1+j)*M (n+1) j)*(sgn (n+k)*M n (skip j k)*det n λi l=>M i (skip j (skip k l))));have a1:cX n M (n+1)=M n:=by unfold cX;rw[if_neg (),if_pos rfl]
  have a2:cX n M n=M (n+1):=by unfold cX;rw[if_pos rfl]
  have a3:(det n λi l=>cX n M i (skip (k+1) (skip j l)))=det n λi l=>M i (skip j (skip k l)):=dH λi l hi _=>by
   show cX n M i (skip (k+1) (skip j l))=M i (skip j (skip k l));rw[As hjk];unfold cX;rw[if_neg (),if_neg ()]
  have a4:skip (k+1) j=j:=by unfold skip;rw[if_pos ()]
  have a5:skip j k=k+1:=by unfold skip;rw[if_neg ()]
  rw[a1,a2,a3,a4,a5,rL,rL,show n+(k+1)=n+k+1 by lia,xM];generalize (det n λi l=>M i (skip j (skip k l)))=dd;generalize sgn (n+k)=s1;generalize sgn (n+j)=s2;grind
 .show (sgn (n+1+(k+1))*M (n+1) (k+1))*(sgn (n+j)*M n (skip (k+1) j)*det n λi l=>M i (skip (k+1) (skip j l)))=- ((sgn (n+1+j)*cX n M (n+1) j)*(sgn (n+k)*cX n M n (skip j k)*det n λi l=>cX n M i (skip j (skip k l))));have a1:cX n M (n+1)=M n:=by unfold cX;rw[if_neg (),if_pos rfl]
  have a2:cX n M n=M (n+1):=by unfold cX;rw[if_pos rfl]
  have a3:(det n λi l=>M i (skip (k+1) (skip j l)))=det n λi l=>cX n M i (skip j (skip k l)):=dH λi l hi _=>by
   show M i (skip (k+1) (skip j l))=cX n M i (skip j (skip k l));rw[As hjk];unfold cX;rw[if_neg (),if_neg ()]
  have a4:skip (k+1) j=j:=by unfold skip;rw[if_pos ()]
  have a5:skip j k=k+1:=by unfold skip;rw[if_neg ()]
  rw[a1,a2,a3,a4,a5,rL,rL,show n+(k+1)=n+k+1 by lia,xM];generalize (det n λi l=>cX n M i (skip j (skip k l)))=dd;generalize sgn (n+k)=s1;generalize sgn (n+j)=s2;grind
theorem oU:∀(n a:Nat) (M:Mat),a+1 < n->det n (cX a M)=- det n M
 |0,_,_,h=>absurd h ()
 |n+1,a,M,h=>by
  by_cases e:a+1=n
  .subst e;exact Ap a M
  .rw[hV,hV,<- tY];refine aR λj hj=>?_;have e1:cX a M n j=M n j:=by unfold cX;rw[if_neg (),if_neg ()]
   have e2:(det n λi k=>cX a M i (skip j k))=- det n λi k=>M i (skip j k):=by
    rw[<- oU n a (λi k=>M i (skip j k)) ()];exact dH λi k _ _=>by
     show cX a M i (skip j k)=cX a (λi k=>M i (skip j k)) i k;unfold cX;split
     .rfl
     .split<;>rfl
   rw[e1,e2];grind
theorem Ag:∀(t n:Nat) (M:Mat) (i:Nat),i+t+1=n->(∀j,M i j=M n j)->det (n+1) M=0
 |0,n,M,i,h,e=>by
  have hn:n=i+1:=by lia
  subst hn;have s:=Ap i M;have c:det (i+2) (cX i M)=det (i+2) M:=dH λk j _ _=>by
   unfold cX
   by_cases k1:k=i
   .rw[if_pos k1,k1];exact(e j).symm
   .rw[if_neg k1]
    by_cases k2:k=i+1
    .rw[if_pos k2,k2];exact e j
    .rw[if_neg k2]
  rw[c] at s;grind
 |t+1,n,M,i,h,e=>by
  have s:=oU (n+1) i M ();have z:=Ag t n (cX i M) (i+1) () λj=>by
   have a1:cX i M (i+1)=M i:=by unfold cX;rw[if_neg (),if_pos rfl]
   have a2:cX i M n=M n:=by unfold cX;rw[if_neg (),if_neg ()]
   rw[a1,a2];exact e j
  rw[z] at s;grind
def Do (n:Nat)(S:Mat)(x:Nat->Rat):Mat:=λi=>if i=n then x else S i
def F (n:Nat)(S:Mat)(c:Nat->Nat)(x:Nat->Rat):Rat:=det (n+1) (Do n (λi j=>S i (c j)) λj=>x (c j))
theorem Ox (n:Nat)(S:Mat)(c:Nat->Nat)(x:Nat->Rat):F n S c x=rs (n+1) λj=>sgn (n+j)*x (c j)*det n λi k=>S i (c (skip j k)):=by
 unfold F;rw[hV];refine aR λj _=>?_;have e1:Do n (λi j=>S i (c j)) (λj=>x (c j)) n j=x (c j):=by unfold Do;rw[if_pos rfl]
 rw[e1,dH λi k hi _=>show Do n (λi j=>S i (c j)) (λj=>x (c j)) i (skip j k)=S i (c (skip j k)) by unfold Do;rw[if_neg ()]]
theorem qp3 (n:Nat)(S:Mat)(c:Nat->Nat)(x y:Nat->Rat)(l:Rat):F n S c (λj=>x j+l*y j)=F n S c x+l*F n S c y:=by
 rw[Ox,Ox,Ox,<- fM,<- gC];exact aR λj _=>by grind
theorem Ku (n:Nat)(S:Mat)(c:Nat->Nat)(h:i < n):F n S c (S i)=0:=by
 unfold F;refine Ag (n - i - 1) n _ i () λj=>?_;unfold Do;rw[if_neg (),if_pos rfl]
theorem Cg (n:Nat)(S:Mat)(c:Nat->Nat)(x:Nat->Rat)(h:∀j,j < n->x (c j)=0):F n S c x=x (c n)*det n λi j=>S i (c j):=by
 rw[Ox];show (rs n λj=>sgn (n+j)*x (c j)*det n λi k=>S i (c (skip j k)))+sgn (n+n)*x (c n)*(det n λi k=>S i (c (skip n k)))=_;have z:(rs n λj=>sgn (n+j)*x (c j)*det n λi k=>S i (c (skip j k)))=rs n λ_=>0:=aR λj hj=>by rw[h j hj];grind
 have s:sgn (n+n)=1:=by unfold sgn;rw[if_pos ()]
 have d:(det n λi k=>S i (c (skip n k)))=det n λi j=>S i (c j):=dH λi k _ hk=>by show S i (c (skip n k))=_;unfold skip;rw[if_pos hk]
 rw[z,eZ,s,d];grind
theorem Gq {F:Nat->Rat}(h:∀i,i < n->∃z:Int,F i=(z:Rat)):∃z:Int,rs n F=(z:Rat):=by
 induction n with
 |zero=>exact⟨0,by simp[rs]⟩
 |succ n ih=>
  obtain⟨a,ha⟩:=ih λi hi=>h i ();obtain⟨b,hb⟩:=h n ();exists a+b,by simp only[rs];rw[ha,hb,Rat.intCast_add]
theorem Ng (n:Nat):∃z:Int,sgn n=(z:Rat):=by
 unfold sgn;split
 .exists 1,⋯
 .exists -1,by rw[Rat.intCast_neg];simp
theorem tL (h:∃z:Int,a=(z:Rat))(k:∃z:Int,b=(z:Rat)):∃z:Int,a*b=(z:Rat):=by
 obtain⟨x,rfl⟩:=h;obtain⟨y,rfl⟩:=k;exists x*y,by rw[Rat.intCast_mul]
theorem Ar:∀{n:Nat} {M:Mat},(∀i j,∃z:Int,M i j=(z:Rat))->∃z:Int,det n M=(z:Rat)
 |0,_,_=>⟨1,by simp[det]⟩
 |n+1,M,h=>by
  rw[hV];exact Gq λj _=>tL (tL (Ng _) (h n j)) (Ar λi k=>h i _)
theorem Wr (h:∀i j,∃z:Int,S i j=(z:Rat))(hx:∀j,∃z:Int,x j=(z:Rat)):∃z:Int,F n S c x=(z:Rat):=by
 unfold F;refine Ar λi j=>?_;unfold Do;split
 .exact hx _
 .exact h i _
def Lin (Φ:(Nat->Rat)->Rat):Prop:=∀x y l,Φ (λj=>x j+l*y j)=Φ x+l*Φ y
theorem Lin.zero (h:Lin Φ):Φ (λ_=>0)=0:=by
 have:=h (λ_=>0) (λ_=>0) 1;have e:(λj:Nat=>(λ_=>(0:Rat)) j+1*(λ_=>(0:Rat)) j)=λ_=>0:=by funext j;show (0:Rat)+1*0=0;grind
 rw[e] at this;grind
theorem Lin.mul (h:Lin Φ)(l:Rat)(y:Nat->Rat):Φ (λj=>l*y j)=l*Φ y:=by
 have:=h (λ_=>0) y l;have e:(λj:Nat=>(λ_=>(0:Rat)) j+l*y j)=λj=>l*y j:=by funext j;show (0:Rat)+l*y j=_;grind
 rw[e,h.zero] at this;grind
theorem Lin.sum (h:Lin Φ)(a:Nat->Rat)(Y:Nat->Nat->Rat):∀n,Φ (λj=>rs n λk=>a k*Y k j)=rs n λk=>a k*Φ (Y k)
 |0=>h.zero
 |n+1=>by
  have:=h (λj=>rs n λk=>a k*Y k j) (Y n) (a n);simp only[rs];rw[this,Lin.sum h a Y n]
theorem Lk (n:Nat)(S:Mat)(c:Nat->Nat):Lin (F n S c):=λx y l=>qp3 n S c x y l
def Wh (x:Rat):Prop:=∃z:Int,x=(z:Rat)
theorem Wh.mul (h:Wh a)(k:Wh b):Wh (a*b):=tL h k
theorem Wh.neg (h:Wh a):Wh (-a):=by obtain⟨z,rfl⟩:=h;exists -z,by rw[Rat.intCast_neg]
theorem Wh.sub (h:Wh a)(k:Wh b):Wh (a - b):=by obtain⟨x,rfl⟩:=h;obtain⟨y,rfl⟩:=k;exists x - y,by rw[Rat.intCast_sub]
theorem Wh.one:Wh 1:=⟨1,⋯⟩
theorem Wh.nil:Wh 0:=⟨0,⋯⟩
structure Bar (m:Nat) (A E:Mat) (r col:Nat) (d:Rat) (c:Nat->Nat):Prop where
 dne:d≠0
 rm:r<=m
 rc:r<=col
 clt:∀j,j < r->c j < col
 cinj:∀i j,i < r->j < r->c i=c j->i=j
 wA:∀i j,Wh (A i j)
 wE:∀i j,i < m->Wh (E i j)
 i2:∀k j,k < r->j < r->E k (c j)=if j=k then d else 0
 i3:∀i x,r<=i->i < m->x < col->E i x=0
 i4:∀i x,i < m->d*A i x=(rs r λk=>A i (c k)*E k x)+if i < r then 0 else E i x
 i5:det r (λi j=>A i (c j))=d
 i6:∀Φ,Lin Φ->(∀s,s < r->Φ (A s)=0)->∀k,k < r->Φ (E k)=0
 full:r=col->∀j,j < r->c j=j
theorem Bar.start (wA:∀i j,Wh (A i j)):Bar m A A 0 0 1 id where
 dne:=by grind
 rm:=by lia
 rc:=by lia
 clt:=λj h=>absurd h ()
 cinj:=λi j h=>absurd h ()
 wA:=wA
 wE:=λi j _=>wA i j
 i2:=λk j h=>absurd h ()
 i3:=λi x _ _ h=>absurd h ()
 i4:=λi x _=>by simp only[rs];rw[if_neg ()];grind
 i5:=rfl
 i6:=λΦ _ _ k h=>absurd h ()
 full:=λ_ j h=>absurd h ()
section
variable {m:Nat} {A E:Mat} {r col:Nat} {d:Rat} {c:Nat->Nat}
theorem Bar.skip (h:Bar m A E r col d c)(hz:∀i,r<=i->i < m->E i col=0):Bar m A E r (col+1) d c:=
 { h with
  rc:=by have:=h.rc;lia
  clt:=λj hj=>by have:=h.clt j hj;lia
  i3:=λi x hi hm hx=>by
   by_cases e:x=col
   .rw[e];exact hz i hi hm
   .exact h.i3 i x hi hm ()
  full:=λe=>by have:=h.rc;lia }
def sw (p r i:Nat):Nat:=if i=r then p else if i=p then r else i
theorem An (hp:r<=p)(hi:i < r):sw p r i=i:=by unfold sw;rw[if_neg (),if_neg ()]
theorem Zg (hp:r<=p)(hi:r<=i):r<=sw p r i:=by unfold sw;split;exact hp;split<;>lia
theorem Bx (hp:p < m)(hr:r < m)(hi:i < m):sw p r i < m:=by unfold sw;split;exact hp;split<;>lia
theorem Rp (p r i:Nat):sw p r (sw p r i)=i:=by
 unfold sw
 by_cases h1:i=r
 .rw[if_pos h1]
  by_cases h2:p=r
  .rw[if_pos h2];lia
  .rw[if_neg h2,if_pos rfl];exact h1.symm
 .rw[if_neg h1]
  by_cases h2:i=p
  .rw[if_pos h2,if_pos rfl];exact h2.symm
  .rw[if_neg h2,if_neg h1,if_neg h2]
theorem Bar.swap (h:Bar m A E r col d c)(hp:r<=p)(hpm:p < m):Bar m (λi=>A (sw p r i)) (λi=>E (sw p r i)) r col d c:=
 { h with
  wA:=λi j=>h.wA _ j
  wE:=λi j hi=>h.wE _ j (Bx hpm () hi)
  i2:=λk j hk hj=>by
   show E (sw p r k) (c j)=_;rw[An hp hk];exact h.i2 k j hk hj
  i3:=λi x hi hm hx=>h.i3 _ x (Zg hp hi) (Bx hpm () hm) hx
  i4:=λi x hm=>by
   have e:(rs r λk=>A (sw p r i) (c k)*E (sw p r k) x)=rs r λk=>A (sw p r i) (c k)*E k x:=aR λk hk=>by rw[An hp hk]
   show d*A (sw p r i) x=(rs r λk=>A (sw p r i) (c k)*E (sw p r k) x)+_;rw[e,h.i4 _ x (Bx hpm () hm)];congr 1
   by_cases hi:i < r
   .rw[An hp hi,if_pos hi]
   .have:=Zg hp (show r<=i by lia);rw[if_neg (),if_neg hi]
  i5:=by
   rw[<- h.i5];exact dH λi j hi _=>by show A (sw p r i) (c j)=_;rw[An hp hi]
  i6:=λΦ hΦ hs k hk=>by
   show Φ (E (sw p r k))=0;rw[An hp hk];exact h.i6 Φ hΦ (λs hs'=>by have:=hs s hs';rwa [An hp hs'] at this) k hk }
def clr (E:Mat)(r col:Nat)(d:Rat):Mat:=λk x=>if k=r then E r x else (E r col*E k x - E k col*E r x) / d
def c1 (c:Nat->Nat)(r col:Nat):Nat->Nat:=λj=>if j=r then col else c j
theorem kB (c:Nat->Nat)(h:j < r):c1 c r col j=c j:=by unfold c1;rw[if_neg ()]
theorem pU (c:Nat->Nat)(r col:Nat):c1 c r col r=col:=by unfold c1;rw[if_pos rfl]
theorem Cm (E:Mat)(r col:Nat)(d:Rat):clr E r col d r=E r:=by funext x;unfold clr;rw[if_pos rfl]
theorem oW (E:Mat)(h:k≠r)(x:Nat):clr E r col d k x=(E r col*E k x - E k col*E r x) / d:=by unfold clr;rw[if_neg h]
theorem Bar.j2 (h:Bar m A E r col d c)(hr:r < m):∀k j,k < r+1->j < r+1->clr E r col d k (c1 c r col j)=if j=k then E r col else 0:=λk j hk hj=>by
 have hd:=h.dne
 by_cases kr:k=r
 .subst kr;rw[Cm]
  by_cases jr:j=k
  .rw[if_pos jr,jr,pU]
  .rw[if_neg jr,kB c ()];exact h.i3 k _ (Nat.le_refl _) hr (h.clt j ())
 .rw[oW E kr]
  by_cases jr:j=r
  .subst jr;rw[pU,if_neg ()];grind
  .rw[kB c (),h.i2 k j () (),h.i3 r (c j) (Nat.le_refl _) hr (h.clt j ())]
   by_cases e:j=k
   .rw[if_pos e,if_pos e];grind
   .rw[if_neg e,if_neg e];grind
theorem Bar.j4 (h:Bar m A E r col d c)(hr:r < m):∀i x,i < m->E r col*A i x=(rs (r+1) λk=>A i (c1 c r col k)*clr E r col d k x)+if i < r+1 then 0 else clr E r col d i x:=λi x hi=>by
 have hd:=h.dne;have q:=h.i4 i x hi;have q2:=h.i4 i col hi;show _=(rs r λk=>A i (c1 c r col k)*clr E r col d k x)+A i (c1 c r col r)*clr E r col d r x+_;rw[pU,Cm];have e:(rs r λk=>A i (c1 c r col k)*clr E r col d k x)=(E r col / d)*(rs r λk=>A i (c k)*E k x)+(-(E r x / d))*rs r λk=>A i (c k)*E k col:=by
  rw[<- fM,<- fM,<- gC];exact aR λk hk=>by rw[kB c hk,oW E ()];grind
 rw[e];generalize (rs r λk=>A i (c k)*E k x)=s1 at q ⊢;generalize (rs r λk=>A i (c k)*E k col)=s2 at q2 ⊢
 by_cases h1:i < r
 .rw[if_pos h1] at q q2;rw[if_pos ()];have:s1=d*A i x:=by grind
  have:s2=d*A i col:=by grind
  subst s1 s2;grind
 .rw[if_neg h1] at q q2;have a1:s1=d*A i x - E i x:=by grind
  have a2:s2=d*A i col - E i col:=by grind
  subst a1 a2
  by_cases h2:i=r
  .subst h2;rw[if_pos ()];grind
  .rw[if_neg (),oW E h2];grind
theorem Bar.j6 (h:Bar m A E r col d c)(hr:r < m):∀Φ,Lin Φ->(∀s,s < r+1->Φ (A s)=0)->∀k,k < r+1->Φ (clr E r col d k)=0:=λΦ hΦ hs k hk=>by
 have hd:=h.dne;have z:=h.i6 Φ hΦ λs hs'=>hs s ();have zr:Φ (E r)=0:=by
  have e:E r=λx=>(λx=>d*A r x) x+(-1)*(λx=>rs r λk=>A r (c k)*E k x) x:=by
   funext x
   have:=h.i4 r x hr;rw[if_neg ()] at this;show E r x=d*A r x+(-1)*(rs r λk=>A r (c k)*E k x)
   grind
  rw[e,hΦ,hΦ.mul,hΦ.sum,hs r ()];have:(rs r λk=>A r (c k)*Φ (E k))=rs r λ_=>0:=aR λk hk=>by rw[z k hk];grind
  rw[this,eZ];grind
 by_cases kr:k=r
 .rw[kr,Cm];exact zr
 .have e:clr E r col d k=λx=>(λx=>(E r col / d)*E k x) x+(-(E k col / d))*E r x:=by
   funext x
   rw[oW E kr];show _=(E r col / d)*E k x+(-(E k col / d))*E r x;grind
  rw[e,hΦ,hΦ.mul,z k (),zr];grind
theorem Bar.j5 (h:Bar m A E r col d c)(hr:r < m):det (r+1) (λi j=>A i (c1 c r col j))=E r col:=by
 have hd:=h.dne;have e1:det (r+1) (λi j=>A i (c1 c r col j))=F r A (c1 c r col) (A r):=by
  unfold F;exact dH λi j hi _=>by
   unfold Do
   by_cases e:i=r
   .rw[if_pos e,e]
   .rw[if_neg e]
 have hΦ:=Lk r A (c1 c r col);have z:=h.i6 _ hΦ λs hs=>Ku r A (c1 c r col) hs;have eA:A r=λx=>(λx=>(1 / d)*E r x) x+(1 / d)*(λx=>rs r λk=>A r (c k)*E k x) x:=by
  funext x
  have:=h.i4 r x hr;rw[if_neg ()] at this;show A r x=(1 / d)*E r x+(1 / d)*(rs r λk=>A r (c k)*E k x)
  grind
 have zs:(rs r λk=>A r (c k)*F r A (c1 c r col) (E k))=0:=by
  have:(rs r λk=>A r (c k)*F r A (c1 c r col) (E k))=rs r λ_=>0:=aR λk hk=>by rw[z k hk];grind
  rw[this,eZ]
 have fb:=Cg r A (c1 c r col) (E r) λj hj=>by rw[kB c hj];exact h.i3 r _ (Nat.le_refl _) hr (h.clt j hj)
 have dd:(det r λi j=>A i (c1 c r col j))=d:=by rw[<- h.i5];exact dH λi j _ hj=>by show A i (c1 c r col j)=_;rw[kB c hj]
 rw[pU,dd] at fb;rw[e1,eA,hΦ,hΦ.mul,hΦ.sum,zs,fb];grind
theorem Bar.wV (h:Bar m A E r col d c)(hr:r < m)(he:E r col≠0):∀i x,i < m->Wh (clr E r col d i x):=by
 have j2:=h.j2 hr;have j4:=h.j4 hr;have j5:=h.j5 hr;have j6:=h.j6 hr;have cin:∀i j,i < r+1->j < r+1->c1 c r col i=c1 c r col j->i=j:=λi j hi hj e=>by
  by_cases a:i=r
  .by_cases b:j=r
   .lia
   .rw[a,pU,kB c ()] at e;have:=h.clt j ();lia
  .by_cases b:j=r
   .rw[b,pU,kB c ()] at e;have:=h.clt i ();lia
   .rw[kB c (),kB c ()] at e;exact h.cinj i j () () e
 have top:∀k x,k < r+1->Wh (clr E r col d k x):=λk x hk=>by
  by_cases hx:∃j,j < r+1/\x=c1 c r col j
  .obtain⟨j,hj,rfl⟩:=hx;rw[j2 k j hk hj];split
   .exact h.wE r col hr
   .exact Wh.nil
  .let c2:Nat->Nat:=λj=>if j=r+1 then x else c1 c r col j
   let u:Nat->Rat:=λj=>if j=c1 c r col k then 1 else 0
   have hΦ:=Lk (r+1) A c2;have z:=j6 _ hΦ (λs hs=>Ku (r+1) A c2 hs) k hk;have eu:u=λy=>(λy=>u y+(-(1 / E r col))*clr E r col d k y) y+(1 / E r col)*clr E r col d k y:=by
    funext y
    show u y=u y+(-(1 / E r col))*clr E r col d k y+(1 / E r col)*clr E r col d k y;grind
   have fb:=Cg (r+1) A c2 (λy=>u y+(-(1 / E r col))*clr E r col d k y) λj hj=>by
    have ec:c2 j=c1 c r col j:=by show (if j=r+1 then x else c1 c r col j)=_;rw[if_neg ()]
    rw[ec];show u (c1 c r col j)+(-(1 / E r col))*clr E r col d k (c1 c r col j)=0;rw[j2 k j hk hj];show (if c1 c r col j=c1 c r col k then (1:Rat) else 0)+_=0
    by_cases e:j=k
    .rw[if_pos e,if_pos (by rw[e])];grind
    .rw[if_neg e,if_neg (λq=>e (cin j k hj hk q))];grind
   have dd:(det (r+1) λi j=>A i (c2 j))=E r col:=by
    rw[<- j5];exact dH λi j _ hj=>by show A i (if j=r+1 then x else c1 c r col j)=_;rw[if_neg ()]
   have ux:u x=0:=by show (if x=c1 c r col k then (1:Rat) else 0)=0;rw[if_neg (λq=>hx ⟨k,hk,q⟩)]
   have cx:c2 (r+1)=x:=by show (if r+1=r+1 then x else _)=x;rw[if_pos rfl]
   rw[dd,cx] at fb;have val:F (r+1) A c2 u=- clr E r col d k x:=by
    rw[eu,hΦ,z,fb];show (u x+(-(1 / E r col))*clr E r col d k x)*E r col+_=_;rw[ux];grind
   have wh:Wh (F (r+1) A c2 u):=Wr h.wA λj=>by
    show Wh (if j=c1 c r col k then (1:Rat) else 0);split
    .exact Wh.one
    .exact Wh.nil
   rw[val] at wh;have:=wh.neg
   rwa [show - - clr E r col d k x=clr E r col d k x by grind] at this
 intro i x hi
 by_cases h1:i < r+1
 .exact top i x h1
 .have q:=j4 i x hi;rw[if_neg h1] at q;have e:clr E r col d i x=E r col*A i x - rs (r+1) λk=>A i (c1 c r col k)*clr E r col d k x:=by grind
  rw[e];exact Wh.sub (Wh.mul (h.wE r col hr) (h.wA i x)) (Gq λk hk=>Wh.mul (h.wA _ _) (top k x hk))
theorem Bar.clear (h:Bar m A E r col d c)(hr:r < m)(he:E r col≠0):Bar m A (clr E r col d) (r+1) (col+1) (E r col) (c1 c r col) where
 dne:=he
 rm:=hr
 rc:=by have:=h.rc;lia
 clt:=λj hj=>by
  by_cases e:j=r
  .rw[e,pU];lia
  .rw[kB c ()];have:=h.clt j ();lia
 cinj:=λi j hi hj e=>by
  by_cases a:i=r
  .by_cases b:j=r
   .lia
   .rw[a,pU,kB c ()] at e;have:=h.clt j ();lia
  .by_cases b:j=r
   .rw[b,pU,kB c ()] at e;have:=h.clt i ();lia
   .rw[kB c (),kB c ()] at e;exact h.cinj i j () () e
 wA:=h.wA
 wE:=λi j hi=>h.wV hr he i j hi
 i2:=h.j2 hr
 i3:=λi x hi hm hx=>by
  rw[oW E ()]
  by_cases e:x=col
  .rw[e];grind
  .rw[h.i3 i x () hm (),h.i3 r x (Nat.le_refl _) hr ()];grind
 i4:=h.j4 hr
 i5:=h.j5 hr
 i6:=h.j6 hr
 full:=λe j hj=>by
  by_cases a:j=r
  .rw[a,pU];lia
  .rw[kB c ()];exact h.full () j ()
end
def ent (R:List (List Int))(i x:Nat):Int:=(R.getD i []).getD x 0
def at2 (R:List (List Int)):Mat:=λi x=>((ent R i x:Int):Rat)
theorem Bar.congr (h:Bar m A E r col d c)(e:∀i,i < m->E i=E' i):Bar m A E' r col d c:=
 { h with
  wE:=λi j hi=>by rw[<- e i hi];exact h.wE i j hi
  i2:=λk j hk hj=>by rw[<- e k (by have:=h.rm;lia)];exact h.i2 k j hk hj
  i3:=λi x hi hm hx=>by rw[<- e i hm];exact h.i3 i x hi hm hx
  i4:=λi x hm=>by
   rw[h.i4 i x hm];congr 1
   .exact aR λk hk=>by rw[e k (by have:=h.rm;lia)]
   .rw[e i hm]
  i6:=λΦ hΦ hs k hk=>by rw[<- e k (by have:=h.rm;lia)];exact h.i6 Φ hΦ hs k hk }
theorem Va (n:Nat):∀(t p r:Nat) (A:Mat),p=r+t+1->p < n->det n (λi=>A (sw p r i))=- det n A
 |0,p,r,A,h,hp=>by
  subst h;rw[<- oU n r A ()];exact dH λi j _ _=>by
   show A (sw (r+0+1) r i) j=cX r A i j;unfold sw cX
   by_cases h1:i=r
   .rw[if_pos h1,if_pos h1]
   .rw[if_neg h1,if_neg h1]
    by_cases h2:i=r+1
    .rw[if_pos (),if_pos h2]
    .rw[if_neg (),if_neg h2]
 |t+1,p,r,A,h,hp=>by
  have ih:=Va n t (r+t+1) r (cX (r+t+1) A) rfl ();have s1:=oU n (r+t+1) A ();have s2:=oU n (r+t+1) (λi=>cX (r+t+1) A (sw (r+t+1) r i)) ();have e:det n (λi=>A (sw p r i))=det n (cX (r+t+1) (λi=>cX (r+t+1) A (sw (r+t+1) r i))):=dH λi j _ _=>by
   subst h;show A (sw (r+(t+1)+1) r i) j=cX (r+t+1) (λi=>cX (r+t+1) A (sw (r+t+1) r i)) i j
   by_cases h1:i=r
   .have a1:sw (r+(t+1)+1) r i=r+t+1+1:=by unfold sw;rw[if_pos h1];lia
    have a2:sw (r+t+1) r i=r+t+1:=by unfold sw;rw[if_pos h1]
    rw[a1];unfold cX;rw[if_neg (),if_neg ()];dsimp only;rw[a2,if_pos rfl]
   .by_cases h2:i=r+t+1+1
    .have a1:sw (r+(t+1)+1) r i=r:=by unfold sw;rw[if_neg h1,if_pos ()]
     have a2:sw (r+t+1) r (r+t+1)=r:=by unfold sw;rw[if_neg (),if_pos rfl]
     rw[a1];unfold cX;rw[if_neg (),if_pos h2];dsimp only;rw[a2,if_neg (),if_neg ()]
    .have a1:sw (r+(t+1)+1) r i=i:=by unfold sw;rw[if_neg h1,if_neg ()]
     rw[a1]
     by_cases h3:i=r+t+1
     .have a2:sw (r+t+1) r (r+t+1+1)=r+t+1+1:=by unfold sw;rw[if_neg (),if_neg ()]
      unfold cX;rw[if_pos h3];dsimp only;rw[a2,if_neg (),if_pos rfl,h3]
     .have a2:sw (r+t+1) r i=i:=by unfold sw;rw[if_neg h1,if_neg h3]
      unfold cX;rw[if_neg h3,if_neg h2];dsimp only;rw[a2,if_neg h3,if_neg h2]
  rw[e,s2,ih,s1];grind
def gR (R:List (List Int))(p r:Nat):List (List Int):=(R.set p (R.getD r [])).set r (R.getD p [])
theorem qd5 (R:List (List Int))(p r:Nat):(gR R p r).length=R.length:=by unfold gR;simp
theorem Dj (hp:p < R.length)(hr:r < R.length)(i:Nat):(gR R p r).getD i []=R.getD (sw p r i) []:=by
 unfold gR sw;rw[getD_eq_getElem?_getD]
 by_cases h1:i=r
 .rw[if_pos h1,h1,getElem?_set_self (by simpa using hr)];rfl
 .rw[if_neg h1,getElem?_set_ne (Ne.symm h1)]
  by_cases h2:i=p
  .rw[if_pos h2,h2,getElem?_set_self hp];rfl
  .rw[if_neg h2,getElem?_set_ne (Ne.symm h2),getD_eq_getElem?_getD]
def iV (upper row:List Int)(col:Nat)(dv:Int):List Int:=zipWith (λhere above=>Int.fdiv (upper.getD col 0*here - row.getD col 0*above) dv) row upper
def cY (R:List (List Int))(r col:Nat)(dv:Int):List (List Int):=R.mapIdx λi row=>if i=r then row else iV (R.getD r []) row col dv
theorem Ms (R:List (List Int))(r col:Nat)(dv:Int):(cY R r col dv).length=R.length:=by unfold cY;simp
theorem rC (hi:i < R.length)(r col:Nat)(dv:Int):(cY R r col dv).getD i []=if i=r then R.getD i [] else iV (R.getD r []) (R.getD i []) col dv:=by
 unfold cY;rw[getD_eq_getElem?_getD,getElem?_mapIdx,getElem?_eq_getElem hi];have:R.getD i []=R[i]:=by rw[getD_eq_getElem?_getD,getElem?_eq_getElem hi];rfl
 rw[this];rfl
structure SI (m w:Nat) (A0:Mat) (R:List (List Int)) (r col:Nat) (d sg:Int):Prop where
 len:R.length=m
 wid:∀i,i < m->(R.getD i []).length=w
 bar:∃A c,Bar m A (at2 R) r col (d:Rat) c/\det m A=(sg:Rat)*det m A0
 one:sg=1\/sg=-1
theorem SI.start (h:R.length=m)(hw:∀i,i < m->(R.getD i []).length=w):SI m w (at2 R) R 0 0 1 1:=
 ⟨h,hw,⟨at2 R,id,by
  have:=Bar.start (m:=m) (A:=at2 R) λi j=>⟨_,rfl⟩
  simpa using this,⋯⟩,.inl rfl⟩
theorem SI.skip (h:SI m w A0 R r col d sg)(hz:∀i,r<=i->i < m->ent R i col=0):SI m w A0 R r (col+1) d sg:=by
 obtain⟨A,c,B,e⟩:=h.bar;exists h.len,h.wid,⟨A,c,B.skip λi h1 h2=>by unfold at2;rw[hz i h1 h2];simp,e⟩,h.one
theorem SI.swap (h:SI m w A0 R r col d sg)(hp:r < p)(hm:p < m):SI m w A0 (gR R p r) r col d (-sg):=by
 obtain⟨A,c,B,e⟩:=h.bar;have hl:=h.len;have gd:=λi=>Dj (R:=R) (p:=p) (r:=r) () () i;exists (qd5 R p r).trans hl,λi hi=>?_,⟨_,c,(B.swap () hm).congr λi hi=>?_,?_⟩,?_
 .rw[gd i];exact h.wid _ (Bx hm () hi)
 .funext x
  show (((R.getD (sw p r i) []).getD x 0:Int):Rat)=((((gR R p r).getD i []).getD x 0:Int):Rat)
  rw[gd i]
 .rw[Va m (p - r - 1) p r A () hm,e,Rat.intCast_neg];grind
 .rcases h.one with z | z
  .right;lia
  .left;lia
theorem jX {l:List Int}(h:x < l.length):l[x]?=some (l.getD x 0):=by rw[getD_eq_getElem?_getD,getElem?_eq_getElem h];rfl
theorem yU {l:List Int}(h:l.length<=x):l.getD x 0=0:=by rw[getD_eq_getElem?_getD,getElem?_eq_none h];rfl
theorem Ki (h:SI m w A0 R r col d sg)(B:Bar m A (at2 R) r col (d:Rat) c)(hr:r < m)(hc:col < w)(he:ent R r col≠0)(hi:i < m)(hir:i≠r)(x:Nat):
  ∃z:Int,(iV (R.getD r []) (R.getD i []) col d).getD x 0=z/\(z:Rat)=clr (at2 R) r col (d:Rat) i x/\(x < w->ent R r col*ent R i x - ent R i col*ent R r x=d*z):=by
 have dn:d≠0:=λz=>B.dne (by rw[z];simp);have dq:=B.dne;have heq:at2 R r col≠0:=λz=>he (Rat.intCast_inj.mp (by unfold at2 at z;simpa using z));have wi:=h.wid i hi;have wr:=h.wid r hr
 by_cases hx:x < w
 .obtain⟨z,hz⟩:=B.wV hr heq i x hi;have e1:ent R r col*ent R i x - ent R i col*ent R r x=d*z:=by
   rw[oW _ hir] at hz;have:((ent R r col*ent R i x - ent R i col*ent R r x:Int):Rat)=((d*z:Int):Rat):=by
    rw[Rat.intCast_sub,Rat.intCast_mul,Rat.intCast_mul,Rat.intCast_mul,<- hz];show at2 R r col*at2 R i x - at2 R i col*at2 R r x=_;grind
   exact Rat.intCast_inj.mp this
  exists z,?_,hz.symm,λ_=>e1;unfold iV;have g1:(R.getD i [])[x]?=some ((R.getD i []).getD x 0):=jX ();have g2:(R.getD r [])[x]?=some ((R.getD r []).getD x 0):=jX ();rw[getD_eq_getElem?_getD (l:=zipWith _ _ _),getElem?_zipWith,g1,g2];exact hJ dn e1
 .exists 0,?_,?_,λh=>absurd h hx
  .unfold iV;exact yU (by rw[length_zipWith,wi,wr];lia)
  .rw[oW _ hir];have a1:at2 R i x=0:=by unfold at2 ent;rw[yU ()];simp
   have a2:at2 R r x=0:=by unfold at2 ent;rw[yU ()];simp
   rw[a1,a2];simp;grind
theorem SI.clear (h:SI m w A0 R r col d sg)(hr:r < m)(hc:col < w)(he:ent R r col≠0):SI m w A0 (cY R r col d) (r+1) (col+1) (ent R r col) sg:=by
 obtain⟨A,c,B,e⟩:=h.bar;have hl:=h.len;have heq:at2 R r col≠0:=λz=>he (Rat.intCast_inj.mp (by unfold at2 at z;simpa using z));exists (Ms R r col d).trans hl,λi hi=>?_,⟨A,_,(B.clear hr heq).congr λi hi=>?_,e⟩,h.one
 .rw[rC ()];split
  .exact h.wid i hi
  .unfold iV;rw[length_zipWith,h.wid i hi,h.wid r hr,Nat.min_self]
 .funext x
  show clr (at2 R) r col (d:Rat) i x=((((cY R r col d).getD i []).getD x 0:Int):Rat)
  rw[rC ()]
  by_cases hir:i=r
  .rw[if_pos hir,hir,Cm];rfl
  .rw[if_neg hir];obtain⟨z,h1,h2,_⟩:=Ki h B hr hc he hi hir x;rw[h1,h2]
def BdR (n:Nat)(R:List (List Int)):Prop:=∀i x,B n (ent R i x)
theorem SI.whole (h:SI m w A0 R m m d sg):det m A0=(sg:Rat)*(d:Rat):=by
 obtain⟨A,c,B,e⟩:=h.bar;have f:=B.full rfl;have i5:=B.i5;have:det m (λi j=>A i (c j))=det m A:=dH λi j _ hj=>by show A i (c j)=A i j;rw[f j hj]
 rw[this,e] at i5;rcases h.one with z | z
 .rw[z] at i5 ⊢;simp at i5 ⊢;exact i5
 .rw[z,Rat.intCast_neg] at i5 ⊢;simp at i5 ⊢;grind
theorem SI.lame (h:SI m w A0 R r m d sg)(hr:r < m):det m A0=0:=by
 obtain⟨A,c,B,e⟩:=h.bar;obtain⟨n,rfl⟩:∃n,m=n+1:=⟨m - 1,()⟩
 have dq:=B.dne;have e1:det (n+1) A=F n A id (A n):=by
  unfold F;exact dH λi j hi _=>by
   unfold Do
   by_cases z:i=n
   .rw[if_pos z,z];rfl
   .rw[if_neg z];rfl
 have hΦ:=Lk n A id;have z:=B.i6 _ hΦ λs hs=>Ku n A id ();have eA:A n=λx=>(λx=>(1 / (d:Rat))*at2 R n x) x+(1 / (d:Rat))*(λx=>rs r λk=>A n (c k)*at2 R k x) x:=by
  funext x
  have:=B.i4 n x ();rw[if_neg ()] at this;show A n x=(1 / (d:Rat))*at2 R n x+(1 / (d:Rat))*(rs r λk=>A n (c k)*at2 R k x)
  grind
 have zs:(rs r λk=>A n (c k)*F n A id (at2 R k))=0:=by
  have:(rs r λk=>A n (c k)*F n A id (at2 R k))=rs r λ_=>0:=aR λk hk=>by rw[z k hk];grind
  rw[this,eZ]
 have zn:F n A id (at2 R n)=0:=by
  rw[Ox];have:(rs (n+1) λj=>sgn (n+j)*at2 R n (id j)*det n λi k=>A i (id (Mq.skip j k)))=rs (n+1) λ_=>0:=aR λj hj=>by
   rw[show at2 R n (id j)=0 from B.i3 n j () () hj];grind
  rw[this,eZ]
 have:det (n+1) A=0:=by
  rw[e1,eA,hΦ,hΦ.mul,hΦ.sum,zs,zn];grind
 rw[this] at e;rcases h.one with q | q
 .rw[q] at e;simp at e;exact e.symm
 .rw[q,Rat.intCast_neg] at e;simp at e;grind
def Nr:Nat->(Nat->Rat)->Rat
 |0,_=>1
 |n+1,b=>Nr n b*b n
theorem tK:∀(n:Nat) (b:Nat->Rat) (Q:Mat),det n (λi j=>b i*Q i j)=Nr n b*det n Q
 |0,_,_=>by simp[det,Nr]
 |n+1,b,Q=>by
  rw[hV,hV,<- fM];refine aR λj _=>?_;have:=tK n b (λi k=>Q i (Mq.skip j k));show sgn (n+j)*(b n*Q n j)*det n (λi k=>b i*Q i (Mq.skip j k))=Nr n b*b n*_;rw[this];grind
end Mq
open Mq (BdR Dj Mat Nr SI cY dH ent gR iV jX rA rC tK)
namespace Shp
open PySem L2
inductive Imx (D:Addr) (H:Hp):wk->List (List Int)->Prop where
 |nil:Imx D H [] []
 |cons {u:Addr} {r:List Int} {us:wk} {R:List (List Int)} (ne:u≠D) (h:H u=some (.lst (r.map V.int))) (q:Imx D H us R):Imx D H (.ref u :: us) (r :: R)
theorem Imx.same (e:aX H H'):∀{xs:wk} {R:List (List Int)},Imx D H xs R->Imx D H' xs R
 |_,_,.nil=>.nil
 |_,_,.cons n h q=>.cons n (e _ _ h) (q.same e)
theorem Imx.upd:∀{xs:wk} {R:List (List Int)},Imx D H xs R->Imx D (L2.upd H D o) xs R
 |_,_,.nil=>.nil
 |_,_,.cons n h q=>.cons n (by rw[aV n];exact h) q.upd
theorem Imx.length:∀{xs:wk} {R:List (List Int)},Imx D H xs R->xs.length=R.length
 |_,_,.nil=>rfl
 |_,_,.cons _ _ q=>by rw[length_cons,length_cons,q.length]
theorem Imx.get:∀{xs:wk} {R:List (List Int)} {i:Nat} {x:V},Imx D H xs R->xs[i]?=some x->∃u r,x=.ref u/\R[i]?=some r/\u≠D/\H u=some (.lst (r.map V.int))
 |_,_,0,_,.cons n h q,e=>by simp at e;exists _,_,e.symm,rfl,n,h
 |_,_,i+1,_,.cons n h q,e=>by simp at e;exact q.get e
theorem Imx.at (h:Imx D H xs R)(hi:i < R.length):∃u,xs[i]?=some (.ref u)/\u≠D/\H u=some (.lst ((R.getD i []).map V.int)):=by
 have hx:i < xs.length:=by rw[h.length];exact hi
 obtain⟨u,r,e1,e2,e3,e4⟩:=h.get (getElem?_eq_getElem hx);exists u,by rw[getElem?_eq_getElem hx,e1],e3,?_;rw[getD_eq_getElem?_getD,e2];exact e4
theorem Imx.app:∀{xs ys:wk} {R S:List (List Int)},Imx D H xs R->Imx D H ys S->Imx D H (xs++ys) (R++S)
 |_,_,_,_,.nil,k=>k
 |_,_,_,_,.cons n h q,k=>.cons n h (q.app k)
theorem Imx.set (hn:u≠D)(hu:H u=some (.lst (r.map V.int))):∀{xs:wk} {R:List (List Int)} (i:Nat),Imx D H xs R->Imx D H (xs.set i (.ref u)) (R.set i r)
 |_,_,_,.nil=>by simp;exact .nil
 |_,_,0,.cons n h q=>.cons hn hu q
 |_,_,i+1,.cons n h q=>.cons n h (q.set hn hu i)
theorem Imx.other (hD:H D'=none):∀{xs:wk} {R:List (List Int)},Imx D H xs R->Imx D' H xs R
 |_,_,.nil=>.nil
 |_,_,.cons n h q=>.cons (λz=>by rw[z,hD] at h;cases h) h (q.other hD)
theorem kO {l:List Int}(h:i < l.length):(l.map V.int)[i]?=some (.int (l.getD i 0)):=by
 rw[getElem?_map,jX h];rfl
inductive Mb (K:Frag) (vs:wk) (H:Hp) (Q:VK) (E:XK):Prop where
 |mk (a:Addr) (xs:wk) (ps:List Q2) (n:Nat):vs=[.ref a]->SqL K H a xs->Fqs K H xs ps->Mq.Pos ps->(∀p∈ps,Bd n p)->ps.length<=100->10+n+n*ps.length<=8000->(∀t l H',aX H H'->H l=none->SqT K H' t [.ref l,.int (dR ps)]->H' l=some (.lst ((iw ps).map V.int))->Q (.ref t) H')->Mb K vs H Q E
inductive Sj (K:Frag) (vs:wk) (H:Hp) (Q:VK) (E:XK):Prop where
 |mk (l D:Addr) (zs:wk) (R:List (List Int)) (r c m w:Nat):vs=[.ref l,.int (r:Int),.int (c:Int)]->SqL K H l zs->Imx D H zs R->R.length=m->(∀i,i < m->(R.getD i []).length=w)->c < w->r<=m->m<=100->(∀p,r<=p->p < m->ent R p c≠0->Q (.int (p:Int)) H)->((∀i,r<=i->i < m->ent R i c=0)->Q .non H)->Sj K vs H Q E
inductive tP (K:Frag) (vs:wk) (H:Hp) (Q:VK) (E:XK):Prop where
 |mk (u v:Addr) (row upper:List Int) (c n:Nat) (dv:Int):vs=[.ref u,.ref v,.int (c:Int),.int dv]->SqL K H u (row.map V.int)->SqL K H v (upper.map V.int)->row.length=upper.length->row.length<=100->c < row.length->dv≠0->(∀i,Mq.B n (row.getD i 0))->(∀i,Mq.B n (upper.getD i 0))->Mq.B n dv->n<=9000->(∀l H',aX H H'->H l=none->H' l=some (.lst ((iV upper row c dv).map V.int))->Q (.ref l) H')->tP K vs H Q E
inductive sR (K:Frag) (vs:wk) (H:Hp) (Q:VK) (E:XK):Prop where
 |mk (l D:Addr) (zs:wk) (R:List (List Int)) (r c m w n:Nat) (dv:Int):vs=[.ref l,.int (r:Int),.int (c:Int),.int dv]->SqL K H l zs->Imx D H zs R->R.length=m->(∀i,i < m->(R.getD i []).length=w)->c < w->w<=100->r < m->m<=100->dv≠0->BdR n R->Mq.B n dv->n<=9000->(∀l' zs' H',aX H H'->H l'=none->H' l'=some (.lst zs')->Imx l' H' zs' (cY R r c dv)->Q (.ref l') H')->sR K vs H Q E
def Qk (l:Addr)(rank:Nat)(pivot sign:Int):HO:=.dK (kS [] [(.inr "rows",.ref l),(.inr "rank",.int (rank:Int)),(.inr "pivot",.int pivot),(.inr "sign",.int sign)])
def wgt (X:List (List Q2)):Rat:=Mq.det X.length λi j=>Mq.val ((X.getD i []).getD j Mq.z0)
theorem qW (h:H d=some (Qk l rank pivot sign)):jN H d (.str "rows") (some (.ref l))/\jN H d (.str "rank") (some (.int (rank:Int)))/\jN H d (.str "pivot") (some (.int pivot))/\jN H d (.str "sign") (some (.int sign)):=by
 exists ?_,?_,?_,?_
 .exact jN.k (k:=(Sum.inr "rows":Key)) h
 .exact jN.k (k:=(Sum.inr "rank":Key)) h
 .exact jN.k (k:=(Sum.inr "pivot":Key)) h
 .exact jN.k (k:=(Sum.inr "sign":Key)) h
def uW (X:List (List Q2)):Int:=X.foldl (λb row=>b*dR row) 1
theorem zZ {X:List (List Q2)}(h:X[i]?=some row):uW (X.take (i+1))=uW (X.take i)*dR row:=by
 unfold uW;rw[take_add_one,h,foldl_append];rfl
theorem sX (X:List (List Q2)):∀i,i<=X.length->((uW (X.take i):Int):Rat)=Nr i λk=>((dR (X.getD k []):Int):Rat)
 |0,_=>by simp[uW,Nr]
 |i+1,h=>by
  have e:X[i]?=some (X.getD i []):=by rw[getD_eq_getElem?_getD,getElem?_eq_getElem ()];rfl
  rw[zZ e,Rat.intCast_mul,sX X i ()];rfl
theorem Bz (hX:gU X):∀i,i<=X.length->1<=uW (X.take i)
 |0,_=>by show (1:Int)<=1;lia
 |i+1,h=>by
  have e:X[i]?=some (X.getD i []):=by rw[getD_eq_getElem?_getD,getElem?_eq_getElem ()];rfl
  rw[zZ e];have h1:=Bz hX i ();have h2:=vT (hX _ (mem_of_getElem? e));have:=Int.mul_pos (show 0 < uW (X.take i) by lia) (show 0 < dR (X.getD i []) by lia);lia
theorem Se (hp:Mq.Pos row)(hj:j < row.length):(((iw row).getD j 0:Int):Rat)=((dR row:Int):Rat)*Mq.val (row.getD j Mq.z0):=by
 have ej:row[j]?=some (row.getD j Mq.z0):=by rw[getD_eq_getElem?_getD,getElem?_eq_getElem hj];rfl
 have mem:row.getD j Mq.z0∈row:=mem_of_getElem? ej;obtain⟨k,hk⟩:=yH hp _ mem;have e2:(iw row).getD j 0=Gi (dR row) (row.getD j Mq.z0):=by
  unfold iw;rw[getD_eq_getElem?_getD,getElem?_map,ej];rfl
 rw[e2,Mq.Ug (hp _ mem) hk];grind
theorem nH (row:List Q2):(iw row).length=row.length:=by unfold iw;simp
end Shp
namespace Mq
theorem oG (m a:Nat)(v:Rat)(h:a < m):(rs m λi=>if i=a then v else 0)=v:=by
 induction m with
 |zero=>lia
 |succ m ih=>
  simp only[rs]
  by_cases e:m=a
  .subst e;rw[if_pos rfl];have:(rs m λi=>if i=m then v else 0)=rs m λ_=>0:=aR λi hi=>by rw[if_neg ()]
   rw[this,eZ];grind
  .rw[if_neg e,ih ()];grind
theorem qm2 (m p r:Nat)(hp:p < m)(hr:r < m)(F:Nat->Rat):(rs m λi=>F (sw p r i))=rs m F:=by
 by_cases e:p=r
 .subst e;exact aR λi _=>by
   congr 1;unfold sw
   by_cases h:i=p
   .rw[if_pos h,h]
   .rw[if_neg h,if_neg h]
 have:(rs m λi=>F (sw p r i))=rs m λi=>F i+((if i=r then F p - F r else 0)+(if i=p then F r - F p else 0)):=aR λi _=>by
  unfold sw
  by_cases h1:i=r
  .rw[if_pos h1,if_pos h1,if_neg (),h1];grind
  .rw[if_neg h1,if_neg h1]
   by_cases h2:i=p
   .rw[if_pos h2,if_pos h2,h2];grind
   .rw[if_neg h2,if_neg h2];grind
 rw[this,gC,gC,oG m r _ hr,oG m p _ hp];grind
structure LI (m:Nat) (Aq:Mat) (R:List (List Int)):Prop where
 lin:∀i x,i < m->x < m->at2 R i x=rs m λk=>at2 R i (m+k)*Aq k x
 ind:∀lam:Nat->Rat,(∀j,j < m->(rs m λi=>lam i*at2 R i (m+j))=0)->∀i,i < m->lam i=0
theorem uB (hp:p < R.length)(hr:r < R.length)(i x:Nat):at2 (gR R p r) i x=at2 R (sw p r i) x:=by
 show ((((gR R p r).getD i []).getD x 0:Int):Rat)=_;rw[Dj hp hr];rfl
theorem LI.swap (h:LI m Aq R)(hl:R.length=m)(hp:p < m)(hr:r < m):LI m Aq (gR R p r) where
 lin:=λi x hi hx=>by
  rw[uB () (),h.lin _ x (Bx hp hr hi) hx];exact aR λk _=>by rw[uB () ()]
 ind:=λlam hz i hi=>by
  have:=h.ind (λi=>lam (sw p r i)) (λj hj=>by
   rw[<- hz j hj,<- qm2 m p r hp hr];exact aR λi _=>by
    show lam (sw p r (sw p r i))*_=_;rw[Rp,uB () ()]) (sw p r i) (Bx hp hr hi)
  have e:lam (sw p r (sw p r i))=0:=this
  rwa [Rp] at e
theorem vL (h:SI m w A0 R r col d sg)(hr:r < m)(hc:col < w)(he:ent R r col≠0)(hi:i < m)(x:Nat):
  at2 (cY R r col d) i x=if i=r then at2 R i x else (at2 R r col*at2 R i x - at2 R i col*at2 R r x) / (d:Rat):=by
 obtain⟨A,c,B,e⟩:=h.bar;have hl:=h.len;show ((((cY R r col d).getD i []).getD x 0:Int):Rat)=_;rw[rC ()]
 by_cases hir:i=r
 .rw[if_pos hir,if_pos hir];rfl
 .rw[if_neg hir,if_neg hir];obtain⟨z,h1,h2,_⟩:=Ki h B hr hc he hi hir x;rw[h1,h2,oW _ hir]
theorem SI.dne (h:SI m w A0 R r col d sg):(d:Rat)≠0:=by
 obtain⟨A,c,B,e⟩:=h.bar;exact B.dne
theorem LI.clear (h:LI m Aq R)(s:SI m w A0 R r col d sg)(hr:r < m)(hc:col < w)(he:ent R r col≠0):LI m Aq (cY R r col d):=by
 have dn:=s.dne;have hn:at2 R r col≠0:=λz=>he (Rat.intCast_inj.mp (by unfold at2 at z;simpa using z));have cl:=λ(i:Nat) (hi:i < m) (x:Nat)=>vL s hr hc he hi x;exists λi x hi hx=>?_,λlam hz i hi=>?_
 .rw[cl i hi x]
  by_cases e:i=r
  .rw[if_pos e,h.lin i x hi hx];exact aR λk _=>by rw[cl i hi,if_pos e]
  .rw[if_neg e,h.lin i x hi hx,h.lin r x hr hx];have:(rs m λk=>at2 (cY R r col d) i (m+k)*Aq k x)=rs m λk=>(at2 R r col / (d:Rat))*(at2 R i (m+k)*Aq k x)+(-(at2 R i col / (d:Rat)))*(at2 R r (m+k)*Aq k x):=aR λk _=>by rw[cl i hi,if_neg e];grind
   rw[this,gC,fM,fM];grind
 .-- the factors of the rows as they were
  have key:=h.ind (λi=>if i=r then lam r - (rs m λk=>if k=r then 0 else lam k*(at2 R k col / (d:Rat))) else lam i*(at2 R r col / (d:Rat))) (λj hj=>by
   have e0:=hz j hj;have e1:(rs m λi=>lam i*at2 (cY R r col d) i (m+j))=rs m λi=>(if i=r then lam r*at2 R r (m+j) else 0)+((if i=r then 0 else lam i*(at2 R r col / (d:Rat))*at2 R i (m+j))+(-(at2 R r (m+j)))*(if i=r then 0 else lam i*(at2 R i col / (d:Rat)))):=aR λi hi=>by
    rw[cl i hi]
    by_cases e:i=r
    .rw[if_pos e,if_pos e,if_pos e,if_pos e,e];grind
    .rw[if_neg e,if_neg e,if_neg e,if_neg e];grind
   rw[e1,gC,gC,fM,oG m r _ hr] at e0;have e2:(rs m λi=>(if i=r then lam r - (rs m λk=>if k=r then 0 else lam k*(at2 R k col / (d:Rat))) else lam i*(at2 R r col / (d:Rat)))*at2 R i (m+j))=rs m λi=>(if i=r then (lam r - (rs m λk=>if k=r then 0 else lam k*(at2 R k col / (d:Rat))))*at2 R r (m+j) else 0)+(if i=r then 0 else lam i*(at2 R r col / (d:Rat))*at2 R i (m+j)):=aR λi _=>by
    by_cases e:i=r
    .rw[if_pos e,if_pos e,if_pos e,e];grind
    .rw[if_neg e,if_neg e,if_neg e];grind
   rw[e2,gC,oG m r _ hr];grind)
  have other:∀k,k < m->k≠r->lam k=0:=λk hk e=>by
   have:=key k hk;rw[if_neg e] at this;have n2:at2 R r col / (d:Rat)≠0:=λz=>hn (by grind);grind
  by_cases e:i=r
  .have:=key r hr;rw[if_pos rfl] at this;have z:(rs m λk=>if k=r then 0 else lam k*(at2 R k col / (d:Rat)))=rs m λ_=>0:=aR λk hk=>by
    by_cases e:k=r
    .rw[if_pos e]
    .rw[if_neg e,other k hk e];grind
   rw[z,eZ] at this;rw[e];grind
  .exact other i hi e
theorem LI.whole (h:LI m Aq R)(s:SI m w A0 R m m d sg)(hi:i < m)(hx:x < m):(rs m λk=>(at2 R i (m+k) / (d:Rat))*Aq k x)=if x=i then 1 else 0:=by
 obtain⟨A,c,B,e⟩:=s.bar;have dn:=B.dne;have i2:=B.i2 i x hi hx;rw[B.full rfl x hx] at i2;have l:=h.lin i x hi hx;rw[i2] at l;have:(rs m λk=>(at2 R i (m+k) / (d:Rat))*Aq k x)=(1 / (d:Rat))*rs m λk=>at2 R i (m+k)*Aq k x:=by
  rw[<- fM];exact aR λk _=>by grind
 rw[this,<- l];split
 .grind
 .grind
theorem LI.lame (h:LI m Aq R)(s:SI m w A0 R r m d sg)(hr:r < m):(∃k,k < m/\ent R (m - 1) (m+k)≠0)/\∀x,x < m->(rs m λk=>at2 R (m - 1) (m+k)*Aq k x)=0:=by
 obtain⟨A,c,B,e⟩:=s.bar;exists Classical.byContradiction λn=>?_,λx hx=>?_
 .have all:∀k,k < m->ent R (m - 1) (m+k)=0:=λk hk=>Classical.byContradiction λz=>n ⟨k,hk,z⟩;have:=h.ind (λi=>if i=m - 1 then 1 else 0) (λj hj=>by
   have:(rs m λi=>(if i=m - 1 then (1:Rat) else 0)*at2 R i (m+j))=rs m λ_=>0:=aR λi _=>by
    by_cases e:i=m - 1
    .rw[if_pos e,e];have:at2 R (m - 1) (m+j)=0:=by unfold at2;rw[all j hj];simp
     rw[this];grind
    .rw[if_neg e];grind
   rw[this,eZ]) (m - 1) ()
  rw[if_pos rfl] at this;grind
 .rw[<- h.lin (m - 1) x () hx];exact B.i3 (m - 1) x () () hx
end Mq
namespace PySem
open Sem (wp)
section
variable {prog:Program} {w:World} {A:Around} {E:Value->Shared->Prop} {h:Heap} {g:Array GenState} {d:Drawn} {t:Nat} {os:OsState}
variable {nm q:Str} {C N f:Addr} {bs bm bmB:List Value} {hdct:Bool} {sn:List Str} {sub:List Value} {ab:Bool} {col:Option Bool} {dd:Option Addr} {k0 k1 k2 k3 k5:Option Value} {B Bn newId nid initId inN:String} {bmN:List Value}
abbrev gZ (h:Heap)(C:Addr)(rest:List Value):Heap:=(h.push { cls:=.type "tuple",data:=.seq rest.toArray }).push { cls:=.ref C,data:=.fields #[.ref h.objs.size,.none,.none,.none,.bool false,.none] }
theorem wQ (Fn:ExcBaseFacts Bn newId inN bmN)(hBn:bmB.contains (.type Bn)=true)(F:ExcBaseFacts B nid initId bmB)(T:OwnTail h bmB bm)(hC:h.get? C=some (excClassObj nm q C N bs bm hdct sn sub ab col dd k0 k1 k2 k3 k5 newId))(hl:W.Looks (model prog w) h (typeLookup (.ref C) "__init__") (some (.ref f)))(hb:∀self,W.Looks (model prog w) h (bindSpecial (.ref f) self) (.ref f,[self]))(hq:wpAny (model prog w) A (call (.ref f) (.ref (h.objs.size+1) :: rest)) (λr s'=>r=.none/\Q (.done (.ret (.ref (h.objs.size+1)))) s') E ⟨gZ h C rest,g,d,t,os⟩)(hrest:rest.length<=sizeLine):
  wpAny (model prog w) A (Builtin.«type.__call__» ⟨.ref C :: rest,[]⟩) Q E ⟨h,g,d,t,os⟩:=by
 repeat (first | with_reducible refine wpAny_loadPart_at hC ?_ | with_reducible refine wpAny_madeBy_exc hC ?_ | wp_step)
 refine codeAny_call_builtin_code (Code.quiet_builtin _ Fn.quiet) (wpAny_check_new_subU Fn hBn T hC ?_);refine codeAny_exc_new_subU Fn hBn F T hC ?_ hrest;show wpAny _ _ _ _ _ _;have k:∀b o,h.get? b=some o->(gZ h C rest).get? b=some o:=λb o e=>Heap.get?_push_of_some _ (Heap.get?_push_of_some _ e);have hC₁:=k _ _ hC;have hget:(gZ h C rest).get? (h.objs.size+1)=some { cls:=.ref C,data:=.fields #[.ref h.objs.size,.none,.none,.none,.bool false,.none] }:=by
  have:=Heap.get?_push_size (h.push { cls:=.type "tuple",data:=.seq rest.toArray }) (o:={ cls:=.ref C,data:=.fields #[.ref h.objs.size,.none,.none,.none,.bool false,.none] }) rfl
  rwa [Heap.size_push] at this
 have hcC:(Value.ref C :: bm).contains (.ref C)=true:=by simp
 unfold isInstance
 repeat (first | with_reducible refine wpAny_loadPart_at hget ?_ | (with_reducible refine wpAny_isSubtype_exc hC₁ ?_;rw[hcC]) | wp_step)
 show wpAny _ _ (typeLookup (.ref C) _) _ _ _;refine(hl.keeps k).here ?_;refine wpAny_holding (wpAny_bind (((hb _).keeps k).here ?_));refine wpAny_bind (wpAny_mono hq (λr s' z=>?_) λ_ _ z=>z);obtain⟨rfl,z⟩:=z;refine wpAny_pure ?_;exact wpAny_pure z
theorem Pk (Fn:ExcBaseFacts Bn newId inN bmN)(hBn:bmB.contains (.type Bn)=true)(F:ExcBaseFacts B nid initId bmB)(T:OwnTail h bmB bm)(hC:h.get? C=some (excClassObj nm q C N bs bm hdct sn sub ab col dd k0 k1 k2 k3 k5 newId))(hl:W.Looks (model prog w) h (typeLookup (.ref C) "__init__") (some (.ref f)))(hb:∀self,W.Looks (model prog w) h (bindSpecial (.ref f) self) (.ref f,[self]))(hq:wpAny (model prog w) (A.under (.builtin "type.__call__" ⟨.ref C :: rest,[]⟩)) (call (.ref f) (.ref (h.objs.size+1) :: rest)) (λr s'=>r=.none/\Q (.ref (h.objs.size+1)) s') E ⟨gZ h C rest,g,d,t,os⟩)(hrest:rest.length<=sizeLine):
  wpAny (model prog w) A (call (.ref C) rest) Q E ⟨h,g,d,t,os⟩:=by
 have f1:=tc_lookup;have f2:=tc_bind (.ref C);have hT:(⟨h,g,d,t,os⟩:Shared).TypeIs (.ref C) "type":=⟨_,hC,rfl⟩
 refine wpAny_call (codeAny_of_tree ?_);show wpAny _ _ (callAny (.ref C) _) _ _ _
 repeat (any_goals (first | assumption | with_reducible refine wpAny_loadPart_at hC ?_ | wp_step))
 exists rfl,?_;refine codeAny_call_builtin_at (Code.quiet_builtin _ ∅) entry_typeCall (wpAny_check_type_call_sub hC (wQ Fn hBn F T hC hl hb ?_ hrest));exact hq
end
section
variable {M:Model} {A:Around} {E:Value->Shared->Prop} {env:Env}
variable {nm q:Str} {C N:Addr} {bs bm:List Value} {hdct:Bool} {sn:List Str} {sub:List Value} {ab:Bool} {col:Option Bool} {dd:Option Addr} {k0 k1 k2 k3 k5:Option Value} {newId:String}
theorem jB (hbase:bm.contains (.type "BaseException")=true)(hh:A.handled=none)(h:wpAny M A x (λv s₁=>∃e t dx,v=.ref e/\s₁.heap.get? C=some (excClassObj nm q C N bs bm hdct sn sub ab col dd k0 k1 k2 k3 k5 newId)/\
   s₁.heap.get? e=some { cls:=.ref C,dict:=dx,data:=.fields #[.ref t,.none,.none,.none,.bool false,.none] }/\E (.ref e) s₁) E s):
  wpAny M A (raiseStmt env (some x) none) Q E s:=by
 have hcB:(Value.ref C :: bm).contains (.type "BaseException")=true:=by rw[contains_cons,hbase,Bool.or_true]
 unfold raiseStmt;refine wpAny_bind (wpAny_mono h (λv s₁ h₁=>?_) λ_ _ x=>x);obtain⟨e,t,dx,rfl,hC,he,hE⟩:=h₁;obtain⟨hp,g,d,tk,os⟩:=s₁
 repeat (first | with_reducible refine wpAny_loadPart_at he ?_ | with_reducible refine wpAny_loadPart_at hC ?_ | (with_reducible refine wpAny_isSubtype_exc hC ?_;rw[hcB]) | wp_step)
 exact wpAny_raiseNew_none hh hE
end
section
variable {prog:Program} {w:World} {A:Around} {E:Value->Shared->Prop} {s:Shared} {env:Env}
variable {nm q:Str} {C N f:Addr} {bs bm bmB:List Value} {hdct:Bool} {sn:List Str} {sub:List Value} {ab:Bool} {col:Option Bool} {dd:Option Addr} {k0 k1 k2 k3 k5:Option Value} {B Bn newId nid initId inN:String} {bmN:List Value}
theorem Jb (Fn:ExcBaseFacts Bn newId inN bmN)(hBn:bmB.contains (.type Bn)=true)(F:ExcBaseFacts B nid initId bmB)(hbase:bm.contains (.type "BaseException")=true)(hh:A.handled=none)(hplain:(backTo cpos (starEach args env)).any (·.1)=false)(h:wpAny (model prog w) A (eval (.Name x np) env) (λf' s₁=>f'=.ref C/\wpAny (model prog w) A (evalArgs (.ref C) true (backTo cpos (starEach args env)) [])
   (λa s₂=>a.kw=[]/\a.pos.length<=sizeLine/\s₂.heap.get? C=some (excClassObj nm q C N bs bm hdct sn sub ab col dd k0 k1 k2 k3 k5 newId)/\OwnTail s₂.heap bmB bm/\
    W.Looks (model prog w) s₂.heap (typeLookup (.ref C) "__init__") (some (.ref f))/\(∀self,W.Looks (model prog w) s₂.heap (bindSpecial (.ref f) self) (.ref f,[self]))/\
    wpAny (model prog w) (A.under (.builtin "type.__call__" ⟨.ref C :: a.pos,[]⟩)) (call (.ref f) (.ref (s₂.heap.objs.size+1) :: a.pos)) (λr s'=>r=.none/\∃t dx,s'.heap.get? C=some (excClassObj nm q C N bs bm hdct sn sub ab col dd k0 k1 k2 k3 k5 newId)/\
     s'.heap.get? (s₂.heap.objs.size+1)=some { cls:=.ref C,dict:=dx,data:=.fields #[.ref t,.none,.none,.none,.bool false,.none] }/\E (.ref (s₂.heap.objs.size+1)) s') E { s₂ with heap:=gZ s₂.heap C a.pos }) E s₁) E s):
  wpAny (model prog w) A (exec (.Raise (some (.Call (.Name x np) args [] cpos)) none pos) env) Q E s:=by
 rw[arm_exec_Raise]
 first
  |refine wpAny_bind (wpAny_standAt (jB (C:=C) (nm:=nm) (q:=q) (N:=N) (bs:=bs) (bm:=bm) (hdct:=hdct) (sn:=sn) (sub:=sub) (ab:=ab) (col:=col) (dd:=dd) (k0:=k0) (k1:=k1) (k2:=k2) (k3:=k3) (k5:=k5) (newId:=newId) hbase hh (wpAny_bind (wpAny_mono (wpAny_Call_ofName (wpAny_mono h (λf s₁ h₁=>?_) λ_ _ x=>x)) (λv s₃ h₃=>wpAny_bind (wpAny_standAt (wpAny_pure h₃))) λ_ _ x=>x))))
  | (simp only[evalOpt,Option.map];refine wpAny_bind (wpAny_standAt (jB (C:=C) (nm:=nm) (q:=q) (N:=N) (bs:=bs) (bm:=bm) (hdct:=hdct) (sn:=sn) (sub:=sub) (ab:=ab) (col:=col) (dd:=dd) (k0:=k0) (k1:=k1) (k2:=k2) (k3:=k3) (k5:=k5) (newId:=newId) hbase hh (wpAny_bind (wpAny_mono (wpAny_Call_ofName (wpAny_mono h (λf s₁ h₁=>?_) λ_ _ x=>x)) (λv s₃ h₃=>wpAny_bind (wpAny_standAt (wpAny_pure h₃))) λ_ _ x=>x)))))
  | (refine wpAny_bind (wpAny_standAt (jB (C:=C) (nm:=nm) (q:=q) (N:=N) (bs:=bs) (bm:=bm) (hdct:=hdct) (sn:=sn) (sub:=sub) (ab:=ab) (col:=col) (dd:=dd) (k0:=k0) (k1:=k1) (k2:=k2) (k3:=k3) (k5:=k5) (newId:=newId) hbase hh ?_));refine wpAny_bind (wpAny_mono (wpAny_Call_ofName (wpAny_mono h (λf s₁ h₁=>?_) λ_ _ x=>x)) (λv s₃ h₃=>wpAny_bind (wpAny_standAt (wpAny_pure h₃))) λ_ _ x=>x))
 obtain⟨rfl,h₁⟩:=h₁;unfold callWith;refine wpAny_bind (wpAny_holding (wpAny_mono h₁ (λa s₂ h₂=>wpAny_bind (wpAny_standAt ?_)) λ_ _ x=>x));obtain⟨apos,akw⟩:=a;obtain⟨hkw,hlen,hC,T,hl,hb,h₂⟩:=h₂;obtain rfl:akw=[]:=hkw;obtain⟨hp,g,d,tk,os⟩:=s₂;simp only[hplain];refine wpAny_bind (wpAny_keeperOf_exc hC ?_);refine wpAny_bind (Pk Fn hBn F T hC hl hb (wpAny_mono h₂ (λr s' z=>?_) λ_ _ z=>z) hlen);obtain⟨rfl,t,dx,z1,z2,z3⟩:=z;exists rfl,wpAny_bind (wpAny_holding (wpAny_point (wpAny_pure ⟨_,t,dx,rfl,z1,z2,z3⟩)))
end
end PySem
namespace L2
open PySem PySem.Spec PyProof.Rows
def iQ (a:Addr)(C:Value)(d:Option Addr):HO:=.ext λh=>∃t,h.get? a=some { cls:=C,dict:=d,data:=.fields #[.ref t,.none,.none,.none,.bool false,.none] }
theorem qQ (e:h.get? a=some { cls:=C,dict:=d,data:=.fields #[.ref t,.none,.none,.none,.bool false,.none] }):dP P w H h a (iQ a C d):=
 ⟨⟨t,e⟩,⟨_,e⟩,λh1 h2 ⟨t',e'⟩ k=>⟨t',k _ e'⟩⟩
def pS (H:Hp)(x:Addr):Hp:=λb=>if b=x then none else H b
theorem jV (h:b≠x):pS H x b=H b:=by unfold pS;rw[if_neg h]
theorem Ey (H:Hp)(x:Addr):pS H x x=none:=by unfold pS;rw[if_pos rfl]
section
variable {X:Cx} {pins:List (Addr × Obj)} {σ:List (Option V)} {H:Hp} {s:Shared}
theorem Inv.forget (I:Inv X pins σ H s)(hx:H x=some (.ext φ)):Inv X pins σ (pS H x) s:=by
 have non:∀b,H b=none->pS H x b=none:=λb e=>by unfold pS;split;rfl;exact e
 have keep:∀b u,H b=some u->u≠.ext φ->pS H x b=some u:=λb u e n=>by
  have:b≠x:=λz=>by rw[z,hx] at e;cases e;exact n rfl
  rw[jV this];exact e
 exists I.ok,I.os,I.bare,⟨I.base.keep,I.base.slot,λb o e1 e2 e3=>non b (I.base.free b o e1 e2 e3),I.base.there,λb xs e=>keep b _ (I.base.tups b xs e) (λz=>by cases z),λb o u e=>keep b _ (I.base.frzs b o u e) (λz=>by cases z),λb ps e=>?_⟩,I.loc,I.cell,non _ I.free,λy c e=>non _ (I.freeC y c e),λp hp=>?_,λb u e=>?_,I.len
 .obtain⟨more,q⟩:=I.base.tbls b ps e;exists more,keep b _ q (λz=>by cases z)
 .obtain⟨a1,a2,a3⟩:=I.pin p hp;exists a1,non _ a2,a3
 .have ne:b≠x:=λz=>by rw[z,Ey] at e;cases e
  rw[jV ne] at e;exact(I.hok b u e).stay (λc v _ q=>q) (λc q=>keep c _ q (λz=>by cases z)) λc xs q=>keep c _ q (λz=>by cases z)
end
structure lV (K:Frag) (C C0 f:Addr):Prop where
 cls:∃(nm q:Str) (N:Addr) (bs:List Value) (sn:List Str) (sub:List Value) (ab:Bool) (col:Option Bool) (dd:Option Addr) (k0 k1 k2 k3 k5:Option Value),K.lookup C=some (excClassObj nm q C N bs (.ref C0 :: yP) true sn sub ab col dd k0 k1 k2 k3 k5 "ValueError.__new__")
 base:∃(nm q:Str) (N:Addr) (bs:List Value) (hdct:Bool) (sn:List Str) (sub:List Value) (ab:Bool) (col:Option Bool) (dd:Option Addr) (k0 k1 k2 k3 k5:Option Value),K.lookup C0=some (excClassObj nm q C0 N bs yP hdct sn sub ab col dd k0 k1 k2 k3 k5 "ValueError.__new__")
 exc:qn2 K C0
 ini:W.findIn K (.ref C) "__init__"=some (some (.ref f))
 fn:W.typeIn K (.ref f)=some (.type "function")
theorem lV.tail {K:Frag}(e:lV K C C0 f)(X:K.In h):OwnTail h yP (.ref C0 :: yP):=by
 obtain⟨nm,q,N,bs,hdct,sn,sub,ab,col,dd,k0,k1,k2,k3,k5,l⟩:=e.base;have z:=e.exc;unfold qn2 W.excIn at z;rw[l] at z;simp only[Bool.and_eq_true,beq_iff_eq,Bool.not_eq_true'] at z;obtain⟨⟨⟨⟨_,_⟩,ht⟩,hok⟩,hni⟩:=z;exact .own (X _ _ l) (.of_isNs (W.isNs_of_in X hok)) (W.nsMap_none_of_in X hok hni) .base
section
variable {X:Cx} {pins:List (Addr × Obj)} {σ:List (Option V)} {H:Hp} {s:Shared} {k:Nat} {f C C0:Addr} {fd:FuncData} {ps:List Str} {sp:Sp}
def Xm (C:Addr)(sp:Sp)(E:XK)(ta:TA):TS:=λ_ σ H=>ta σ H λvs H1=>vs.length<=sizeLine/\∀x,H1 x=none->sp (.ref x :: vs) (upd H1 x (iQ x (.ref C) none)) (λv H2=>v=.non/\∃dx,H2 x=some (iQ x (.ref C) dx)/\E (.ref C) dx (pS H2 x)) E0
theorem zT (fm:Frm X)(xo:qb1 X E)(hc:X.calm=true)(hg:Gl X x)(hm:X.mg x=some (.ref C))(q:lV X.K C C0 f)(F:aL X.prog X.w X.K X.mg X.base CX0 k f fd ps sp)(hr:iI (k+1) X.A)(hb:aP X.K fd ps [])(ha:PA X (e₀ :: es) ta)(hdb:(x == ("__debug__":Str))=false:=by decide)(he:starEach (e₀ :: es) X.env=(false,eval e₀ X.env) :: starEach es X.env:=by rfl)(hpl:(backTo cpos (starEach es X.env)).any (·.1)=false:=by rfl):
  PS X (.Raise (some (.Call (.Name x np) (e₀ :: es) [] cpos)) none pos) (Xm C sp E ta):=by
 intro pins s σ H D I h;obtain⟨nm,qn,N,bs,sn,sub,ab,col,dd,k0,k1,k2,k3,k5,lC⟩:=q.cls;have FB:=PySem.F.excBase_ValueError;have T:=q.tail I.mod.kin;refine Jb (C:=C) (f:=f) (nm:=nm) (q:=qn) (N:=N) (bs:=bs) (bm:=.ref C0 :: yP) (hdct:=true) (sn:=sn) (sub:=sub) (ab:=ab) (col:=col) (dd:=dd) (k0:=k0) (k1:=k1) (k2:=k2) (k3:=k3) (k5:=k5)
  FB ∅ FB (T.hasType FB.hasBase) (I.ok.hd hc) (by rw[he];show (false || (backTo cpos (starEach es X.env)).any (·.1))=false;rw[hpl];rfl) (kP I hg hm ⟨rfl,?_⟩ hdb)
 have ha':=ha cpos pins s σ H _ I h;rw[he] at ha' ⊢;refine Calls.evalArgs_plain (wpAny_mono ha' (λus s2 h2=>?_) λ_ _ y=>y);obtain⟨vs,H1,I1,r,hz,q1⟩:=h2;have kIn:=I1.kIn;exists rfl,by rw[<- r.length];exact hz,kIn _ _ lC,q.tail kIn,W.looks_findIn kIn q.ini,λself=>W.bind_fn kIn self q.fn,?_;dsimp only;have kh:∀b o,s2.heap.get? b=some o->(gZ s2.heap C us).get? b=some o:=λb o e=>Heap.get?_push_of_some _ (Heap.get?_push_of_some _ e);have hget:(gZ s2.heap C us).get? (s2.heap.objs.size+1)=some { cls:=.ref C,data:=.fields #[.ref s2.heap.objs.size,.none,.none,.none,.bool false,.none] }:=by
  have:=Heap.get?_push_size (s2.heap.push { cls:=.type "tuple",data:=.seq us.toArray }) (o:={ cls:=.ref C,data:=.fields #[.ref s2.heap.objs.size,.none,.none,.none,.bool false,.none] }) rfl
  rwa [Heap.size_push] at this
 have fr:H1 (s2.heap.objs.size+1)=none:=I1.hok.fresh (Nat.le_succ _);have I2:Inv X pins σ (upd H1 (s2.heap.objs.size+1) (iQ (s2.heap.objs.size+1) (.ref C) none)) { s2 with heap:=gZ s2.heap C us }:=
  I1.laid (t':=s2.toks) kh (Nat.le_succ _) (qQ hget)
 have hq:=q1 _ fr;have rv:cJ (V.ref (s2.heap.objs.size+1) :: vs) (Value.ref (s2.heap.objs.size+1) :: us):=.cons rfl r;have hl:(Value.ref (s2.heap.objs.size+1) :: us++[]).length=ps.length:=by
  have e:=rv.length;rw[F.len _ _ _ _ hq] at e;rw[append_nil];exact e.symm
 refine wpAny_call (codeAny_mono (F.run _ X.stack _ _ ⟨Value.ref (s2.heap.objs.size+1) :: us,[]⟩ (Value.ref (s2.heap.objs.size+1) :: us) _ _ E0 (hr.make C us []) (I2.env0.make C us []) (by have:=hb _ (Value.ref (s2.heap.objs.size+1) :: us) I2.kIn hl;rwa [append_nil] at this) rv hq) λres s' hq'=>?_)
 cases res with
 |error e=>exact(show False from hq').elim
 |ok fl=>
  cases fl with
  |ret u=>
   obtain⟨v,H',os,bare,un,hok,rvu,ev,dx,ex,q3⟩:=hq';subst ev;have J:Inv X pins σ H' s':=I2.call' (ch:=[]) os un hok bare λb z=>absurd z ⋯;obtain⟨⟨t,ht⟩,_⟩:=(show dP X.prog X.w H' s'.heap _ (iQ _ (.ref C) dx) from J.hok _ _ ex)
   exists rvu,t,dx,J.kIn _ _ lC,ht,?_;refine xo pins σ _ s' _ (.ref C) dx ⟨J.forget ex,s2.heap,λp hp z=>?_,λb o e=>I1.base.there b o e (by rw[fm.ex];simp),λb o e=>un.there b o (kh b o e) ⋯,⟨Mo (Nat.le_succ _),Ey _ _,_,_,.none,ht,rfl,rfl,rfl,rfl,.inl rfl⟩⟩ q3;rw[(I1.pin p hp).1] at z;cases z
  |next=>exact False.elim hq'
  |brk=>exact False.elim hq'
  |cont=>exact False.elim hq'
end
theorem Sm (h:H a=some o):upd H a o=H:=by
 funext b
 by_cases e:b=a
 .rw[e,aB,h]
 .rw[aV e]
section
variable {X:Cx} {C C0 f:Addr}
theorem Ch:lQ X (.builtin "ValueError.__init__") (λxs H Q=>∃a C C0 f d v,xs=[.ref a,v]/\H a=some (iQ a (.ref C) d)/\lV X.K C C0 f/\Q .non H):=by
 intro pins s σ H xs us Q I r h;obtain⟨a,C,C0,f,d,v,rfl,ea,q,hq⟩:=h;obtain⟨u1,us',rfl,r1,r2⟩:∃u1 us',us=u1 :: us'/\cN (.ref a) u1/\cJ [v] us':=by cases r with | cons p q=>exact⟨_,_,rfl,p,q⟩
 obtain rfl:u1=Value.ref a:=r1;obtain⟨⟨t,he⟩,_⟩:=(show dP X.prog X.w H s.heap a (iQ a (.ref C) d) from I.hok a _ ea)
 obtain⟨nm,qn,N,bs,sn,sub,ab,col,dd,k0,k1,k2,k3,k5,lC⟩:=q.cls;have FB:=PySem.F.excBase_ValueError;have T:=q.tail I.kIn;have hl:us'.length=1:=r2.length.symm;have hC:=I.kIn _ _ lC;have fin:∀s',s'={ s with heap:=(s.heap.push { cls:=.type "tuple",data:=.seq us'.toArray }).update a (Obj.mapFields (·.setIfInBounds 0 (.ref s.heap.objs.size))) }->EP X pins σ Q .none s':=by
  rintro s' rfl;have I1:Inv X pins σ H { s with heap:=s.heap.push { cls:=.type "tuple",data:=.seq us'.toArray } }:=I.kept (t':=s.toks) λb o e=>Heap.get?_push_of_some _ e;have he1:=Heap.get?_push_of_some (h:=s.heap) { cls:=.type "tuple",data:=.seq us'.toArray } he;have e2:=Heap.get?_update_self (Obj.mapFields (·.setIfInBounds 0 (.ref s.heap.objs.size))) he1 rfl;have I2:=I1.write (x:=a) (e:=a) (t':=s.toks) (o:=iQ a (.ref C) d) (by rw[ea];exact True.intro) (.inl rfl) (λb u nb e=>(Heap.get?_update_other _ _ (Ne.symm nb)).trans e) ⟨_,e2⟩ (qQ (t:=s.heap.objs.size) e2);rw[Sm ea] at I2;exists .non,H,I2,rfl,hq
 obtain⟨hp,g,dr,tk,os⟩:=s;refine wpAny_call (codeAny_call_builtin FB.init.plain FB.initEntry (wpAny_check_init_subU FB T hC he rfl ?_));unfold Builtin.«BaseException.__init__»;dsimp only;rw[if_neg ⋯];unfold newTuple Builtin.BaseException.bexcPut;have he₁:=Heap.get?_push_of_some (h:=hp) { cls:=.type "tuple",data:=.seq us'.toArray } he;refine wpAny_bind (wpAny_newObj_type (wpAny_bind (wpAny_bind (wpAny_field he₁ rfl rfl (wpAny_bind (wpAny_setField he₁ rfl (show 0 < 6 by decide) ?_))))) (by show us'.toArray.size<=sizeLine;rw[size_toArray,hl];decide));exact wpAny_letGo (wpAny_pure (fin _ rfl))
structure Ue (K:Frag) (C0:Addr):Prop where
 sp:W.specialIn K (.ref C0) "__getattribute__"=some (some (.builtin "type.__getattribute__"))
 rd:W.readsIn K C0 (.type "type")=true
 fi:W.findCls K (.ref C0) (.type "type") "__init__"=some (.val (.builtin "ValueError.__init__"))
def Qx (K:Frag)(ta:TA):TE:=λσ H Q=>ta σ H λvs H1=>∃a C C0 f d v,vs=[.ref a,v]/\H1 a=some (iQ a (.ref C) d)/\lV K C C0 f/\Q .non H1
theorem Jg (hg:Gl X x)(hm:X.mg x=some (.ref C0))(c:Ue X.K C0)(ha:PA X (e :: es) t)(hdb:(x == ("__debug__":Str))=false:=by decide)(hst:starEach (e :: es) X.env=(false,eval e X.env) :: starEach es X.env:=by rfl)(hpl:(backTo pos (starEach es X.env)).any (·.1)=false:=by rfl)(ht:eval (.Call (.Attribute (.Name x np) "__init__" apos) (e :: es) [] pos) X.env=(do
   let ov <- eval (.Name x np) X.env
   standAt apos.atName
   let (f,first) <- holding [ov] (getMethod ov "__init__" pl)
   callWith pos f first (backTo pos (starEach (e :: es) X.env)) (backToKw pos (keywordEach [] X.env))):=by rfl):
  PE X (.Call (.Attribute (.Name x np) "__init__" apos) (e :: es) [] pos) (Qx X.K t):=by
 intro pins s σ H Q I h;refine W.methodCall_KW (pl:=pl) (kP I hg hm ?_ hdb) ht;refine W.method_cls I.kIn c.sp (W.cls_value I.kIn c.rd c.fi rfl ?_);have I':Inv X pins σ H { s with toks:=s.toks+1 }:=I.tok _;exact PyProof.Rows.callWith_builtin1 (thn (ha pos pins _ σ H _ I' h) λus s1 ⟨vs,H1,I1,r1,q1⟩=>Ch pins s1 σ H1 vs us Q I1 r1 q1) hst hpl
end
section
variable {prog:Program} {w:World} {A:Around} {E:Value->Shared->Prop} {s:Shared} {K:Frag} {x C C0 f:Addr} {name:Str} {v:Value} {vs:Array Value}
theorem lV.cin (q:lV K C C0 f):∃cd,W.clsIn K C=some cd/\cd.mro=.ref C :: .ref C0 :: yP/\cd.hasDict=true:=by
 obtain⟨nm,qn,N,bs,sn,sub,ab,col,dd,k0,k1,k2,k3,k5,lC⟩:=q.cls;unfold W.clsIn;rw[lC];exists _,rfl,rfl,rfl
theorem Mh (X:K.In s.heap)(q:lV K C C0 f)(hx:s.heap.get? x=some { cls:=.ref C,data:=.fields vs })(hs:W.findIn K (.ref C) "__setattr__"=some (some (.builtin "object.__setattr__")))(hn:W.findIn K (.ref C) name=some none)(h:∀h',h'.get? x=some { cls:=.ref C,dict:=some s.heap.objs.size,data:=.fields vs }->h'.Ns1 s.heap.objs.size (λy=>if y=name then some v else none)->(∀b o,b≠x->s.heap.get? b=some o->h'.get? b=some o)->∀tk,Q .unit { s with heap:=h',toks:=tk }):
  wpAny (model prog w) A (setAttr (.ref x) name v) Q E s:=by
 have J:W.InstAt s.heap x { cls:=.ref C,data:=.fields vs } C none:=⟨hx,rfl,rfl,trivial⟩
 have SF:=PySem.F.store_object;have SV:=PySem.F.store_ValueError;obtain⟨cd,hc,hm,hd⟩:=q.cin;refine W.set_plain X J hs ?_;have sub:W.Looks (model prog w) s.heap (isInstance (.ref x) (.type "object")) true:=J.type.andThen (W.looks_mroIn X (by unfold W.mroIn;rw[hc,Option.bind_some,hm];rfl));refine codeAny_call_builtin SF.slot.plain SF.entry (@W.check_slot (model prog w) _ _ { s with toks:=s.toks+1 } "object.__setattr__" "object" "__setattr__" (.ref x) [.str name s.toks,v] [] _ SF.kind SF.split sub (SF.args (.ref x) (.str name s.toks) v) ?_);have hmro:W.Looks (model prog w) s.heap (mroOf (.ref C)) cd.mro:=(W.looks_clsIn X hc).andThen .now;rw[W.osa_eq,refuse_eq];refine wpAny_bind (wpAny_bind (W.Looks.here (s:={ s with toks:=s.toks+1 }) J.type (wpAny_bind (W.Looks.here (s:={ s with toks:=s.toks+1 }) hmro ?_))));rw[hm,refuseLoop_ref,refuseLoop_ref,SV.passes];refine wpAny_pure (wpAny_bind (W.Looks.here (s:={ s with toks:=s.toks+1 }) J.type (wpAny_bind (W.Looks.here (s:={ s with toks:=s.toks+1 }) (W.looks_findIn X hn) (wpAny_bind (wpAny_pure ?_))))));dsimp only;refine wpAny_bind (wpAny_pure (wpAny_bind (wpAny_bind (wpAny_loadPart hx (wpAny_bind (W.Looks.here (s:={ s with toks:=s.toks+1 }) (W.looks_clsIn X hc) ?_))))));rw[hd,if_neg ∅];dsimp only;rw[if_neg (by simp[typeHasDict])];have hx₁:(s.heap.push { cls:=.type "dict",data:=.dict #[] }).get? x=some { cls:=.ref C,data:=.fields vs }:=Heap.get?_push_of_some _ hx;have hxs:x≠s.heap.objs.size:=Nat.ne_of_lt (Heap.lt_size hx);refine wpAny_bind (wpAny_alloc' ?_);refine wpAny_bind (wpAny_update' hx₁ ?_);refine wpAny_pure ?_;have hgd:((s.heap.push { cls:=.type "dict",data:=.dict #[] }).update x λo=>{ cls:=o.cls,dict:=some s.heap.objs.size,data:=o.data,slots:=o.slots }).get? s.heap.objs.size
   = some { cls:=.type "dict",data:=.dict #[] }:=
  (Heap.get?_update_ne _ _ _ _ hxs.symm).trans (Heap.get?_push_at rfl rfl)
 have hnd:((s.heap.push { cls:=.type "dict",data:=.dict #[] }).update x λo=>{ cls:=o.cls,dict:=some s.heap.objs.size,data:=o.data,slots:=o.slots }).Ns s.heap.objs.size (λ_=>none):=
  ⟨_,#[],_,hgd,rfl,λe he=>absurd he ⋯,λ_=>rfl⟩
 show wpAny _ _ (Builtin.ObjectAttr.storeInDict s.heap.objs.size (.str name s.toks) name v) _ _ _;unfold Builtin.ObjectAttr.storeInDict Builtin.ObjectAttr.newKeyGuard;refine wpAny_bind (wpAny_pure (wpAny_bind (wpAny_nsSet1 (Heap.Ns1.of_empty hnd) λh' hn' hs'=>?_)));obtain⟨oD,esD,epD,hoD,hdD,hcD⟩:=hn'.count (Within.cons name v Within.nil);refine wpAny_bind (wpAny_lookBehind hoD (by rw[hdD];exact pastItsLine_dict (Nat.le_trans hcD (by rw[length_cons,length_nil,sizeLine_eq];lia))) ?_);refine wpAny_pure ?_;refine h h' ?_ ?_ (λb o nb e=>(hs'.2 b (Nat.ne_of_lt (Heap.lt_size e))).trans ((Heap.get?_update_ne _ _ _ _ nb).trans (Heap.get?_push_of_some _ e))) _
 .exact(hs'.2 x hxs).trans (Heap.get?_update_self _ hx₁ rfl)
 .exact hn'
end
section
variable {X:Cx} {o value:Expr} {nm:Str} {pos pos':Pos} {ta tv:TE}
structure Bm (K:Frag) (C:Addr) (nm:Str):Prop where
 sa:W.findIn K (.ref C) "__setattr__"=some (some (.builtin "object.__setattr__"))
 no:W.findIn K (.ref C) nm=some none
def qq7 (K:Frag)(ta tv:TE)(nm:Str):TS:=λD σ H=>tv σ H λy H1=>ta σ H1 λx H2=>∃a C C0 f,x=.ref a/\H2 a=some (iQ a (.ref C) none)/\lV K C C0 f/\Bm K C nm/\
 ∀dx,H2 dx=none->D.nx σ (upd (upd H2 dx (.xd [(nm,y)])) a (iQ a (.ref C) (some dx)))
theorem Wk (ha:PE X o ta)(hv:PE X value tv)(hs:swapsWith value (some (.Attribute o nm pos')) pos.line X.env=pure false):PS X (.Assign [.Attribute o nm pos'] value pos) (qq7 X.K ta tv nm):=by
 intro pins s σ H D I h;refine plainObj_wpAny_Assign_Attribute (thn (hv pins s σ H _ I h) λu s1 ⟨y,H1,I1,ry,q⟩=>thn (ha pins s1 σ H1 _ I1 q) λov s2 ⟨x,H2,I2,rx,a,C,C0,f,ex,ea,qi,qf,q2⟩=>?_) hs;subst ex;obtain rfl:ov=Value.ref a:=rx;obtain⟨⟨t,he⟩,_⟩:=(show dP X.prog X.w H2 s2.heap a (iQ a (.ref C) none) from I2.hok a _ ea)
 refine Mh I2.kIn qi he qf.sa qf.no λh' e1 e2 e3 tk=>?_;have fr:H2 s2.heap.objs.size=none:=I2.hok.fresh (Nat.le_refl _);exists σ,_,?_,q2 _ fr;have na:a≠s2.heap.objs.size:=Nat.ne_of_lt (Heap.lt_size he);have u1:=Heap.get?_update_self (λ_:Obj=>({ cls:=.ref C,data:=.fields #[.ref t,.none,.none,.none,.bool false,.none] }:Obj)) e1 rfl;have u2:∀b,b≠a->(h'.update a λ_:Obj=>({ cls:=.ref C,data:=.fields #[.ref t,.none,.none,.none,.bool false,.none] }:Obj)).get? b=h'.get? b:=λb nb=>Heap.get?_update_other _ _ (Ne.symm nb);generalize h'.update a (λ_:Obj=>({ cls:=.ref C,data:=.fields #[.ref t,.none,.none,.none,.bool false,.none] }:Obj))=h1 at u1 u2;have I3:Inv X pins σ (upd H2 s2.heap.objs.size (.xd [(nm,y)])) { s2 with heap:=h1,toks:=s2.toks }:=by
  refine I2.laid (a:=s2.heap.objs.size) (o:=.xd [(nm,y)]) (h':=h1) (t':=s2.toks) (λb u e=>?_) (Nat.le_refl _) ?_
  .by_cases nb:b=a
   .subst nb;rw[he] at e;cases e;exact u1
   .rw[u2 b nb];exact e3 b u nb e
  .obtain⟨od,es,ep,z1,z2⟩:=e2;exists _,⟨od,es,ep,(u2 _ (Ne.symm na)).trans z1,z2⟩,λg=>?_
   by_cases gg:g=nm
   .subst gg;rw[if_pos rfl,lookup_cons,beq_self_eq_true];exact ry
   .have:(g == nm)=false:=beq_eq_false_iff_ne.mpr gg;rw[if_neg gg,lookup_cons,this];exact True.intro
 have ea3:upd H2 s2.heap.objs.size (.xd [(nm,y)]) a=some (iQ a (.ref C) none):=by rw[aV na];exact ea
 exact I3.write (x:=a) (e:=a) (h':=h') (t':=tk) (by rw[ea3];exact True.intro) (.inl rfl) (λb u nb z=>by rw[<- u2 b nb];exact z) ⟨_,e1⟩ (qQ e1)
end
section
variable {X:Cx} {o:Expr} {nm:Str} {pos:Pos} {ta:TE}
inductive Rj (K:Frag) (nm:Str) (Q:VK) (x:V) (H1:Hp):Prop where
 |mk (a C dx fs v):x=.ref a->H1 a=some (sV a (.ref C) (some dx))->H1 dx=some (.xd fs)->Qt K C->W.hasDictIn K C=true->W.findIn K (.ref C) nm=some none->fs.lookup nm=some v->Q v H1->Rj K nm Q x H1
def Zk (K:Frag)(ta:TE)(nm:Str):TE:=λσ H Q=>ta σ H λx H1=>Rj K nm Q x H1
theorem Ys (he:PE X o ta)(hb:attributeBase o nm X.env (eval o X.env)=eval o X.env):PE X (.Attribute o nm pos) (Zk X.K ta nm):=by
 intro pins s σ H Q I h;refine Lg hb (thn (he pins s σ H _ I h) λu s1 ⟨x,H1,I1,rx,a,C,dx,fs,v,ex,ea,ed,k,hh,hn,l,q⟩=>?_);subst ex;obtain rfl:u=Value.ref a:=rx;obtain⟨⟨ob,vs,h1,h2,h3,h4⟩,_⟩:=(show dP X.prog X.w H1 s1.heap a (sV a (.ref C) (some dx)) from I1.hok a _ ea)
 obtain⟨mA,N1,r⟩:=(show dP X.prog X.w H1 s1.heap dx (.xd fs) from I1.hok dx _ ed)
 obtain⟨w',hw,rw'⟩:=kR.some_of (v:=v) (o:=mA nm) (by rw[<- l];exact r nm);obtain⟨od,ho,hl⟩:=zG N1;have J:W.InstAt s1.heap a ob C (some od):=⟨h1,h2,by unfold W.notCls;rw[h4],by rw[h3];exact ho⟩
 unfold getAttr;refine wpAny_bind (wpAny_mkText (qf6 (s:={ s1 with toks:=s1.toks+1 }) k I1.kIn J (zK rw') (.inl (W.findObj_own hh hn rfl (by rw[hl,hw]))) ?_));exists v,H1,I1.tok _,rw',q
end
end L2
namespace Shp
open PySem L2
inductive Fmd (K:Frag) (H0:Hp) (D:Addr) (H:Hp):wk->List (List Q2)->Prop where
 |nil:Fmd K H0 D H [] []
 |cons {u:Addr} {xs:wk} {ps:List Q2} {us:wk} {X:List (List Q2)} (n0:H0 u=none) (ne:u≠D) (h:H u=some (.lst xs)) (f:Fqs K H xs ps) (q:Fmd K H0 D H us X):Fmd K H0 D H (.ref u :: us) (ps :: X)
theorem Fmd.same (e:aX H H'):∀{xs:wk} {X:List (List Q2)},Fmd K H0 D H xs X->Fmd K H0 D H' xs X
 |_,_,.nil=>.nil
 |_,_,.cons n0 n h f q=>.cons n0 n (e _ _ h) (f.same e) (q.same e)
theorem Fmd.upd (hl:H D=some (.lst ys)):∀{xs:wk} {X:List (List Q2)},Fmd K H0 D H xs X->Fmd K H0 D (L2.upd H D o) xs X
 |_,_,.nil=>.nil
 |_,_,.cons n0 n h f q=>.cons n0 n (by rw[aV n];exact h) (f.upd hl) (q.upd hl)
theorem Fmd.length:∀{xs:wk} {X:List (List Q2)},Fmd K H0 D H xs X->xs.length=X.length
 |_,_,.nil=>rfl
 |_,_,.cons _ _ _ _ q=>by rw[length_cons,length_cons,q.length]
theorem Fmd.app:∀{xs ys:wk} {X Y:List (List Q2)},Fmd K H0 D H xs X->Fmd K H0 D H ys Y->Fmd K H0 D H (xs++ys) (X++Y)
 |_,_,_,_,.nil,k=>k
 |_,_,_,_,.cons n0 n h f q,k=>.cons n0 n h f (q.app k)
def pJ (X:List (List Q2)):Mat:=λi j=>Mq.val ((X.getD i []).getD j Mq.z0)
def gN (m i:Nat)(row:List Q2):List Int:=iw row++(List.range m).map λc=>if c=i then dR row else 0
def iC (X:List (List Q2)):List (List Int):=X.mapIdx λi row=>gN X.length i row
theorem oK (X:List (List Q2)):(iC X).length=X.length:=by unfold iC;simp
theorem oR (h:i < X.length):(iC X).getD i []=gN X.length i (X.getD i []):=by
 unfold iC;rw[getD_eq_getElem?_getD,getElem?_mapIdx,getD_eq_getElem?_getD,getElem?_eq_getElem h];rfl
theorem uS {X:List (List Q2)}(h:i < X.length):X[i]?=some (X.getD i []):=by rw[getD_eq_getElem?_getD,getElem?_eq_getElem h];rfl
theorem uI (m i:Nat)(row:List Q2):(gN m i row).length=row.length+m:=by unfold gN;simp[nH]
theorem tT (hX:gU X)(hw:∀row∈X,row.length=X.length)(hi:i < X.length)(hx:x < X.length):Mq.at2 (iC X) i x=((dR (X.getD i []):Int):Rat)*pJ X i x:=by
 have mem:=mem_of_getElem? (uS hi);show ((((iC X).getD i []).getD x 0:Int):Rat)=_;rw[oR hi];unfold gN;have l:=hw _ mem;rw[getD_eq_getElem?_getD,getElem?_append_left (by rw[nH];lia),<- getD_eq_getElem?_getD];exact Se (hX _ mem) ()
theorem yD (hw:∀row∈X,row.length=X.length)(hi:i < X.length)(hk:k < X.length):ent (iC X) i (X.length+k)=if k=i then dR (X.getD i []) else 0:=by
 have mem:=mem_of_getElem? (uS hi);unfold ent;rw[oR hi];unfold gN;have l:=hw _ mem;rw[getD_eq_getElem?_getD,getElem?_append_right (by rw[nH];lia),nH,l,Nat.add_sub_cancel_left,getElem?_map,getElem?_range hk];rfl
theorem Mn (hX:gU X)(hw:∀row∈X,row.length=X.length):Mq.LI X.length (pJ X) (iC X) where
 lin:=λi x hi hx=>by
  rw[tT hX hw hi hx];have:(Mq.rs X.length λk=>Mq.at2 (iC X) i (X.length+k)*pJ X k x)=Mq.rs X.length λk=>if k=i then ((dR (X.getD i []):Int):Rat)*pJ X i x else 0:=aR λk hk=>by
   show ((ent (iC X) i (X.length+k):Int):Rat)*_=_;rw[yD hw hi hk]
   by_cases e:k=i
   .rw[if_pos e,if_pos e,e]
   .rw[if_neg e,if_neg e];simp
  rw[this,Mq.oG _ _ _ hi]
 ind:=λlam hz i hi=>by
  have e:=hz i hi;have:(Mq.rs X.length λj=>lam j*Mq.at2 (iC X) j (X.length+i))=Mq.rs X.length λj=>if j=i then lam i*((dR (X.getD i []):Int):Rat) else 0:=aR λk hk=>by
   show _*((ent (iC X) k (X.length+i):Int):Rat)=_;rw[yD hw hk hi]
   by_cases e:k=i
   .rw[if_pos e,if_pos e.symm,e]
   .rw[if_neg e,if_neg (Ne.symm e)];simp
  rw[this,Mq.oG _ _ _ hi] at e;have g:=vT (hX _ (mem_of_getElem? (uS hi)));have n:=eE (show dR (X.getD i [])≠0 by lia);grind
theorem Lz (h:∀i j,i < X.length->j < X.length->Mq.at2 R i j=((dR (X.getD i []):Int):Rat)*pJ X i j):Mq.det X.length (Mq.at2 R)=((uW X:Int):Rat)*wgt X:=by
 unfold wgt;have hb:=sX X X.length (Nat.le_refl _);rw[take_length] at hb;rw[hb,<- tK];exact dH λi j hi hj=>h i j hi hj
theorem Ev (hX:gU X)(hR:Mq.det X.length (Mq.at2 R)=((uW X:Int):Rat)*wgt X)(h:SI X.length w (Mq.at2 R) R' r X.length d sg):(r < X.length/\wgt X=0)\/(r=X.length/\wgt X≠0):=by
 have b1:=Bz hX X.length (Nat.le_refl _);rw[take_length] at b1;have bn:=eE (show uW X≠0 by lia);obtain⟨A,c,B,e⟩:=h.bar;have rm:=B.rm;have dn:=B.dne;clear B
 by_cases hr:r < X.length
 .left
  have e:=h.lame hr;rw[hR] at e;exists hr,by grind
 .right
  have er:r=X.length:=by lia
  subst er;exists rfl,λz=>?_;have e:=h.whole;rw[hR,z] at e;rcases h.one with q | q
  .rw[q] at e;simp at e;grind
  .rw[q,Rat.intCast_neg] at e;simp at e;grind
structure Stp (m w:Nat) (A0:Mat) (Pr:List (List Int)->Prop):Prop where
 sw:∀R r col d sg p,SI m w A0 R r col d sg->r < p->p < m->Pr R->Pr (gR R p r)
 cl:∀R r col d sg,SI m w A0 R r col d sg->r < m->col < w->ent R r col≠0->Pr R->Pr (cY R r col d)
theorem Pq:Stp m w A0 (Mq.LI m Aq):=
 ⟨λR r col d sg p s h1 h2 h=>h.swap s.len h2 (),λR r col d sg s h1 h2 h3 h=>h.clear s h1 h2 h3⟩
inductive Jj (K:Frag) (vs:wk) (H:Hp) (Q:VK) (E:XK):Prop where
 |mk (l:Addr) (ts:List Int) (pv:Int) (n:Nat):vs=[.ref l,.int pv]->SqL K H l (ts.map V.int)->ts.length<=100->pv≠0->Mq.B n pv->n<=9000->(∀l' zs H',aX H H'->H l'=none->H' l'=some (.lst zs)->Fqs K H' zs (ts.map λt=>red t pv)->Q (.ref l') H')->Jj K vs H Q E
end Shp
namespace L2
open PySem
theorem Ge (h:X.K=K):SlR X (Qm K):=by subst h;exact iT
theorem xQ (h:X.K=K)(he:PE X o ta)(hb:attributeBase o nm X.env (eval o X.env)=eval o X.env):PE X (.Attribute o nm pos) (Zk K ta nm):=by subst h;exact Ys he hb
end L2
namespace Mq
theorem yO:∀l:List Rat,Gv l=rs l.length λj=>l.getD j 0
 | []=>rfl
 |x :: l=>by
  rw[length_cons,rA];show x+Gv l=_;rw[yO l];rfl
def pp (m x:Q2):Q2:=(m.1*x.1,m.2*x.2)
theorem qc7 (h1:1<=m.2)(h2:1<=x.2):val (pp m x)=val m*val x:=by
 have a1:=eE (show m.2≠0 by lia);have a2:=eE (show x.2≠0 by lia);unfold pp val;show ((m.1*x.1:Int):Rat) / ((m.2*x.2:Int):Rat)=_;rw[Rat.intCast_mul,Rat.intCast_mul];grind
theorem Jx (hm:Pos ms)(hx:Pos xs):Pos (zipWith pp ms xs):=λp hp=>by
 obtain⟨i,hi,rfl⟩:=getElem_of_mem hp;rw[getElem_zipWith];have h1:i < ms.length:=by simp at hi;lia
 have h2:i < xs.length:=by simp at hi;lia
 have:0 < ms[i].2*xs[i].2:=Int.mul_pos (by have:=hm _ (getElem_mem h1);lia) (by have:=hx _ (getElem_mem h2);lia);show 1<=ms[i].2*xs[i].2;lia
theorem sK {row:List Q2}(h:j < row.length):row[j]?=some (row.getD j z0):=by rw[getD_eq_getElem?_getD,getElem?_eq_getElem h];rfl
theorem yI (hm:Pos ms)(hx:Pos xs)(hl:xs.length=ms.length)(hq:Low q)(h:(rs ms.length λj=>val (ms.getD j z0)*val (xs.getD j z0))=val q):N (zipWith pp ms xs)*q.2=q.1*D (zipWith pp ms xs):=by
 have e:tot (zipWith pp ms xs)=q:=by
  refine Yw (vJ (Jx hm hx)) hq ?_;rw[Ln (Jx hm hx),yO,<- h];have ll:((zipWith pp ms xs).map val).length=ms.length:=by simp[hl]
  rw[ll];refine aR λj hj=>?_;rw[getD_eq_getElem?_getD,getElem?_map,getElem?_zipWith,sK hj,sK (show j < xs.length by lia)];exact qc7 (xU hm j) (xU hx j)
 have c:=(Pe (Jx hm hx)).symm;rw[e] at c;exact c
theorem Yd {ps:List Q2}(h:ps[i]?=some p):N (ps.take (i+1))=N (ps.take i)*p.2+p.1*D (ps.take i)/\D (ps.take (i+1))=D (ps.take i)*p.2:=by
 have ee:ps.take (i+1)=ps.take i++[p]:=by rw[take_add_one,h];rfl
 rw[ee,qn8,Zj];simp only[N,D];exists ?_,?_
 .grind
 .grind
end Mq
open Mq (sK yI)
namespace Shp
open PySem L2
theorem Fmd.get:∀{xs:wk} {X:List (List Q2)} {i:Nat} {x:V},Fmd K H0 D H xs X->xs[i]?=some x->∃u ys ps,x=.ref u/\X[i]?=some ps/\H0 u=none/\u≠D/\H u=some (.lst ys)/\Fqs K H ys ps
 |_,_,0,_,.cons n0 n h f q,e=>by simp at e;exists _,_,_,e.symm,rfl,n0,n,h,f
 |_,_,i+1,_,.cons n0 n h f q,e=>by simp at e;exact q.get e
inductive oM (K:Frag) (vs:wk) (H:Hp) (Q:VK) (E:XK):Prop where
 |mk (a o d:Addr) (xs ys:wk) (ms ps:List Q2) (q:Q2) (n n':Nat):vs=[.ref a,.ref o,.ref d]->SqL K H a xs->Fqs K H xs ms->SqL K H o ys->Fqs K H ys ps->Fq K H d q->(∀p∈ms,Bd n p)->(∀p∈ps,Bd n' p)->Bd 9000 q->ms.length<=10->n<=10000->n'<=10000->ps.length=ms.length->Mq.N (zipWith Mq.pp ms ps)*q.2=q.1*Mq.D (zipWith Mq.pp ms ps)->(∀H',aX H H'->Q (.bl true) H')->oM K vs H Q E
end Shp
namespace Mq
def KI (m:Nat)(A0:Mat)(R:List (List Int)):Prop:=∀Φ,Lin Φ->(∀k,k < m->Φ (at2 R k)=0)->∀i,i < m->Φ (A0 i)=0
theorem KI.swap (h:KI m A0 R)(hl:R.length=m)(hp:p < m)(hr:r < m):KI m A0 (gR R p r):=λΦ lin hz=>by
 refine h Φ lin λk hk=>?_;have e:at2 R k=at2 (gR R p r) (sw p r k):=by
  funext x
  rw[uB () (),Rp]
 rw[e];exact hz _ (Bx hp hr hk)
theorem KI.clear (h:KI m A1 R)(s:SI m w A0 R r col d sg)(hr:r < m)(hc:col < w)(he:ent R r col≠0):KI m A1 (cY R r col d):=λΦ lin hz=>by
 have dn:=s.dne;have hn:at2 R r col≠0:=λz=>he (Rat.intCast_inj.mp (by unfold at2 at z;simpa using z));have cl:=λ(i:Nat) (hi:i < m) (x:Nat)=>vL s hr hc he hi x;have zr:Φ (at2 R r)=0:=by
  have e:at2 R r=at2 (cY R r col d) r:=by funext x;rw[cl r hr x,if_pos rfl]
  rw[e];exact hz r hr
 refine h Φ lin λk hk=>?_
 by_cases e:k=r
 .rw[e];exact zr
 .have e2:at2 R k=λx=>(λx=>((d:Rat) / at2 R r col)*at2 (cY R r col d) k x) x+(at2 R k col / at2 R r col)*at2 R r x:=by
   funext x
   show _=((d:Rat) / at2 R r col)*at2 (cY R r col d) k x+_;rw[cl k hk x,if_neg e];grind
  rw[e2,lin,lin.mul,hz k hk,zr];grind
theorem KI.whole (h:KI m A1 R)(s:SI m w A0 R m m d sg)(hi:i < m):(rs m λk=>A1 i k*(at2 R k m / (d:Rat)))=A1 i m:=by
 obtain⟨A,c,B,e⟩:=s.bar;have dn:=B.dne;have:=h (λf=>(rs m λk=>f k*(at2 R k m / (d:Rat))) - f m) (λx y l=>by
  have:(rs m λk=>(x k+l*y k)*(at2 R k m / (d:Rat)))=(rs m λk=>x k*(at2 R k m / (d:Rat))+l*(y k*(at2 R k m / (d:Rat)))):=aR λk _=>by grind
  show (rs m λk=>(x k+l*y k)*(at2 R k m / (d:Rat))) - (x m+l*y m)=((rs m λk=>x k*(at2 R k m / (d:Rat))) - x m)+l*((rs m λk=>y k*(at2 R k m / (d:Rat))) - y m)
  rw[this,gC,fM];grind) (λk hk=>by
  have:(rs m λj=>at2 R k j*(at2 R j m / (d:Rat)))=rs m λj=>if j=k then (d:Rat)*(at2 R k m / (d:Rat)) else 0:=aR λj hj=>by
   have i2:=B.i2 k j hk hj;rw[B.full rfl j hj] at i2;rw[i2]
   by_cases z:j=k
   .rw[if_pos z,if_pos z,z]
   .rw[if_neg z,if_neg z];grind
  show (rs m λj=>at2 R k j*(at2 R j m / (d:Rat))) - at2 R k m=0;rw[this,oG m k _ hk];grind) i hi
 have e2:(rs m λk=>A1 i k*(at2 R k m / (d:Rat))) - A1 i m=0:=this;grind
end Mq
namespace Shp
open PySem L2
def oS (X:List (List Q2))(qs:List Q2):List (List Q2):=zipWith (λrow q=>row++[q]) X qs
def jO (X:List (List Q2))(qs:List Q2):List (List Int):=(oS X qs).map iw
section
variable {X:List (List Q2)} {qs:List Q2}
theorem qV (hl:qs.length=X.length):(oS X qs).length=X.length:=by unfold oS;simp[hl]
theorem Ew (hl:qs.length=X.length):(jO X qs).length=X.length:=by unfold jO;rw[length_map,qV hl]
theorem qO (hl:qs.length=X.length)(hi:i < X.length):(oS X qs).getD i []=X.getD i []++[qs.getD i Mq.z0]:=by
 unfold oS;rw[getD_eq_getElem?_getD,getElem?_zipWith,uS hi,sK (show i < qs.length by lia)];rfl
theorem xY (hl:qs.length=X.length)(hi:i < X.length):(jO X qs).getD i []=iw (X.getD i []++[qs.getD i Mq.z0]):=by
 unfold jO;rw[getD_eq_getElem?_getD,getElem?_map,uS (X:=oS X qs) (by rw[qV hl];exact hi),qO hl hi];rfl
theorem vV (hX:gU X)(hq:Mq.Pos qs)(hl:qs.length=X.length)(hi:i < X.length):Mq.Pos (X.getD i []++[qs.getD i Mq.z0]):=λp hp=>by
 rcases mem_append.mp hp with z | z
 .exact hX _ (mem_of_getElem? (uS hi)) p z
 .have e:p=qs.getD i Mq.z0:=by simpa using z
  rw[e];exact Mq.xU hq i
theorem Hg (hX:gU X)(hq:Mq.Pos qs)(hl:qs.length=X.length):gU (oS X qs):=λrow hr=>by
 obtain⟨i,hi,rfl⟩:=getElem_of_mem hr;have hi':i < X.length:=by rw[qV hl] at hi;exact hi
 have e:=qO hl hi';rw[getD_eq_getElem?_getD,getElem?_eq_getElem hi] at e;have e':(oS X qs)[i]=X.getD i []++[qs.getD i Mq.z0]:=e;rw[e'];exact vV hX hq hl hi'
theorem wH (hX:gU X)(hq:Mq.Pos qs)(hl:qs.length=X.length)(hw:∀row∈X,row.length=X.length)(hi:i < X.length)(hx:x < X.length+1):
  Mq.at2 (jO X qs) i x=((dR ((oS X qs).getD i []):Int):Rat)*if x < X.length then pJ X i x else Mq.val (qs.getD i Mq.z0):=by
 have l:=hw _ (mem_of_getElem? (uS hi));show ((((jO X qs).getD i []).getD x 0:Int):Rat)=_;rw[xY hl hi,qO hl hi,Se (vV hX hq hl hi) (by rw[xj,l];simpa using hx)];congr 1
 by_cases h:x < X.length
 .rw[if_pos h,getD_eq_getElem?_getD,getElem?_append_left (by rw[l];exact h),<- getD_eq_getElem?_getD];rfl
 .have ex:x=X.length:=by lia
  rw[if_neg h,getD_eq_getElem?_getD,getElem?_append_right (by rw[l];lia),l,ex,Nat.sub_self];rfl
theorem Xj (hX:gU X)(hq:Mq.Pos qs)(hl:qs.length=X.length)(hw:∀row∈X,row.length=X.length):Mq.det X.length (Mq.at2 (jO X qs))=((uW (oS X qs):Int):Rat)*wgt X:=by
 unfold wgt;have hb:=sX (oS X qs) (oS X qs).length (Nat.le_refl _);rw[take_length,qV hl] at hb;rw[hb,<- tK];refine dH λi j hi hj=>?_;rw[wH hX hq hl hw hi (),if_pos hj];rfl
theorem Oe (fn:f≠0)(hR:Mq.det X.length (Mq.at2 R)=f*wgt X)(h:SI X.length w (Mq.at2 R) R' r X.length d sg):(r < X.length/\wgt X=0)\/(r=X.length/\wgt X≠0):=by
 obtain⟨A,c,B,e⟩:=h.bar;have rm:=B.rm;have dn:=B.dne;clear B
 by_cases hr:r < X.length
 .left
  have e:=h.lame hr;rw[hR] at e;exists hr,by grind
 .right
  have er:r=X.length:=by lia
  subst er;exists rfl,λz=>?_;have e:=h.whole;rw[hR,z] at e;rcases h.one with q | q
  .rw[q] at e;simp at e;grind
  .rw[q,Rat.intCast_neg] at e;simp at e;grind
theorem Uj (hX:gU X)(hq:Mq.Pos qs)(hl:qs.length=X.length)(hw:∀row∈X,row.length=X.length)(h:SI X.length w (Mq.at2 (jO X qs)) R' r X.length d sg):(r < X.length/\wgt X=0)\/(r=X.length/\wgt X≠0):=by
 have b1:=Bz (Hg hX hq hl) (oS X qs).length (Nat.le_refl _);rw[take_length] at b1;exact Oe (eE (show uW (oS X qs)≠0 by lia)) (Xj hX hq hl hw) h
end
structure Slv (X:List (List Q2)) (qs ps:List Q2):Prop where
 len:ps.length=X.length
 low:gK ps
 bd:∀p∈ps,Bd 9000 p
 sum:∀i,i < X.length->(Mq.rs X.length λj=>pJ X i j*Mq.val (ps.getD j Mq.z0))=Mq.val (qs.getD i Mq.z0)
theorem qf5 (hX:gU X)(hq:Mq.Pos qs)(hl:qs.length=X.length)(hw:∀row∈X,row.length=X.length)(h:Mq.KI X.length (Mq.at2 (jO X qs)) R)(s:SI X.length w (Mq.at2 (jO X qs)) R X.length X.length d sg)(hi:i < X.length):(Mq.rs X.length λj=>pJ X i j*(Mq.at2 R j X.length / (d:Rat)))=Mq.val (qs.getD i Mq.z0):=by
 have e:=h.whole s hi;rw[wH hX hq hl hw hi (),if_neg ()] at e;have e2:(Mq.rs X.length λk=>Mq.at2 (jO X qs) i k*(Mq.at2 R k X.length / (d:Rat)))=((dR ((oS X qs).getD i []):Int):Rat)*Mq.rs X.length λk=>pJ X i k*(Mq.at2 R k X.length / (d:Rat)):=by
  rw[<- fM];refine aR λk hk=>?_;rw[wH hX hq hl hw hi (),if_pos hk];grind
 rw[e2] at e;have g:=vT (vV hX hq hl hi);have n:=eE (show dR ((oS X qs).getD i [])≠0 by rw[qO hl hi];lia);grind
end Shp
namespace Mq
def Wb (n:Nat)(x:Rat):Prop:=∃z:Int,x=(z:Rat)/\B n z
theorem Wb.mono (h:Wb n x)(l:n<=m):Wb m x:=by obtain⟨z,e,b⟩:=h;exists z,e,b.mono l
theorem Wb.mul (h:Wb n x)(k:Wb m y):Wb (n+m) (x*y):=by
 obtain⟨a,rfl,b⟩:=h;obtain⟨c,rfl,d⟩:=k;exists a*c,by rw[Rat.intCast_mul],b.mul d
theorem Wb.sub (h:Wb n x)(k:Wb n y):Wb (n+1) (x - y):=by
 obtain⟨a,rfl,b⟩:=h;obtain⟨c,rfl,d⟩:=k;exists a - c,by rw[Rat.intCast_sub],b.sub d
theorem Wb.neg (h:Wb n x):Wb n (-x):=by
 obtain⟨a,rfl,b⟩:=h;exists -a,by rw[Rat.intCast_neg],b.neg
theorem Wb.zero (n:Nat):Wb n 0:=⟨0,⋯,Nat.two_pow_pos _⟩
theorem Wb.one:Wb 1 1:=⟨1,⋯,show (1:Nat) < 2 ^ 1 by decide⟩
theorem Wb.sgn (h:Wb n x)(k:Nat):Wb n (Mq.sgn k*x):=by
 unfold Mq.sgn;split
 .rw[show (1:Rat)*x=x by grind];exact h
 .rw[show (-1:Rat)*x=-x by grind];exact h.neg
theorem Zu:∀K,(∀k,k < K->Wb n (f k))->∃z:Int,rs K f=(z:Rat)/\z.natAbs+K<=K*2 ^ n
 |0,_=>⟨0,by simp only[rs];simp,⋯⟩
 |K+1,h=>by
  obtain⟨z,e,b⟩:=Zu K λk hk=>h k ();obtain⟨y,e2,b2⟩:=h K ();exists z+y,by simp only[rs];rw[e,e2,Rat.intCast_add],?_;have:y.natAbs < 2 ^ n:=b2;rw[Nat.succ_mul];lia
def SB (n m:Nat)(R:List (List Int))(r col:Nat)(d:Int):Prop:=∃A c,Bar m A (at2 R) r col (d:Rat) c/\∀i x,i < m->Wb n (A i x)
theorem SB.start (hb:BdR n R):SB n m R 0 0 1:=
 ⟨at2 R,id,by
  have:=Bar.start (m:=m) (A:=at2 R) λi j=>⟨_,rfl⟩
  simpa using this,λi x _=>⟨ent R i x,rfl,hb i x⟩⟩
theorem SB.skip (h:SB n m R r col d)(hz:∀i,r<=i->i < m->ent R i col=0):SB n m R r (col+1) d:=by
 obtain⟨A,c,B,q⟩:=h;exists A,c,B.skip λi h1 h2=>by unfold at2;rw[hz i h1 h2];simp,q
theorem SB.swap (h:SB n m R r col d)(s:SI m w A0 R r col d sg)(hp:r < p)(hm:p < m):SB n m (gR R p r) r col d:=by
 obtain⟨A,c,B,q⟩:=h;have hl:=s.len;exists _,c,(B.swap () hm).congr λi hi=>?_,λi x hi=>q _ x (Bx hm () hi)
 funext x
 rw[uB () ()]
theorem SB.clear (h:SB n m R r col d)(s:SI m w A0 R r col d sg)(hr:r < m)(hc:col < w)(he:ent R r col≠0):SB n m (cY R r col d) (r+1) (col+1) (ent R r col):=by
 obtain⟨A,c,B,q⟩:=h;have heq:at2 R r col≠0:=λz=>he (Rat.intCast_inj.mp (by unfold at2 at z;simpa using z));exists A,_,(B.clear hr heq).congr λi hi=>?_,q
 funext x
 rw[vL s hr hc he hi x];unfold clr
 by_cases e:i=r
 .rw[if_pos e,if_pos e,e]
 .rw[if_neg e,if_neg e]
end Mq
namespace Shp
open PySem L2
abbrev bq (n m:Nat):Nat:=(n+4)*(m+1)+7
end Shp
namespace L2
open PySem PySem.Spec PyProof.Rows
section
variable {X:Cx} {k:Nat} {f C:Addr} {fd:FuncData} {ps:List Str} {sp:Sp} {dvs:wk} {ds:List Value} {x:Str} {p pos:Pos} {e:Expr} {es:List Expr} {t:TA}
def qn6 (C:Addr)(sp:Sp)(dvs:wk)(t:TA):TEX:=λσ H Q E=>t σ H λvs H1=>∀x dx,H1 x=none->H1 dx=none->dx≠x->
 sp (.ref x :: (vs++dvs)) (upd (upd H1 dx (.own x)) x (.ins C dx [])) (λv H2=>v=.non/\Q (.ref x) H2) E
theorem Oy (M:Mk X.K C f)(F:aL X.prog X.w X.K X.mg X.base (CX1 X.prog X.w) k f fd ps sp)(fm:Frm X)(hr:iI (k+1) X.A)(hb:aP X.K fd ps ds)(hd:cJ dvs ds)(I:Inv X pins σ H s)(r:cJ vs us)(h:∀x dx,H x=none->H dx=none->dx≠x->sp (.ref x :: (vs++dvs)) (upd (upd H dx (.own x)) x (.ins C dx [])) (λv H2=>v=.non/\Q (.ref x) H2) E):
  zzW X (call (.ref C) us) (EP X pins σ Q) (XP X pins λσ' C d H'=>σ'=σ/\E C d H') s:=by
 have hq:=h (s.heap.objs.size+1) s.heap.objs.size (I.hok.fresh (Nat.le_succ _)) (I.hok.fresh (Nat.le_refl _)) (Nat.ne_of_lt (Nat.lt_succ_self _));have I2:=Inv.made (C:=C) I;have r2:cJ (V.ref (s.heap.objs.size+1) :: (vs++dvs)) (Value.ref (s.heap.objs.size+1) :: (us++ds)):=.cons rfl (r.append hd);have hl:(Value.ref (s.heap.objs.size+1) :: us++ds).length=ps.length:=by
  have e:=r2.length;rw[F.len _ _ _ _ hq] at e;exact e.symm
 refine wpAny_call (Gc (f:=f) I.kIn M.makes M.init (beq_iff_eq.mp M.fn) (codeAny_mono (F.run _ X.stack _ _ ⟨Value.ref (s.heap.objs.size+1) :: us,[]⟩ (Value.ref (s.heap.objs.size+1) :: (us++ds)) _ _ E (hr.make C us [])
  (I2.env0.make C us []) (hb _ (Value.ref (s.heap.objs.size+1) :: us) I2.kIn hl) r2 hq) λr s' hq'=>?_))
 cases r with
 |error e=>
  obtain⟨a,C',d,H',rfl,L,q⟩:=rE fm I2 hq';exists a,C',d,σ,H',rfl,L,rfl,q
 |ok fl=>
  cases fl with
  |ret u=>
   obtain⟨v,H',I3,rv,ev,q3⟩:=I2.after hq';subst ev;exists rv,⟨V.ref (s.heap.objs.size+1),H',I3,rfl,q3⟩
  |next=>exact False.elim hq'
  |brk=>exact False.elim hq'
  |cont=>exact False.elim hq'
theorem Vq (M:Mk X.K C f)(F:aL X.prog X.w X.K X.mg X.base (CX1 X.prog X.w) k f fd ps sp)(fm:Frm X)(hr:iI (k+1) X.A)(hg:Gl X x)(hm:X.mg x=some (.ref C))(hb:aP X.K fd ps ds)(hd:cJ dvs ds)(ha:PA X.nox (e :: es) t)(hdb:(x == ("__debug__":Str))=false:=by decide)(he:starEach (e :: es) X.env=(false,eval e X.env) :: starEach es X.env:=by rfl)(hpl:(backTo pos (starEach es X.env)).any (·.1)=false:=by rfl) :
  PX X (.Call (.Name x p) (e :: es) [] pos) (qn6 C sp dvs t):=by
 intro pins s σ H Q E I h;refine wpAny_Call_Name_kw (kP I hg hm ?_ hdb);refine W.callWith_K (h₀:=X.base) I.ok.mod.kin M.kp (wpAny_mono (ha pos pins s σ H _ (I.wish _) h) (λus s1 h1=>?_) λ_ _ z=>False.elim z) he hpl;obtain⟨vs,H1,I1,r,q⟩:=h1;exists I1.kIn,Oy M F fm hr hb hd I1.unwish r q
end
theorem aL.weak {K:Frag}(F:aL P w K mg base CX k f fd ps sp)(h:∀vs H Q E,sp' vs H Q E->sp vs H Q E):aL P w K mg base CX k f fd ps sp':=
 ⟨λvs H Q E q=>F.len vs H Q E (h _ _ _ _ q),λA outer s H args us vs Q E hr he hb hv hs=>F.run A outer s H args us vs Q E hr he hb hv (h _ _ _ _ hs)⟩
abbrev dL (m i j:Int):Prop:=0<=i/\i < m/\0<=j/\j < m
inductive Zv (K:Frag) (H:Hp):V->Option Q2->Prop where
 |fr {u:Addr} {p:Q2} (h:Fq K H u p) (l:Low p):Zv K H (.ref u) (some p)
 |ty {v:V} {t:Value} (h:TyQ K H v t) (n:W.kitOne K t (.type "tuple")=some false):Zv K H v none
 |len {u:Addr} {x y z:V} (h:SqT K H u [x,y,z]):Zv K H (.ref u) none
 |n0 {u:Addr} {x y:V} {t:Value} (h:SqT K H u [x,y]) (ty:pI K H x t) (n:wP t):Zv K H (.ref u) none
 |n1 {u:Addr} {i:Int} {y:V} {t:Value} (h:SqT K H u [.int i,y]) (ty:pI K H y t) (n:wP t):Zv K H (.ref u) none
 |fb {u:Addr} {p:Q2} (h:Fq K H u p) (c:p.2 < 1\/(1<=p.2/\gc p.1 p.2≠1)):Zv K H (.ref u) none
inductive Iu (K:Frag) (vs:wk) (H:Hp) (Q:VK) (E:XK):Prop where
 |mk (v:V) (o:Option Q2):vs=[v]->Zv K H v o->Q (.bl o.isSome) H->Iu K vs H Q E
inductive iW (CK:Kd->Addr) (K:Frag) (H:Hp):wk->List RD->Prop where
 |nil:iW CK K H [] []
 |cons {x z:Addr} {k:Kd} {i j:Int} {p:Q2} {xs:wk} {ds:List RD} (h:Rw CK H x k (.int i) (.int j) (.ref z)) (f:Fq K H z p) (q:iW CK K H xs ds):iW CK K H (.ref x :: xs) ((k,i,j,p) :: ds)
section
variable {CK:Kd->Addr} {K:Frag} {H H':Hp}
theorem iW.same (e:aX H H'):∀{xs:wk} {ds:List RD},iW CK K H xs ds->iW CK K H' xs ds
 |_,_,.nil=>.nil
 |_,_,.cons h f q=>.cons (h.same e) (e.fq f) (iW.same e q)
theorem iW.length:∀{xs:wk} {ds:List RD},iW CK K H xs ds->xs.length=ds.length
 |_,_,.nil=>rfl
 |_,_,.cons _ _ q=>by simp[iW.length q]
theorem iW.app:∀{xs ys:wk} {ds es:List RD},iW CK K H xs ds->iW CK K H ys es->iW CK K H (xs++ys) (ds++es)
 |_,_,_,_,.nil,r=>r
 |_,_,_,_,.cons h f q,r=>.cons h f (iW.app q r)
theorem iW.at:∀{xs:wk} {ds:List RD} {q:Nat} {d:RD},iW CK K H xs ds->ds[q]?=some d->∃x z,xs[q]?=some (.ref x)/\Rw CK H x d.1 (.int d.2.1) (.int d.2.2.1) (.ref z)/\Fq K H z d.2.2.2
 |_,_,_,_,.nil,h=>by simp at h
 |_,_,0,_,.cons h f _,e=>by simp at e;subst e;exists _,_,rfl,h,f
 |_,_,i+1,_,.cons _ _ q,e=>by simpa using iW.at q (by simpa using e)
theorem iW.upd (hl:H l=some (.lst ys)):∀{xs:wk} {ds:List RD},iW CK K H xs ds->iW CK K (L2.upd H l o) xs ds
 |_,_,.nil=>.nil
 |_,_,.cons (h:=h) f q=>by
  obtain⟨dx,e⟩:=h;exact .cons ⟨dx,by rw[aV (gX e hl (λz=>by cases z))];exact e⟩ (f.upd hl) (iW.upd hl q)
end
inductive pW (CN:Addr) (K:Frag) (CK:Kd->Addr) (vs:wk) (H:Hp) (Q:VK) (E:XK):Prop where
 |mk (n l:Addr) (m:Int) (ds:List RD):vs=[.ref n]->fK CN K H n l m ds->ds.length<=100->(∀a xs H',aX H H'->H a=none->H' a=some (.lst xs)->iW CK K H' xs ds->Q (.ref a) H')->pW CN K CK vs H Q E
end L2
namespace Mq
inductive Wt:List Q2->Nat->Prop where
 |nil:Wt [] 0
 |cons {p:Q2} {ps:List Q2} {n w:Nat} (h:Bd n p) (q:Wt ps w):Wt (p :: ps) (n+1+w)
theorem Wt.at:∀{ps:List Q2} {w i:Nat} {p:Q2},Wt ps w->ps[i]?=some p->∃w' n,Wt (ps.take i) w'/\Bd n p/\w' + n+1<=w
 |_,_,_,_,.nil,h=>by simp at h
 |_,_,0,_,.cons (n:=n) h q,e=>by
  simp at e;subst e;exists 0,n,.nil,h,()
 |_,_,i+1,_,.cons (n:=n) h q,e=>by
  obtain⟨w',n',a,b,c⟩:=Wt.at q (by simpa using e);exists n+1+w',n',.cons h a,b,()
theorem Wt.fold:∀{ps:List Q2} {w k:Nat} {p:Q2},Wt ps w->Pos ps->1<=p.2->Bd k p->Bd (k+w) (ps.foldl iO p)
 |_,_,_,_,.nil,_,_,h=>h
 |_,_,k,p,.cons (p:=q) (n:=n) (w:=w) h r,hp,p1,b=>by
  have q1:=hp q ⋯;have:=Wt.fold r (λx hx=>hp x (mem_cons_of_mem _ hx)) (jZ p1 q1).pos (uY b h p1 q1);exact this.mono ()
theorem Wt.tot (h:Wt ps w)(hp:Pos ps):Bd (1+w) (tot ps):=h.fold hp ∅ ⟨show (0:Nat) < 2 ^ 1 by decide,show (1:Nat) < 2 ^ 1 by decide⟩
end Mq
namespace L2
open PySem PySem.Spec PyProof.Rows
abbrev RE:=RD × Q2
def flF (hp:List Q2)(d:RD):Q2:=Mq.minus (hp.getD d.2.1.toNat (0,1)) (hp.getD d.2.2.1.toNat (0,1))
def jM (k:Kd)(l:List RD):List RD:=l.filter λd=>decide (d.1=k)
theorem Pa (k:Kd)(l:List RD)(e:RD):jM k (l++[e])=if e.1=k then jM k l++[e] else jM k l:=by
 unfold jM;rw[filter_append]
 by_cases h:e.1=k
 .rw[if_pos h];simp[h]
 .rw[if_neg h];simp[h]
inductive Hl (K:Frag) (vs:wk) (H:Hp) (Q:VK) (E:XK):Prop where
 |mk (a:Addr) (xs:wk) (ps:List Q2) (w:Nat):vs=[.ref a]->SqL K H a xs->Fqs K H xs ps->Mq.Pos ps->Mq.Wt ps w->w+1<=9000->(∀r H',aX H H'->Fq K H' r (tot ps)->Q (.ref r) H')->Hl K vs H Q E
inductive Bo (K:Frag) (vs:wk) (H:Hp) (Q:VK) (E:XK):Prop where
 |mk (a b:Addr) (p q:Q2) (n m:Nat):vs=[.ref a,.ref b]->Fq K H a p->Fq K H b q->1<=p.2->1<=q.2->0 < q.1->Bd n p->Bd m q->n+m+1<=9000->uU H Q (mP p q)->Bo K vs H Q E
section
variable {m n:Nat} {hp:List Q2} {d:RD} {e:RE}
theorem jS {ps:List Q2}(h:j < ps.length):ps[j]?=some (ps.getD j (0,1)):=by rw[getD_eq_getElem?_getD,getElem?_eq_getElem h];rfl
end
def rzl (ps:List Q2)(j:Nat)(a:Q2):List Q2:=ps.set j (iO (ps.getD j (0,1)) a)
def iY (M:List (List Q2))(i j:Nat):Q2:=(M.getD i []).getD j (0,1)
def rz (M:List (List Q2))(i j:Nat)(a:Q2):List (List Q2):=M.set i (rzl (M.getD i []) j a)
structure MxB (M:List (List Q2)) (h w n:Nat):Prop where
 h:M.length=h
 w:∀ps∈M,ps.length=w
 l:∀ps∈M,∀p∈ps,Low p/\Bd n p
theorem MxB.mono {h w n n':Nat}(b:MxB M h w n)(le:n<=n'):MxB M h w n':=⟨b.h,b.w,λps hp p hp'=>⟨(b.l ps hp p hp').1,(b.l ps hp p hp').2.mono le⟩⟩
theorem MxB.row {h w n i:Nat}(b:MxB M h w n)(hi:i < h):M[i]?=some (M.getD i [])/\M.getD i []∈M/\(M.getD i []).length=w:=by
 have hi':i < M.length:=by rw[b.h];exact hi
 have e:M.getD i []=M[i]:=by rw[getD_eq_getElem?_getD,getElem?_eq_getElem hi'];rfl
 rw[e];exists getElem?_eq_getElem hi',getElem_mem hi',b.w _ (getElem_mem hi')
theorem MxB.at {h w n i j:Nat}(b:MxB M h w n)(hi:i < h)(hj:j < w):(M.getD i [])[j]?=some (iY M i j)/\Low (iY M i j)/\Bd n (iY M i j):=by
 obtain⟨e,m,l⟩:=b.row hi;have hj':j < (M.getD i []).length:=by rw[l];exact hj
 have:=jS hj';exists this,b.l _ m _ (mem_of_getElem? this)
theorem MxB.rz {h w n k i j:Nat}(b:MxB M h w n)(hi:i < h)(hj:j < w)(la:Low a)(ba:Bd k a):MxB (L2.rz M i j a) h w (n+k+1):=by
 obtain⟨e,m,l⟩:=b.row hi;obtain⟨e2,l2,b2⟩:=b.at hi hj;exists by unfold L2.rz;rw[length_set];exact b.h,λps hp=>?_,λps hp p hp'=>?_
 .rcases mem_or_eq_of_mem_set hp with z | z
  .exact b.w ps z
  .rw[z];unfold rzl;rw[length_set];exact l
 .rcases mem_or_eq_of_mem_set hp with z | z
  .have:=b.l ps z p hp';exists this.1,this.2.mono ()
  .rw[z] at hp';unfold rzl at hp';rcases mem_or_eq_of_mem_set hp' with y | y
   .have:=b.l _ m p y;exists this.1,this.2.mono ()
   .rw[y];exists jZ l2.pos la.pos,uY b2 ba l2.pos la.pos
theorem Dg (b:MxB M h w n)(hi:i < h)(hj:j < w)(la:Low a)(x y:Nat):Mq.val (iY (L2.rz M i j a) x y)=Mq.val (iY M x y)+if i=x/\j=y then Mq.val a else 0:=by
 obtain⟨e,m,l⟩:=b.row hi;obtain⟨e2,l2,b2⟩:=b.at hi hj;have hl:i < M.length:=by rw[b.h];exact hi
 unfold iY L2.rz
 by_cases c:i=x
 .subst c;have e3:(M.set i (rzl (M.getD i []) j a)).getD i []=rzl (M.getD i []) j a:=by rw[getD_eq_getElem?_getD,getElem?_set,if_pos rfl,if_pos hl];rfl
  rw[e3];unfold rzl
  by_cases d:j=y
  .subst d;have e4:((M.getD i []).set j (iO ((M.getD i []).getD j (0,1)) a)).getD j (0,1)=iO ((M.getD i []).getD j (0,1)) a:=by rw[getD_eq_getElem?_getD,getElem?_set,if_pos rfl,if_pos (by rw[l];exact hj)];rfl
   rw[e4,if_pos ⟨rfl,rfl⟩];exact yS l2.pos la.pos
  .have e4:((M.getD i []).set j (iO ((M.getD i []).getD j (0,1)) a)).getD y (0,1)=(M.getD i []).getD y (0,1):=by rw[getD_eq_getElem?_getD,getElem?_set,if_neg d,<- getD_eq_getElem?_getD]
   rw[e4,if_neg (λz=>d z.2),Rat.add_zero]
 .have e3:(M.set i (rzl (M.getD i []) j a)).getD x []=M.getD x []:=by rw[getD_eq_getElem?_getD,getElem?_set,if_neg c,<- getD_eq_getElem?_getD]
  rw[e3,if_neg (λz=>c z.1),Rat.add_zero]
structure LnB (R:List Q2) (w n:Nat):Prop where
 w:R.length=w
 l:∀p∈R,Low p/\Bd n p
theorem LnB.mono {w n n':Nat}(b:LnB R w n)(le:n<=n'):LnB R w n':=⟨b.w,λp hp=>⟨(b.l p hp).1,(b.l p hp).2.mono le⟩⟩
theorem LnB.at {w n j:Nat}(b:LnB R w n)(hj:j < w):R[j]?=some (R.getD j (0,1))/\Low (R.getD j (0,1))/\Bd n (R.getD j (0,1)):=by
 have hj':j < R.length:=by rw[b.w];exact hj
 have:=jS hj';exists this,b.l _ (mem_of_getElem? this)
theorem LnB.set {w n j:Nat}(b:LnB R w n)(lq:Low q)(bq:Bd n q):LnB (R.set j q) w n:=⟨by rw[length_set];exact b.w,λp hp=>by
 rcases mem_or_eq_of_mem_set hp with z | z
 .exact b.l p z
 .rw[z];exact⟨lq,bq⟩⟩
theorem LnB.rz {w n k j:Nat}(b:LnB R w n)(hj:j < w)(la:Low a)(ba:Bd k a):LnB (rzl R j a) w (n+k+1):=by
 obtain⟨_,l2,b2⟩:=b.at hj;exact(b.mono ()).set (jZ l2.pos la.pos) (uY b2 ba l2.pos la.pos)
theorem oZ {R:List Q2}(hj:j < R.length):(R.set j q).getD y (0,1)=if j=y then q else R.getD y (0,1):=by
 rw[getD_eq_getElem?_getD,getElem?_set]
 by_cases e:j=y
 .rw[if_pos e,if_pos e,if_pos ()];rfl
 .rw[if_neg e,if_neg e,<- getD_eq_getElem?_getD]
theorem Lo (b:LnB R w n)(hj:j < w)(la:Low a)(y:Nat):Mq.val ((rzl R j a).getD y (0,1))=Mq.val (R.getD y (0,1))+if j=y then Mq.val a else 0:=by
 obtain⟨_,l2,b2⟩:=b.at hj;unfold rzl;rw[oZ (by rw[b.w];exact hj)]
 by_cases d:j=y
 .subst d;rw[if_pos rfl,if_pos rfl];exact yS l2.pos la.pos
 .rw[if_neg d,if_neg d,Rat.add_zero]
def SX (as:List Addr)(H H':Hp):Prop:=∀b o,H b=some o->b∉as->H' b=some o
theorem aX.sx (s:aX H H'):SX as H H':=λb o e _=>s b o e
theorem SX.trans (a:SX as H H1)(b:SX as H1 H2):SX as H H2:=λc o h n=>b c o (a c o h n) n
theorem SX.write (a:SX as H H1)(hl:l∈as):SX as H (upd H1 l o):=λc u h n=>by rw[aV (λz=>n (by rw[z];exact hl))];exact a c u h n
theorem SX.mono (a:SX as H H')(h:∀x∈as,x∈bs):SX bs H H':=λc o e n=>a c o e λz=>n (h c z)
theorem SX.same (s:aX H0 H)(a:SX as H H')(h:∀x∈as,H0 x=none):aX H0 H':=λc o e=>a c o (s c o e) λz=>by rw[h c z] at e;cases e
def Di (as:List Addr)(H:Hp):Prop:=∀a∈as,∃xs,H a=some (.lst xs)
theorem SX.seqT {K:Frag}(hl:Di as H)(e:SX as H H')(h:SqT K H a xs):SqT K H' a xs:=by
 have nx:∀{o:HO},H a=some o->(∀ys,o≠.lst ys)->a∉as:=λho n z=>by
  obtain⟨ys,hy⟩:=hl a z;rw[hy] at ho;exact n ys (Option.some.inj ho).symm
 rcases h with (h | ⟨u,h⟩) | h
 .exact .inl (.inl (e _ _ h (nx h λys z=>by cases z)))
 .exact .inl (.inr ⟨u,e _ _ h (nx h λys z=>by cases z)⟩)
 .exact .inr h
theorem SX.rw (hl:Di as H)(e:SX as H H')(h:Rw CK H x k s g z):Rw CK H' x k s g z:=by
 obtain⟨dx,q⟩:=h;exists dx,e _ _ q λy=>?_;obtain⟨ys,hy⟩:=hl x y;rw[hy] at q;cases q
theorem SX.fqs {K:Frag}(hl:Di as H)(e:SX as H H'):∀{xs:wk} {ps:List Q2},Fqs K H xs ps->Fqs K H' xs ps
 |_,_,.nil=>.nil
 |_,_,.cons f q=>.cons (e.seqT hl f) (SX.fqs hl e q)
structure Mx (K:Frag) (H:Hp) (D:Addr) (as:List Addr) (M:List (List Q2)):Prop where
 d:H D=some (.lst (as.map V.ref))
 n:as.Nodup
 nd:D∉as
 la:as.length=M.length
 r:∀(i:Nat) (a:Addr) (ps:List Q2),as[i]?=some a->M[i]?=some ps->∃xs,H a=some (.lst xs)/\Fqs K H xs ps
theorem Mx.lsts {K:Frag}(m:Mx K H D as M):Di as H:=λa ha=>by
 obtain⟨i,hi⟩:=getElem?_of_mem ha;have il:=(wq.mp hi).1;have il':i < M.length:=by rw[<- m.la];exact il
 obtain⟨xs,h,_⟩:=m.r i a M[i] hi (getElem?_eq_getElem il');exists xs,h
theorem Mx.same {K:Frag}(s:aX H H')(m:Mx K H D as M):Mx K H' D as M:=⟨s _ _ m.d,m.n,m.nd,m.la,λi a ps h1 h2=>by
 obtain⟨xs,h,f⟩:=m.r i a ps h1 h2;exact⟨xs,s _ _ h,f.same s⟩⟩
theorem Mx.other {K:Frag}(m:Mx K H D as M)(hl:H l=some (.lst ys))(n1:l≠D)(n2:l∉as):Mx K (upd H l o) D as M:=⟨by rw[aV (Ne.symm n1)];exact m.d,m.n,m.nd,m.la,λi a ps h1 h2=>by
 obtain⟨xs,h,f⟩:=m.r i a ps h1 h2;exact⟨xs,by rw[aV (λz=>n2 (by rw[<- z];exact mem_of_getElem? h1))];exact h,f.upd hl⟩⟩
theorem Mx.set {K:Frag}(m:Mx K H D as M)(ha:as[i]?=some a)(hp:M[i]?=some ps)(hx:H a=some (.lst xs))(hF:Fqs K H xs ps)(s:aX H H1)(fv:Fq K H1 v q):Mx K (upd H1 a (.lst (xs.set j (.ref v)))) D as (M.set i (ps.set j q))/\SX as H (upd H1 a (.lst (xs.set j (.ref v)))):=by
 have ma:=mem_of_getElem? ha;have hx1:=s _ _ hx;have il:=(wq.mp ha).1;exists ⟨?_,m.n,m.nd,by rw[length_set];exact m.la,λk b qs h1 h2=>?_⟩,s.sx.write ma
 .rw[aV (λz=>m.nd (by rw[z];exact ma))];exact s _ _ m.d
 .rw[getElem?_set] at h2
  by_cases c:i=k
  .subst c;rw[ha] at h1;have h1:a=b:=Option.some.inj h1;subst h1;rw[if_pos rfl] at h2;split at h2
   .have h2:ps.set j q=qs:=Option.some.inj h2;rw[<- h2];exists _,aB,(Fqs.set fv j (hF.same s)).upd hx1
   .cases h2
  .rw[if_neg c] at h2;obtain⟨ys,hy,fy⟩:=m.r k b qs h1 h2;have nb:b≠a:=λz=>by
    subst z;have kl:=(wq.mp h1).1;have e1:as[i]'il=b:=(wq.mp ha).2;have e2:as[k]'kl=b:=(wq.mp h1).2;exact c ((getElem_inj m.n).mp (e1.trans e2.symm))
   exists ys,by rw[aV nb];exact s _ _ hy,(fy.same s).upd hx1
def cF (k:Kd):Nat:=if k=.ho then 1 else 0
def en (M:List (List Q2))(d:RD)(c:Nat)(a:Q2):List (List Q2):=rz (rz M d.2.1.toNat c a) d.2.2.1.toNat c (Mq.minus (0,1) a)
def dl (s g x:Nat):Rat:=(if s=x then 1 else 0) - (if g=x then 1 else 0)
def cM (d:RD)(h x y:Nat):Rat:=match d.1 with
 | .pc=>dl d.2.1.toNat d.2.2.1.toNat x*dl d.2.1.toNat d.2.2.1.toNat y*(1 / Mq.val d.2.2.2)
 | .pu=>0
 | .ho=>dl d.2.1.toNat d.2.2.1.toNat x*(if h=y then 1 else 0)+(if h=x then 1 else 0)*dl d.2.1.toNat d.2.2.1.toNat y
def cR (d:RD)(h x:Nat):Rat:=match d.1 with
 | .pc=>0
 | .pu=>- dl d.2.1.toNat d.2.2.1.toNat x*Mq.val d.2.2.2
 | .ho=>if h=x then Mq.val d.2.2.2 else 0
def eqM:Nat->List RD->Nat->Nat->Rat
 |_,[],_,_=>0
 |h,d :: ds,x,y=>cM d h x y+eqM (h+cF d.1) ds x y
def eqR:Nat->List RD->Nat->Rat
 |_,[],_=>0
 |h,d :: ds,x=>cR d h x+eqR (h+cF d.1) ds x
def bZ (ds:List RD):Nat:=(jM .ho ds).length
theorem gO (ds:List RD)(d:RD):bZ (ds++[d])=bZ ds+cF d.1:=by
 unfold bZ cF;rw[Pa];split
 .rw[xj];rfl
 .rfl
theorem gB (d:RD)(ds:List RD):bZ (d :: ds)=cF d.1+bZ ds:=by
 unfold bZ cF jM
 by_cases h:d.1=.ho
 .rw[filter_cons_of_pos (by exact decide_eq_true h),if_pos h,length_cons];lia
 .rw[filter_cons_of_neg (by simp[h]),if_neg h];lia
theorem yK (d:RD)(x y:Nat):∀(ds:List RD) (h:Nat),eqM h (ds++[d]) x y=eqM h ds x y+cM d (h+bZ ds) x y
 | [],h=>by show cM d h x y+0=0+cM d (h+0) x y;rw[Nat.add_zero];grind
 |e :: ds,h=>by
  show cM e h x y+eqM (h+cF e.1) (ds++[d]) x y=cM e h x y+eqM (h+cF e.1) ds x y+_;rw[yK d x y ds,gB,Nat.add_assoc];grind
theorem wW (d:RD)(x:Nat):∀(ds:List RD) (h:Nat),eqR h (ds++[d]) x=eqR h ds x+cR d (h+bZ ds) x
 | [],h=>by show cR d h x+0=0+cR d (h+0) x;rw[Nat.add_zero];grind
 |e :: ds,h=>by
  show cR e h x+eqR (h+cF e.1) (ds++[d]) x=cR e h x+eqR (h+cF e.1) ds x+_;rw[wW d x ds,gB,Nat.add_assoc];grind
theorem kN:Low (1,1):=⟨∅,∅⟩
theorem oP (la:Low a)(ba:Bd k a):Low (Mq.minus (0,1) a)/\Bd (k+2) (Mq.minus (0,1) a)/\Mq.val (Mq.minus (0,1) a)=- Mq.val a:=by
 have h01:1<=((0,1):Q2).2:=by decide
 have b01:Bd 1 (0,1):=⟨show (0:Nat) < 2 ^ 1 by decide,show (1:Nat) < 2 ^ 1 by decide⟩
 exists mB h01 la.pos,(Ek b01 ba h01 la.pos).mono (),?_;rw[rZ h01 la.pos,rM];grind
theorem Eo (b:MxB M h w n)(pt:dL (h:Int) d.2.1 d.2.2.1)(hc:c < w)(la:Low a)(ba:Bd k a):MxB (en M d c a) h w (n+2*k+4)/\∀x y,Mq.val (iY (en M d c a) x y)=Mq.val (iY M x y)+dl d.2.1.toNat d.2.2.1.toNat x*(if c=y then 1 else 0)*Mq.val a:=by
 obtain⟨i0,i1,j0,j1⟩:=pt;obtain⟨ln,bn,vn⟩:=oP la ba;have b1:=b.rz (i:=d.2.1.toNat) () hc la ba;have b2:=b1.rz (i:=d.2.2.1.toNat) () hc ln bn;exists b2.mono (),λx y=>?_;unfold en;rw[Dg b1 () hc ln,Dg b () hc la,vn];unfold dl
 by_cases c1:d.2.1.toNat=x<;>by_cases c2:d.2.2.1.toNat=x<;>by_cases c3:c=y<;>simp only[c1,c2,c3,true_and,and_true,false_and,and_false,and_self,if_true,if_false]<;>grind
def hM (M:List (List Q2))(d:RD)(c:Nat):List (List Q2):=rz (rz (en M d c (1,1)) c d.2.1.toNat (1,1)) c d.2.2.1.toNat (Mq.minus (0,1) (1,1))
def pM (M:List (List Q2))(d:RD):List (List Q2):=en (en M d d.2.1.toNat (mP (1,1) d.2.2.2)) d d.2.2.1.toNat (Mq.minus (0,1) (mP (1,1) d.2.2.2))
def pR (rs:List Q2)(d:RD):List Q2:=rzl (rzl rs d.2.1.toNat (Mq.minus (0,1) d.2.2.2)) d.2.2.1.toNat d.2.2.2
theorem kA:Bd 1 (1,1):=⟨show (1:Nat) < 2 ^ 1 by decide,show (1:Nat) < 2 ^ 1 by decide⟩
theorem h11:1<=((1,1):Q2).2:=by decide
theorem Fc (l:Low p)(h0:0 < p.1)(b:Bd k p):Low (mP (1,1) p)/\Bd (k+1) (mP (1,1) p)/\Mq.val (mP (1,1) p)=1 / Mq.val p:=by
 exists Fj h11 (),(Ml kA b h11 ()).mono (),?_;rw[Eh h11 l.pos (),Zx]
theorem qq9 {w n k m h:Nat}(b:MxB M w w n)(pt:dL (m:Int) d.2.1 d.2.2.1)(hm:m<=w)(hk:d.1=.pc)(l:Low d.2.2.2)(h0:0 < d.2.2.2.1)(bk:Bd k d.2.2.2):MxB (pM M d) w w (n+4*k+20)/\∀x y,Mq.val (iY (pM M d) x y)=Mq.val (iY M x y)+cM d h x y:=by
 obtain⟨i0,i1,j0,j1⟩:=pt;obtain⟨ls,bs,vs⟩:=Fc l h0 bk;obtain⟨ln,bn,vn⟩:=oP ls bs;have pt':dL (w:Int) d.2.1 d.2.2.1:=⟨i0,(),j0,()⟩
 obtain⟨b1,v1⟩:=Eo b pt' (c:=d.2.1.toNat) () ls bs;obtain⟨b2,v2⟩:=Eo b1 pt' (c:=d.2.2.1.toNat) () ln bn;exists b2.mono (),λx y=>?_;unfold pM;rw[v2,v1,vn,vs];unfold cM;rw[hk];show _=_+dl d.2.1.toNat d.2.2.1.toNat x*dl d.2.1.toNat d.2.2.1.toNat y*(1 / Mq.val d.2.2.2)
 generalize 1 / Mq.val d.2.2.2=v;generalize dl d.2.1.toNat d.2.2.1.toNat x=u;unfold dl
 by_cases c1:d.2.1.toNat=y<;>by_cases c2:d.2.2.1.toNat=y<;>simp only[c1,c2,if_true,if_false]<;>grind
theorem ql3 {w n m c:Nat}(b:MxB M w w n)(pt:dL (m:Int) d.2.1 d.2.2.1)(hm:m<=w)(hc:c < w)(hk:d.1=.ho):MxB (hM M d c) w w (n+20)/\∀x y,Mq.val (iY (hM M d c) x y)=Mq.val (iY M x y)+cM d c x y:=by
 obtain⟨i0,i1,j0,j1⟩:=pt;have pt':dL (w:Int) d.2.1 d.2.2.1:=⟨i0,(),j0,()⟩
 obtain⟨ln,bn,vn⟩:=oP kN kA;obtain⟨b1,v1⟩:=Eo b pt' hc kN kA;have b2:=b1.rz (i:=c) (j:=d.2.1.toNat) hc () kN kA;have b3:=b2.rz (i:=c) (j:=d.2.2.1.toNat) hc () ln bn;exists b3.mono (),λx y=>?_;unfold hM;rw[Dg b2 hc () ln,Dg b1 hc () kN,v1,vn,Zx];unfold cM;rw[hk];show _=_+(dl d.2.1.toNat d.2.2.1.toNat x*(if c=y then 1 else 0)+(if c=x then 1 else 0)*dl d.2.1.toNat d.2.2.1.toNat y)
 generalize dl d.2.1.toNat d.2.2.1.toNat x=u;unfold dl
 by_cases c1:d.2.1.toNat=y<;>by_cases c2:d.2.2.1.toNat=y<;>by_cases c3:c=x<;>by_cases c4:c=y<;>simp only[c1,c2,c3,c4,true_and,and_true,false_and,and_false,and_self,if_true,if_false]<;>grind
theorem qo0 {w n k m h:Nat}(b:LnB rs w n)(pt:dL (m:Int) d.2.1 d.2.2.1)(hm:m<=w)(hk:d.1=.pu)(l:Low d.2.2.2)(bk:Bd k d.2.2.2):LnB (pR rs d) w (n+4*k+20)/\∀x,Mq.val ((pR rs d).getD x (0,1))=Mq.val (rs.getD x (0,1))+cR d h x:=by
 obtain⟨i0,i1,j0,j1⟩:=pt;obtain⟨ln,bn,vn⟩:=oP l bk;have b1:=b.rz (j:=d.2.1.toNat) () ln bn;have b2:=b1.rz (j:=d.2.2.1.toNat) () l bk;exists b2.mono (),λx=>?_;unfold pR;rw[Lo b1 () l,Lo b () ln,vn];unfold cR;rw[hk];show _=_ + - dl d.2.1.toNat d.2.2.1.toNat x*Mq.val d.2.2.2;unfold dl
 by_cases c1:d.2.1.toNat=x<;>by_cases c2:d.2.2.1.toNat=x<;>simp only[c1,c2,if_true,if_false]<;>grind
theorem tD {m:Nat}:∀(ds:List RD) (h x:Nat),(∀d∈ds,dL (m:Int) d.2.1 d.2.2.1)->m<=h->h+bZ ds<=x->eqR h ds x=0
 | [],_,_,_,_,_=>rfl
 |d :: ds,h,x,pt,hm,hx=>by
  rw[gB] at hx;have ih:=tD ds (h+cF d.1) x (λe he=>pt e (mem_cons_of_mem _ he)) () ();obtain⟨i0,i1,j0,j1⟩:=pt d ⋯;show cR d h x+eqR (h+cF d.1) ds x=0;rw[ih];have z:dl d.2.1.toNat d.2.2.1.toNat x=0:=by unfold dl;rw[if_neg (),if_neg ()];grind
  unfold cR
  cases hk:d.1 with
  |pc=>show (0:Rat)+0=0;grind
  |pu=>show - dl d.2.1.toNat d.2.2.1.toNat x*Mq.val d.2.2.2+0=0;rw[z];grind
  |ho=>
   have:cF d.1=1:=by unfold cF;rw[if_pos hk]
   show (if h=x then Mq.val d.2.2.2 else 0)+0=0;rw[if_neg ()];grind
theorem qp8 {rs:List Q2}{w n k m c:Nat}{d:RD}(b:LnB rs w n)(hc:c < w)(hk:d.1=.ho)(l:Low d.2.2.2)(bk:Bd k d.2.2.2)(h0:Mq.val (rs.getD c (0,1))=0):LnB (rs.set c d.2.2.2) w (n+k)/\∀x,Mq.val ((rs.set c d.2.2.2).getD x (0,1))=Mq.val (rs.getD x (0,1))+cR d c x:=by
 exists (b.mono ()).set l (bk.mono ()),λx=>?_;rw[oZ (by rw[b.w];exact hc)];unfold cR;rw[hk];show _=_+if c=x then Mq.val d.2.2.2 else 0
 by_cases e:c=x
 .subst e;rw[if_pos rfl,if_pos rfl,h0];grind
 .rw[if_neg e,if_neg e];grind
inductive qU (K:Frag) (vs:wk) (H:Hp) (Q:VK) (E:XK):Prop where
 |mk (l z:Addr) (j:Nat) (xs:wk) (ps:List Q2) (a:Q2) (n m:Nat):vs=[.ref l,.int (j:Int),.ref z]->H l=some (.lst xs)->Fqs K H xs ps->j < ps.length->1<=(ps.getD j (0,1)).2->Bd n (ps.getD j (0,1))->Fq K H z a->1<=a.2->Bd m a->n+m+1<=9000->(∀v H1,aX H H1->Fq K H1 v (iO (ps.getD j (0,1)) a)->Q .non (upd H1 l (.lst (xs.set j (.ref v)))))->qU K vs H Q E
inductive vE (K:Frag) (CK:Kd->Addr) (vs:wk) (H:Hp) (Q:VK) (E:XK):Prop where
 |mk (D x z:Addr) (zz:V) (as:List Addr) (M:List (List Q2)) (d:RD) (w n k c:Nat) (a:Q2):vs=[.ref D,.ref x,.int (c:Int),.ref z]->Mx K H D as M->MxB M w w n->Rw CK H x d.1 (.int d.2.1) (.int d.2.2.1) zz->dL (w:Int) d.2.1 d.2.2.1->c < w->Fq K H z a->Low a->Bd k a->n+2*k+4<=9000->(∀H',SX as H H'->Mx K H' D as (en M d c a)->Q .non H')->vE K CK vs H Q E
inductive yA (K:Frag) (CK:Kd->Addr) (vs:wk) (H:Hp) (Q:VK) (E:XK):Prop where
 |mk (D x zz:Addr) (as:List Addr) (M:List (List Q2)) (d:RD) (w n k:Nat):vs=[.ref D,.ref x]->Mx K H D as M->MxB M w w n->Rw CK H x d.1 (.int d.2.1) (.int d.2.2.1) (.ref zz)->Fq K H zz d.2.2.2->dL (w:Int) d.2.1 d.2.2.1->Low d.2.2.2->0 < d.2.2.2.1->Bd k d.2.2.2->n+4*k+20<=9000->(∀H',SX as H H'->Mx K H' D as (pM M d)->Q .non H')->yA K CK vs H Q E
inductive wG (K:Frag) (CK:Kd->Addr) (vs:wk) (H:Hp) (Q:VK) (E:XK):Prop where
 |mk (R x zz:Addr) (ys:wk) (rs:List Q2) (d:RD) (w n k:Nat):vs=[.ref R,.ref x]->H R=some (.lst ys)->Fqs K H ys rs->LnB rs w n->Rw CK H x d.1 (.int d.2.1) (.int d.2.2.1) (.ref zz)->Fq K H zz d.2.2.2->dL (w:Int) d.2.1 d.2.2.1->Low d.2.2.2->Bd k d.2.2.2->n+4*k+20<=9000->(∀ys' H',SX [R] H H'->H' R=some (.lst ys')->Fqs K H' ys' (pR rs d)->Q .non H')->wG K CK vs H Q E
inductive wT (K:Frag) (CK:Kd->Addr) (vs:wk) (H:Hp) (Q:VK) (E:XK):Prop where
 |mk (D R x zz:Addr) (as:List Addr) (M:List (List Q2)) (ys:wk) (rs:List Q2) (d:RD) (w n c:Nat):vs=[.ref D,.ref R,.ref x,.int (c:Int)]->Mx K H D as M->MxB M w w n->H R=some (.lst ys)->Fqs K H ys rs->rs.length=w->R≠D->R∉as->Rw CK H x d.1 (.int d.2.1) (.int d.2.2.1) (.ref zz)->Fq K H zz d.2.2.2->dL (w:Int) d.2.1 d.2.2.1->c < w->n+20<=9000->(∀ys' H',SX (R :: as) H H'->Mx K H' D as (hM M d c)->H' R=some (.lst ys')->Fqs K H' ys' (rs.set c d.2.2.2)->Q .non H')->wT K CK vs H Q E
structure Fms (K:Frag) (H0 H:Hp) (us:wk) (X:List (List Q2)):Prop where
 l:us.length=X.length
 r:∀(i:Nat) (x:V) (ps:List Q2),us[i]?=some x->X[i]?=some ps->∃(a:Addr) (xs:wk),x=.ref a/\H0 a=none/\H a=some (.lst xs)/\Fqs K H xs ps
structure xN (m:Nat) (ds:List RD) (N:Nat) (X:List (List Q2)) (Y:List Q2):Prop where
 x:MxB X (m - 1+bZ ds) (m - 1+bZ ds) N
 y:LnB Y (m - 1+bZ ds) N
 vx:∀i j,Mq.val (iY X i j)=eqM m ds (i+1) (j+1)
 vy:∀i,Mq.val (Y.getD i (0,1))=eqR m ds (i+1)
def mV (kb:Nat->Nat):Nat->Nat
 |0=>0
 |i+1=>mV kb i+(4*kb i+20)
theorem zP (kb:Nat->Nat):∀{j:Nat},i<=j->mV kb i<=mV kb j
 |0,h=>by rw[Nat.le_zero.mp h];exact Nat.le_refl _
 |j+1,h=>by
  rcases Nat.eq_or_lt_of_le h with z | z
  .rw[z];exact Nat.le_refl _
  .have:=zP kb (i:=i) (j:=j) ();show _<=mV kb j+(4*kb j+20)
   lia
inductive Ja (CN:Addr) (K:Frag) (vs:wk) (H:Hp) (Q:VK) (E:XK):Prop where
 |mk (n l:Addr) (m:Nat) (kb:Nat->Nat) (ds:List RD):vs=[.ref n]->fK CN K H n l (m:Int) ds->(∀i d,ds[i]?=some d->qM (m:Int) d/\Bd (kb i) d.2.2.2)->1<=m->m<=20->ds.length<=40->mV kb ds.length+30<=8900->(∀t p r us ys X Y H',aX H H'->H' t=some (.tup [.ref p,.ref r])->H p=none->H r=none->H' p=some (.lst us)->H' r=some (.lst ys)->Fms K H H' us X->Fqs K H' ys Y->(∀x∈us,x≠.ref p/\x≠.ref r)->xN m ds (mV kb ds.length+1) X Y->Q (.ref t) H')->Ja CN K vs H Q E
def Wo (ta:TA):TE:=λσ H Q=>ta σ H λvs H1=>∃n:Nat,vs=[.int (n:Int)]/\n<=1000/\∀l,H1 l=none->Q (.ref l) (upd H1 l (.lst ((List.range n).map λ(i:Nat)=>V.int (i:Int))))
theorem vZ:∀{n:Nat} {acc:List Value},acc.length=n->(∀(j:Nat) (v:Value),acc[j]?=some v->∃t,v=Value.int (j:Int) t)->cJ ((List.range n).map λ(i:Nat)=>V.int (i:Int)) acc
 |0,[],_,_=>.nil
 |n+1,acc,hl,h=>by
  have e:acc=acc.take n++[acc[n]'()]:=by
   have h1:acc.take (n+1)=acc:=take_of_length_le ();have h2:acc.take (n+1)=acc.take n++[acc[n]'()]:=by rw[take_add_one,getElem?_eq_getElem ()];rfl
   rw[h1] at h2;exact h2
  rw[range_succ,map_append,e];refine cJ.append (vZ (by rw[length_take];lia) λj v hj=>?_) (.cons ?_ .nil)
  .have hjn:j < n:=by
    have:=(wq.mp hj).1;rw[length_take] at this;lia
   rw[getElem?_take,if_pos hjn] at hj;exact h j v hj
  .obtain⟨t,ht⟩:=h n _ (getElem?_eq_getElem ());rw[ht];exists t,rfl
section
variable {X:Cx} {a:Expr} {p p2 pos pos2:Pos} {ta:TA}
theorem Ct (hc:X.calm=true)(hgl:Gl X "list")(hml:X.mg "list"=none)(hg:Gl X "range")(hm:X.mg "range"=none)(ha:PA X [a] ta)(hs:starEach [a] X.env=[(false,eval a X.env)]:=by rfl)(he:starEach [.Call (.Name "range" p2) [a] [] pos2] X.env=(false,eval (.Call (.Name "range" p2) [a] [] pos2) X.env) :: starEach [] X.env:=by rfl)(hpl:(backTo pos (starEach [] X.env)).any (·.1)=false:=by rfl) :
  PE X (.Call (.Name "list" p) [.Call (.Name "range" p2) [a] [] pos2] [] pos) (Wo ta):=by
 intro pins s σ H Q I h;refine wpAny_Call_Name_kw (kZ I hgl hml PyProof.Rows.boot_list ?_);refine PyProof.Rows.callWith_type1 ?_ he hpl;rw[he];show wpAny _ _ (spliced ((false,eval (.Call (.Name "range" p2) [a] [] pos2) X.env) :: backTo pos (starEach [] X.env))) _ _ s;refine Calls.spliced_cons ?_;refine wpAny_Call_Name_kw (kZ I hg hm boot_range (PyProof.Rows.callWith_type1 (thn (ha pos2 pins s σ H _ I h) λus s1 ⟨vs,H1,I1,r1,q1⟩=>?_) hs rfl));obtain⟨n,e,hn,q⟩:=q1;subst e
 cases r1 with
 |cons r rr=>
  cases rr
  obtain⟨t,rfl⟩:=r;refine call_range_1 ?_;refine Calls.spliced_nil ?_;have I2:∀(ob:Obj) (tk:Nat),Inv X pins σ H1 { s1 with heap:=s1.heap.push ob,toks:=tk }:=λob tk=>I1.kept (t':=tk) (λb ob e=>Heap.get?_push_of_some _ e);have hn24:(n:Nat)<=2 ^ 24:=by lia
  refine call_list_range (n:=n) (I1.ok.hd hc) (IsRange.new ..) (small_one () () () ()) (by rw[rangeSize_one];split<;>lia) hn24 (λh' tk acc' c' kp e items=>?_);have rl:cJ ((List.range n).map λ(i:Nat)=>V.int (i:Int)) acc'.toList:=vZ (by rw[Array.length_toList];exact items.1) (λj v hj=>by
   obtain⟨t,ht⟩:=items.2 j v (by rw[<- Array.getElem?_toList];exact hj);exact⟨t,by rw[ht];congr 1;lia⟩)
  have hz:((List.range n).map λ(i:Nat)=>V.int (i:Int)).length<=sizeLine:=by rw[length_map,length_range,sizeLine_eq];lia
  exists .ref _,_,(I2 _ _).laid (t':=tk) kp (Nat.le_refl _) (show dP X.prog X.w _ h' _ (.lst ((List.range n).map λ(i:Nat)=>V.int (i:Int))) from ⟨hz,acc'.toList,c',rl,e⟩),rfl,q _ ((I2 _ _).hok.fresh (Nat.le_refl _))
end
def jn (ms:List Int)(s g:Nat):List Int:=ms.map λx=>if x=ms.getD g 0 then ms.getD s 0 else x
def oO (m:Nat):List Int:=(List.range m).map λ(i:Nat)=>(i:Int)
def jA (ms:List Int)(d:RD):List Int:=if d.1=.pu then ms else jn ms d.2.1.toNat d.2.2.1.toNat
def mks (m:Nat)(ds:List RD):List Int:=ds.foldl jA (oO m)
def mk (m:Nat)(ds:List RD)(p:Nat):Int:=(mks m ds).getD p 0
theorem mE (m:Nat)(ds:List RD)(d:RD):mks m (ds++[d])=jA (mks m ds) d:=by unfold mks;rw[foldl_append];rfl
theorem Nh (ms:List Int)(d:RD):(jA ms d).length=ms.length:=by
 unfold jA;split
 .rfl
 .unfold jn;rw[length_map]
theorem Ak:∀(ds:List RD) (ms:List Int),(ds.foldl jA ms).length=ms.length
 | [],_=>rfl
 |d :: ds,ms=>by show (ds.foldl jA (jA ms d)).length=_;rw[Ak ds,Nh]
theorem pC (m:Nat)(ds:List RD):(mks m ds).length=m:=by unfold mks oO;rw[Ak,length_map,length_range]
theorem Pp {ms:List Int}{f:Int->Int}(h:p < ms.length):(ms.map f).getD p 0=f (ms.getD p 0):=by
 rw[getD_eq_getElem?_getD,getElem?_map,getD_eq_getElem?_getD,getElem?_eq_getElem h];rfl
theorem Tq (h:p < m):mk m [] p=(p:Int):=by
 show (oO m).getD p 0=_;unfold oO;rw[getD_eq_getElem?_getD,getElem?_map,getElem?_range h];rfl
theorem vA (hk:d.1=.pu)(p:Nat):mk m (ds++[d]) p=mk m ds p:=by
 unfold mk;rw[mE];unfold jA;rw[if_pos hk]
theorem vF (hk:d.1≠.pu)(hp:p < m):mk m (ds++[d]) p=if mk m ds p=mk m ds d.2.2.1.toNat then mk m ds d.2.1.toNat else mk m ds p:=by
 unfold mk;rw[mE];unfold jA;rw[if_neg hk];unfold jn;rw[Pp (by rw[pC];exact hp)]
inductive Cn (ds:List RD):Nat->Nat->Prop where
 |refl (p:Nat):Cn ds p p
 |row {d:RD} (h:d∈ds) (hk:d.1≠.pu):Cn ds d.2.1.toNat d.2.2.1.toNat
 |symm {p q:Nat} (h:Cn ds p q):Cn ds q p
 |trans {p q r:Nat} (h:Cn ds p q) (g:Cn ds q r):Cn ds p r
theorem Cn.mono (h:∀d∈ds,d∈es)(c:Cn ds p q):Cn es p q:=by
 induction c with
 |refl p=>exact .refl p
 |row hd hk=>exact .row (h _ hd) hk
 |symm _ ih=>exact .symm ih
 |trans _ _ a b=>exact .trans a b
theorem Gm {m:Nat}:∀(n:Nat) (ds:List RD),ds.length=n->(∀d∈ds,dL (m:Int) d.2.1 d.2.2.1)->∀p q,p < m->q < m->mk m ds p=mk m ds q->Cn ds p q
 |0,ds,hl,_,p,q,hp,hq,e=>by
  have:ds=[]:=length_eq_zero_iff.mp hl;subst this;rw[Tq hp,Tq hq] at e;have:p=q:=by lia
  subst this;exact .refl p
 |n+1,ds,hl,pt,p,q,hp,hq,e=>by
  obtain⟨es,d,rfl⟩:∃es d,ds=es++[d]:=⟨ds.dropLast,ds.getLast (by intro z;rw[z] at hl;cases hl),(dropLast_concat_getLast _).symm⟩
  have le:es.length=n:=by rw[xj] at hl;simpa using hl
  have ih:=Gm n es le (λx hx=>pt x (mem_append_left _ hx));have up:∀{a b:Nat},Cn es a b->Cn (es++[d]) a b:=λc=>c.mono λx hx=>mem_append_left _ hx
  by_cases hk:d.1=.pu
  .rw[vA hk,vA hk] at e;exact up (ih p q hp hq e)
  .obtain⟨i0,i1,j0,j1⟩:=pt d ⋯;have hs:d.2.1.toNat < m:=by lia
   have hg:d.2.2.1.toNat < m:=by lia
   have rw':Cn (es++[d]) d.2.1.toNat d.2.2.1.toNat:=.row ⋯ hk;rw[vF hk hp,vF hk hq] at e
   by_cases a:mk m es p=mk m es d.2.2.1.toNat
   .have cp:=up (ih _ _ hp hg a);rw[if_pos a] at e
    by_cases b:mk m es q=mk m es d.2.2.1.toNat
    .exact cp.trans (up (ih _ _ hq hg b)).symm
    .rw[if_neg b] at e;exact cp.trans (rw'.symm.trans (up (ih _ _ hs hq e)))
   .rw[if_neg a] at e
    by_cases b:mk m es q=mk m es d.2.2.1.toNat
    .rw[if_pos b] at e;exact(up (ih _ _ hp hs e)).trans (rw'.trans (up (ih _ _ hq hg b)).symm)
    .rw[if_neg b] at e;exact up (ih _ _ hp hq e)
theorem qY {m:Nat}:∀(n:Nat) (ds:List RD),ds.length=n->(∀d∈ds,dL (m:Int) d.2.1 d.2.2.1)->∀d∈ds,d.1≠.pu->mk m ds d.2.1.toNat=mk m ds d.2.2.1.toNat
 |0,ds,hl,_,d,hd,_=>by
  have:ds=[]:=length_eq_zero_iff.mp hl;rw[this] at hd;cases hd
 |n+1,ds,hl,pt,x,hx,hkx=>by
  obtain⟨es,d,rfl⟩:∃es d,ds=es++[d]:=⟨ds.dropLast,ds.getLast (by intro z;rw[z] at hl;cases hl),(dropLast_concat_getLast _).symm⟩
  have le:es.length=n:=by rw[xj] at hl;simpa using hl
  obtain⟨i0,i1,j0,j1⟩:=pt x hx;have hs:x.2.1.toNat < m:=by lia
  have hg:x.2.2.1.toNat < m:=by lia
  by_cases hk:d.1=.pu
  .rw[vA hk,vA hk];rcases mem_append.mp hx with z | z
   .exact qY n es le (λy hy=>pt y (mem_append_left _ hy)) x z hkx
   .have:x=d:=by simpa using z
    rw[this] at hkx;exact absurd hk hkx
  .rw[vF hk hs,vF hk hg];rcases mem_append.mp hx with z | z
   .have ih:=qY n es le (λy hy=>pt y (mem_append_left _ hy)) x z hkx;rw[ih]
   .have:x=d:=by simpa using z
    subst this;rw[if_pos rfl]
    by_cases c:mk m es x.2.1.toNat=mk m es x.2.2.1.toNat
    .rw[if_pos c]
    .rw[if_neg c]
theorem Cn.ind {R:Nat->Nat->Prop}(r:∀p,R p p)(s:∀p q,R p q->R q p)(t:∀p q x,R p q->R q x->R p x)(h:∀d∈ds,d.1≠.pu->R d.2.1.toNat d.2.2.1.toNat)(c:Cn ds p q):R p q:=by
 induction c with
 |refl p=>exact r p
 |row hd hk=>exact h _ hd hk
 |symm _ ih=>exact s _ _ ih
 |trans _ _ a b=>exact t _ _ _ a b
theorem Zp {m:Nat}(pt:∀d∈ds,dL (m:Int) d.2.1 d.2.2.1)(hp:p < m)(hq:q < m):mk m ds p=mk m ds q↔Cn ds p q:=
 ⟨Gm _ ds rfl pt p q hp hq,λc=>Cn.ind (R:=λa b=>mk m ds a=mk m ds b) (λ_=>rfl) (λ_ _ e=>e.symm) (λ_ _ _ a b=>a.trans b) (λd hd hk=>qY _ ds rfl pt d hd hk) c⟩
def rch (S:List Nat):List (Key × V):=S.map λ(p:Nat)=>((Sum.inl (p:Int):Key),V.bl true)
theorem Kp (p:Nat):∀S:List Nat,((rch S).any λkv=>decide (kv.1=Sum.inl (p:Int)))=decide (p∈S)
 | []=>by simp[rch]
 |q :: S=>by
  have ih:=Kp p S;show (decide ((Sum.inl (q:Int):Key)=Sum.inl (p:Int)) || (rch S).any λkv=>decide (kv.1=Sum.inl (p:Int)))=_;rw[ih]
  by_cases h:q=p
  .subst h;simp
  .have h1:¬((Sum.inl (q:Int):Key)=Sum.inl (p:Int)):=λz=>h (Int.ofNat.inj (Sum.inl.inj z));have h2:p≠q:=λz=>h z.symm;rw[decide_eq_false h1,Bool.false_or];exact decide_eq_decide.mpr ⟨λz=>mem_cons_of_mem _ z,λz=>(mem_cons.mp z).resolve_left h2⟩
theorem Dl (p:Nat)(S:List Nat):pZ (rch S) (Sum.inl (p:Int))=if p∈S then some (.bl true) else none:=by
 unfold rch
 induction S with
 |nil=>rfl
 |cons q S ih=>
  rw[map_cons]
  by_cases h:q=p
  .subst h;rw[oQ rfl,if_pos (mem_cons_self ..)]
  .rw[lP (λz=>h (Int.ofNat.inj (Sum.inl.inj z))),ih];have h2:p≠q:=λz=>h z.symm
   by_cases c:p∈S
   .rw[if_pos c,if_pos (mem_cons_of_mem _ c)]
   .rw[if_neg c,if_neg (λz=>by rcases mem_cons.mp z with z | z;exact h2 z;exact c z)]
def Qb (S:List Nat)(p:Nat):List Nat:=if p∈S then S else S++[p]
theorem Mt (p:Nat)(S:List Nat):mU (rch S) (Sum.inl (p:Int)) (.bl true)=rch (Qb S p):=by
 unfold mU Qb;rw[Kp]
 by_cases c:p∈S
 .rw[decide_eq_true c,if_pos rfl,if_pos c];unfold rch;rw[map_map];refine map_congr_left λq _=>?_;show (if (Sum.inl (q:Int):Key)=Sum.inl (p:Int) then (Sum.inl (q:Int),V.bl true) else (Sum.inl (q:Int),V.bl true))=_;split<;>rfl
 .rw[decide_eq_false c,if_neg ⋯,if_neg c];unfold rch;rw[map_append];rfl
theorem Lq:∀{m:Nat} {S:List Nat},S.Nodup->(∀p∈S,p < m)->S.length<=m
 |0,[],_,_=>Nat.le_refl _
 |0,p :: S,_,h=>absurd (h p (mem_cons_self ..)) (Nat.not_lt_zero _)
 |m+1,S,nd,h=>by
  have e:=Lq (m:=m) (S:=S.erase m) (nd.erase m) (λp hp=>by
   have h1:=h p (mem_of_mem_erase hp);have h2:p≠m:=λz=>by rw[z] at hp;exact(Nodup.not_mem_erase nd) hp
   lia)
  have:=length_erase_le (a:=m) (l:=S);have h3:S.length<=(S.erase m).length+1:=by
   rw[length_erase];split<;>lia
  lia
theorem Om {m:Nat}{S:List Nat}(pt:∀d∈ds,dL (m:Int) d.2.1 d.2.2.1)(hf:f < m)(h1:f∈S)(h2:∀p∈S,p < m/\mk m ds p=mk m ds f)(h3:∀d∈ds,d.1≠.pu->(d.2.1.toNat∈S↔d.2.2.1.toNat∈S))(hp:p < m):p∈S↔mk m ds p=mk m ds f:=by
 exists λh=>(h2 p h).2,λh=>?_;exact(Cn.ind (R:=λa b=>a∈S↔b∈S) (λ_=>Iff.rfl) (λ_ _ e=>e.symm) (λ_ _ _ a b=>a.trans b) h3 ((Zp pt hf hp).mp h.symm)).mp h1
abbrev Stp:=Nat × Int
abbrev Br:=Nat × Nat × Nat
def stF (es:List Br)(p:Nat):List (Stp × Nat):=es.filterMap λe=>if e.2.1=p then some ((e.1,1),e.2.2) else if e.2.2=p then some ((e.1,-1),e.2.1) else none
abbrev WS:=List (Nat × List Stp)
def cS (w:WS):List Nat:=w.map (·.1)
def tV:WS->Nat->Option (List Stp)
 | [],_=>none
 |e :: w,p=>if e.1=p then some e.2 else tV w p
theorem jF {st:List Stp}:∀{w:WS},tV w p=some st->(p,st)∈w
 | [],h=>by cases h
 |e :: w,h=>by
  unfold tV at h
  by_cases c:e.1=p
  .rw[if_pos c] at h
   cases h
   obtain⟨a,b⟩:=e;have c:a=p:=c;subst c;exact mem_cons_self ..
  .rw[if_neg c] at h;exact mem_cons_of_mem _ (jF h)
theorem rJ:∀{w:WS},p∈cS w->∃st,tV w p=some st
 | [],h=>by cases h
 |e :: w,h=>by
  unfold tV
  by_cases c:e.1=p
  .rw[if_pos c];exists _,rfl
  .rw[if_neg c];rcases mem_cons.mp h with z | z
   .exact absurd z.symm c
   .exact rJ z
theorem uA:∀{w:WS},p∉cS w->tV w p=none
 | [],_=>rfl
 |e :: w,h=>by
  unfold tV;rw[if_neg (λz=>h (by rw[<- z];exact mem_cons_self ..))];exact uA λz=>h (mem_cons_of_mem _ z)
theorem Rm:(tV w p).isSome=true↔p∈cS w:=by
 by_cases c:p∈cS w
 .obtain⟨st,e⟩:=rJ c;rw[e];exists λ_=>c,λ_=>rfl
 .rw[uA c];exists λz=>(by cases z),λz=>absurd z c
def inF (p:Nat)(s:WS × List Nat)(t:Stp × Nat):WS × List Nat:=if t.2∈cS s.1 then s else (s.1++[(t.2,(tV s.1 p).getD []++[t.1])],s.2++[t.2])
def nV (es:List Br)(s:WS × List Nat):WS × List Nat:=if s.2=[] then s else (stF es (s.2.getLastD 0)).foldl (inF (s.2.getLastD 0)) (s.1,s.2.dropLast)
def cV (es:List Br)(b:Nat):Nat->WS × List Nat
 |0=>([(b,[])],[b])
 |n+1=>nV es (cV es b n)
def uT (es:List Br)(b e:Nat):Option (List Stp):=tV (cV es b 60).1 e
def rB (es:List Br)(s:Stp)(p q:Nat):Prop:=∃u v,(s.1,u,v)∈es/\((s.2=1/\p=u/\q=v)\/(s.2=-1/\p=v/\q=u))
inductive Pt (es:List Br) (b:Nat):List Stp->Nat->List Nat->Prop where
 |nil:Pt es b [] b [b]
 |snoc {st:List Stp} {p q:Nat} {pts:List Nat} {s:Stp} (h:Pt es b st p pts) (g:rB es s p q) (n:q∉pts):Pt es b (st++[s]) q (pts++[q])
theorem oH (h:t∈stF es p):rB es t.1 p t.2:=by
 unfold stF at h;obtain⟨e,he,ht⟩:=mem_filterMap.mp h
 by_cases c1:e.2.1=p
 .rw[if_pos c1] at ht
  cases ht
  exists e.2.1,e.2.2,he,.inl ⟨rfl,c1.symm,rfl⟩
 .rw[if_neg c1] at ht
  by_cases c2:e.2.2=p
  .rw[if_pos c2] at ht
   cases ht
   exists e.2.1,e.2.2,he,.inr ⟨rfl,c2.symm,rfl⟩
  .rw[if_neg c2] at ht;cases ht
theorem Uw (h:rB es s p q):q=p\/∃t∈stF es p,t.2=q:=by
 obtain⟨u,v,he,h⟩:=h
 by_cases c:q=p
 .exact .inl c
 refine .inr ?_;rcases h with ⟨_,rfl,rfl⟩ | ⟨_,rfl,rfl⟩
 .exists ((s.1,1),q),mem_filterMap.mpr ⟨_,he,?_⟩,rfl;rw[if_pos rfl]
 .exists ((s.1,-1),q),mem_filterMap.mpr ⟨_,he,?_⟩,rfl;rw[if_neg c,if_pos rfl]
structure WI (es:List Br) (b:Nat) (s:WS × List Nat):Prop where
 nd:(cS s.1).Nodup
 kb:b∈cS s.1
 pt:∀x st,(x,st)∈s.1->∃pts,Pt es b st x pts/\∀y∈pts,y∈cS s.1
 q:∀x∈s.2,x∈cS s.1
 cl:∀x∈cS s.1,x∉s.2->∀t y,rB es t x y->y∈cS s.1
theorem Ql (es:List Br)(b:Nat):WI es b ([(b,[])],[b]):=by
 exists by simp[cS],by simp[cS],λx st h=>?_,λx h=>?_,λx h n=>?_
 .have:(x,st)=(b,[]):=by simpa using h
  cases this
  exists [b],.nil,λy hy=>by simpa[cS] using hy
 .simpa[cS] using h
 .have:x=b:=by simpa[cS] using h
  exact absurd (by simp[this]) n
theorem Dh (w:WS)(x:Nat)(st:List Stp):cS (w++[(x,st)])=cS w++[x]:=by unfold cS;rw[map_append];rfl
structure WJ (es:List Br) (b p:Nat) (T:List (Stp × Nat)) (s:WS × List Nat):Prop where
 nd:(cS s.1).Nodup
 kb:b∈cS s.1
 kp:p∈cS s.1
 pt:∀x st,(x,st)∈s.1->∃pts,Pt es b st x pts/\∀y∈pts,y∈cS s.1
 q:∀x∈s.2,x∈cS s.1
 cl:∀x∈cS s.1,x∉s.2->x≠p->∀t y,rB es t x y->y∈cS s.1
 t:∀t∈T,t.2∈cS s.1
theorem Ky (h:WJ es b p T s)(g:rB es t.1 p t.2):WJ es b p (T++[t]) (inF p s t):=by
 unfold inF
 by_cases c:t.2∈cS s.1
 .rw[if_pos c];refine { h with t:=λu hu=>?_ };rcases mem_append.mp hu with z | z
  .exact h.t u z
  .have:u=t:=by simpa using z
   rw[this];exact c
 .rw[if_neg c];obtain⟨sp,ep⟩:=rJ h.kp;rw[ep];have up:∀{x:Nat},x∈cS s.1->x∈cS (s.1++[(t.2,sp++[t.1])]):=λhx=>by rw[Dh];exact mem_append_left _ hx
  have me:t.2∈cS (s.1++[(t.2,sp++[t.1])]):=by rw[Dh];simp
  exists ?_,up h.kb,up h.kp,λx st hx=>?_,λx hx=>?_,λx hx nx np=>?_,λu hu=>?_
  .show (cS (s.1++[(t.2,sp++[t.1])])).Nodup;rw[Dh,nodup_append];exists h.nd,⋯,λx hx y hy z=>?_;have:y=t.2:=by simpa using hy
   exact c (by rw[<- this,<- z];exact hx)
  .rcases mem_append.mp hx with z | z
   .obtain⟨pts,h1,h2⟩:=h.pt x st z;exists pts,h1,λy hy=>up (h2 y hy)
   .have:(x,st)=(t.2,sp++[t.1]):=by simpa using z
    cases this
    obtain⟨pts,h1,h2⟩:=h.pt p sp (jF ep);exists pts++[t.2],.snoc h1 g (λz=>c (h2 _ z)),λy hy=>?_;rcases mem_append.mp hy with z | z
    .exact up (h2 y z)
    .have:y=t.2:=by simpa using z
     rw[this];exact me
  .rcases mem_append.mp hx with z | z
   .exact up (h.q x z)
   .have:x=t.2:=by simpa using z
    rw[this];exact me
  .have hx':x∈cS s.1:=by
    have hx2:x∈cS (s.1++[(t.2,sp++[t.1])]):=hx;rw[Dh] at hx2;rcases mem_append.mp hx2 with z | z
    .exact z
    .exact absurd (mem_append_right _ z) nx
   intro t' y hg;exact up (h.cl x hx' (λz=>nx (mem_append_left _ z)) np t' y hg)
  .rcases mem_append.mp hu with z | z
   .exact up (h.t u z)
   .have:u=t:=by simpa using z
    rw[this];exact me
theorem De:∀(U T:List (Stp × Nat)) {s:WS × List Nat},WJ es b p T s->(∀t∈U,rB es t.1 p t.2)->WJ es b p (T++U) (U.foldl (inF p) s)
 | [],T,s,h,_=>by rw[append_nil];exact h
 |u :: U,T,s,h,g=>by
  have:=De U (T++[u]) (Ky h (g u ⋯)) λt ht=>g t (mem_cons_of_mem _ ht);rw[List.append_assoc] at this;exact this
theorem Le (h:q≠[]):q.getLastD 0∈q/\q=q.dropLast++[q.getLastD 0]:=by
 have e:q.getLastD 0=q.getLast h:=by rw[getLastD_eq_getLast?,getLast?_eq_some_getLast h];rfl
 rw[e];exists getLast_mem h,(dropLast_concat_getLast h).symm
theorem xT (h:WI es b s)(hq:s.2≠[]):WJ es b (s.2.getLastD 0) [] (s.1,s.2.dropLast):=by
 obtain⟨m,e⟩:=Le hq;refine⟨h.nd,h.kb,h.q _ m,h.pt,λx hx=>h.q x (dropLast_subset _ hx),λx hx nx np=>h.cl x hx λz=>?_,λt ht=>by cases ht⟩;rw[e] at z;rcases mem_append.mp z with z | z
 .exact nx z
 .exact np (by simpa using z)
theorem qd2 (h:WJ es b p (stF es p) s):WI es b s:=by
 exists h.nd,h.kb,h.pt,h.q,λx hx nx t y hg=>?_
 by_cases c:x=p
 .subst c;rcases Uw hg with z | ⟨u,hu,e⟩
  .rw[z];exact hx
  .rw[<- e];exact h.t u hu
 .exact h.cl x hx nx c t y hg
theorem Vt (h:WI es b s):WI es b (nV es s):=by
 unfold nV
 by_cases c:s.2=[]
 .rw[if_pos c];exact h
 .rw[if_neg c];have:=De (stF es (s.2.getLastD 0)) [] (xT h c) λt ht=>oH ht;rw[nil_append] at this;exact qd2 this
theorem mX (es:List Br)(b:Nat):∀n,WI es b (cV es b n)
 |0=>Ql es b
 |n+1=>Vt (mX es b n)
def muF (s:WS × List Nat):Nat:=2*(20 - s.1.length)+s.2.length
structure Ptm (m:Nat) (es:List Br):Prop where
 p:∀e∈es,e.2.1 < m/\e.2.2 < m
theorem ql1 (h:Ptm m es)(hb:b < m){st:List Stp}(p:Pt es b st x pts):x < m:=by
 cases p with
 |nil=>exact hb
 |snoc _ g _=>
  obtain⟨u,v,he,g⟩:=g;have:=h.p _ he;rcases g with ⟨_,_,rfl⟩ | ⟨_,_,rfl⟩
  .exact this.2
  .exact this.1
theorem Dc (h:Ptm m es)(hb:b < m)(pt:∀x st,(x,st)∈w->∃pts,Pt es b st x pts/\∀y∈pts,y∈cS w):∀x∈cS w,x < m:=λx hx=>by
 obtain⟨st,e⟩:=rJ hx;obtain⟨pts,p,_⟩:=pt x st (jF e);exact ql1 h hb p
theorem Uv (h:Ptm m es)(hb:b < m)(nd:(cS w).Nodup)(pt:∀x st,(x,st)∈w->∃pts,Pt es b st x pts/\∀y∈pts,y∈cS w):w.length<=m:=by
 have:=Lq nd (Dc h hb pt);unfold cS at this
 rwa [length_map] at this
theorem ql4 (hm:Ptm m es)(hb:b < m)(h20:m<=20)(h:WJ es b p T s)(g:rB es t.1 p t.2):muF (inF p s t)<=muF s:=by
 have h':=Ky h g;have le:=Uv hm hb h'.nd h'.pt;unfold inF at le ⊢
 by_cases c:t.2∈cS s.1
 .rw[if_pos c];exact Nat.le_refl _
 .rw[if_neg c] at le ⊢;unfold muF;simp only[xj,length_cons,length_nil] at le ⊢;lia
theorem By (hm:Ptm m es)(hb:b < m)(h20:m<=20):∀(U T:List (Stp × Nat)) {s:WS × List Nat},WJ es b p T s->(∀t∈U,rB es t.1 p t.2)->muF (U.foldl (inF p) s)<=muF s
 | [],_,_,_,_=>Nat.le_refl _
 |u :: U,T,s,h,g=>Nat.le_trans (By hm hb h20 U (T++[u]) (Ky h (g u ⋯)) λt ht=>g t (mem_cons_of_mem _ ht)) (ql4 hm hb h20 h (g u ⋯))
theorem Fd (h:s.2≠[]):muF (s.1,s.2.dropLast)+1=muF s:=by
 have:0 < s.2.length:=length_pos_iff.mpr h;show 2*(20 - s.1.length)+s.2.dropLast.length+1=2*(20 - s.1.length)+s.2.length;rw[length_dropLast];lia
theorem Mw (hm:Ptm m es)(hb:b < m)(h20:m<=20)(h:WI es b s)(hq:s.2≠[]):muF (nV es s)+1<=muF s:=by
 unfold nV;rw[if_neg hq];have:=By hm hb h20 (stF es (s.2.getLastD 0)) [] (xT h hq) λt ht=>oH ht;have e:=Fd hq;lia
theorem zH (h:(cV es b i).2=[]):∀n,cV es b (i+n)=cV es b i
 |0=>rfl
 |n+1=>by
  show nV es (cV es b (i+n))=_;rw[zH h n];unfold nV;rw[if_pos h]
theorem Vu (h:(cV es b i).2=[])(hi:i<=60):(cV es b 60).1=(cV es b i).1:=by
 have:=zH h (60 - i);rw[show i+(60 - i)=60 by lia] at this;rw[this]
theorem uF (hm:Ptm m es)(hb:b < m)(h20:m<=20):∀n,(cV es b n).2=[]\/n+muF (cV es b n)<=39
 |0=>.inr (by show 0+(2*(20 - 1)+1)<=39;lia)
 |n+1=>by
  by_cases c:(cV es b n).2=[]
  .refine .inl ?_;show (nV es (cV es b n)).2=[]
   unfold nV;rw[if_pos c];exact c
  .rcases uF hm hb h20 n with z | z
   .exact absurd z c
   .have:=Mw hm hb h20 (mX es b n) c;refine .inr ?_;show n+1+muF (nV es (cV es b n))<=39;lia
theorem Sy (hm:Ptm m es)(hb:b < m)(h20:m<=20):(cV es b 60).2=[]:=by
 rcases uF hm hb h20 60 with z | z
 .exact z
 .lia
def dX (es:List Br):List RD:=es.map λe=>(.pc,(e.2.1:Int),(e.2.2:Int),(0,1))
theorem wU (h:Ptm m es):∀d∈dX es,dL (m:Int) d.2.1 d.2.2.1:=λd hd=>by
 obtain⟨e,he,rfl⟩:=mem_map.mp hd;have:=h.p e he;exists by show (0:Int)<=(e.2.1:Int);lia,by show ((e.2.1:Nat):Int) < m;lia,by show (0:Int)<=(e.2.2:Int);lia,by show ((e.2.2:Nat):Int) < m;lia
theorem Wx (h:Ptm m es)(g:rB es s p q):mk m (dX es) q=mk m (dX es) p:=by
 obtain⟨u,v,he,g⟩:=g;have e:=qY _ (dX es) rfl (wU h) (.pc,(u:Int),(v:Int),(0,1)) (mem_map.mpr ⟨_,he,rfl⟩) (by intro z;cases z);rw[Int.toNat_natCast,Int.toNat_natCast] at e;rcases g with ⟨_,rfl,rfl⟩ | ⟨_,rfl,rfl⟩
 .exact e.symm
 .exact e
theorem ql6 (h:Ptm m es){st:List Stp}(p:Pt es b st x pts):mk m (dX es) x=mk m (dX es) b:=by
 induction p with
 |nil=>rfl
 |snoc _ g _ ih=>rw[Wx h g,ih]
theorem Mz (h:Ptm m es)(h20:m<=20)(hb:b < m)(he:e < m):(uT es b e).isSome=true↔mk m (dX es) e=mk m (dX es) b:=by
 have wi:=mX es b 60;have q0:=Sy h hb h20;unfold uT;rw[Rm];refine Om (wU h) hb wi.kb (λp hp=>⟨Dc h hb wi.pt p hp,?_⟩) (λd hd _=>?_) he
 .obtain⟨st,e'⟩:=rJ hp;obtain⟨pts,pp,_⟩:=wi.pt p st (jF e');exact ql6 h pp
 .obtain⟨a,ha,rfl⟩:=mem_map.mp hd;show ((a.2.1:Int).toNat∈_↔(a.2.2:Int).toNat∈_);rw[Int.toNat_natCast,Int.toNat_natCast];exists λz=>wi.cl _ z (by rw[q0];simp) (a.1,1) _ ⟨a.2.1,a.2.2,ha,.inl ⟨rfl,rfl,rfl⟩⟩,λz=>wi.cl _ z (by rw[q0];simp) (a.1,-1) _ ⟨a.2.1,a.2.2,ha,.inr ⟨rfl,rfl,rfl⟩⟩
structure uQ (es:List Br) (b e:Nat) (st:List Stp) (pts:List Nat):Prop where
 l:pts.length=st.length+1
 hb:pts[0]?=some b
 he:pts[st.length]?=some e
 g:∀i s,st[i]?=some s->∃p q,pts[i]?=some p/\pts[i+1]?=some q/\rB es s p q
 n:(st.map (·.1)).Nodup
theorem Vs {st:List Stp}(p:Pt es b st x pts):∀s∈st,∃y z,y∈pts/\z∈pts/\rB es s y z:=by
 induction p with
 |nil=>intro s h;cases h
 | @snoc st p q pts s h g n ih=>
  intro t ht;rcases mem_append.mp ht with z | z
  .obtain⟨y,z',h1,h2,h3⟩:=ih t z;exists y,z',mem_append_left _ h1,mem_append_left _ h2,h3
  .have:t=s:=by simpa using z
   subst this;exists p,q,mem_append_left _ ?_,⋯,g
   cases h with
   |nil=>simp
   |snoc _ _ _=>simp
theorem Pm {st:List Stp}(ne:(es.map (·.1)).Nodup)(p:Pt es b st x pts):uQ es b x st pts:=by
 induction p with
 |nil=>exact⟨rfl,rfl,rfl,λi s h=>by simp at h,⋯⟩
 | @snoc st p q pts s h g n ih=>
  have l:=ih.l;exists by rw[xj,xj,l];rfl,?_,?_,λi t ht=>?_,?_
  .rw[getElem?_append_left ()];exact ih.hb
  .rw[xj,getElem?_append_right (by simp;lia)];simp only[length_cons,length_nil];rw[show st.length+(0+1) - pts.length=0 by lia];rfl
  .by_cases c:i < st.length
   .rw[getElem?_append_left c] at ht;obtain⟨y,z,h1,h2,h3⟩:=ih.g i t ht;exists y,z,by rw[getElem?_append_left ()];exact h1,by rw[getElem?_append_left ()];exact h2,h3
   .have hi:i=st.length:=by
     have:=(wq.mp ht).1;simp only[xj,length_cons,length_nil] at this;lia
    subst hi;rw[getElem?_append_right (Nat.le_refl _),Nat.sub_self] at ht;have:s=t:=by simpa using ht
    subst this;exists p,q,by rw[getElem?_append_left ()];exact ih.he,?_,g;rw[getElem?_append_right (),show st.length+1 - pts.length=0 by lia];rfl
  .rw[map_append,nodup_append];exists ih.n,⋯,λa ha c hc z=>?_;have hc:c=s.1:=by simpa using hc
   obtain⟨t,ht,et⟩:=mem_map.mp ha;obtain⟨y,w,h1,h2,u',v',he',g'⟩:=Vs h t ht;obtain⟨u,v,he,g⟩:=g;have same:(t.1,u',v')=(s.1,u,v):=by
    have key:∀{l:List Br},(l.map (·.1)).Nodup->∀{a c:Br},a∈l->c∈l->a.1=c.1->a=c:=λ{l}=>by
     induction l with
     |nil=>intro _ a c h;cases h
     |cons x l ih=>
      intro nd a c ha hc e;rw[map_cons,nodup_cons] at nd;rcases mem_cons.mp ha with rfl | z1<;>rcases mem_cons.mp hc with rfl | z2
      .rfl
      .exact absurd (mem_map.mpr ⟨c,z2,e.symm⟩) nd.1
      .exact absurd (mem_map.mpr ⟨a,z1,e⟩) nd.1
      .exact ih nd.2 z1 z2 e
    exact key ne he' he (by show t.1=s.1;rw[et,z,hc])
   have e1:u'=u:=by injection same with _ e;injection e
   have e2:v'=v:=by injection same with _ e;injection e
   subst e1;subst e2;rcases g with ⟨_,rfl,rfl⟩ | ⟨_,rfl,rfl⟩<;>rcases g' with ⟨_,rfl,rfl⟩ | ⟨_,rfl,rfl⟩
   .exact n h2
   .exact n h1
   .exact n h1
   .exact n h2
theorem Ou {st:List Stp}(ne:(es.map (·.1)).Nodup)(h:uT es b e=some st):∃pts,uQ es b e st pts:=by
 obtain⟨pts,p,_⟩:=(mX es b 60).pt e st (jF h);exists pts,Pm ne p
theorem Ae {st:List Stp}(hm:Ptm m es)(hb:b < m)(h:uT es b e=some st):st.length < m:=by
 obtain⟨pts,p,k⟩:=(mX es b 60).pt e st (jF h);have l:pts.length=st.length+1:=by
  clear h
  induction p with
  |nil=>rfl
  |snoc h g n ih=>rw[xj,xj,ih λy hy=>k y (mem_append_left _ hy)];rfl
 have nd:pts.Nodup:=by
  clear h k l
  induction p with
  |nil=>simp
  |snoc h g n ih=>
   rw[nodup_append];exists ih,⋯,λx hx y hy z=>n ?_;rw[mem_singleton] at hy;rw[<- hy,<- z];exact hx
 have:=Lq nd λy hy=>Dc hm hb (mX es b 60).pt y (k y hy);lia
abbrev Sk:=Kd × Nat × Nat
def skl (ds:List RD):List Sk:=ds.map λd=>(d.1,d.2.1.toNat,d.2.2.1.toNat)
abbrev RS:=List Br × List (Nat × List Stp)
def iF (W:Kd->Bool)(s:RS)(k:Nat)(d:Sk):RS:=if W d.1 then (match uT s.1 d.2.2 d.2.1 with
 |none=>(s.1++[(k,d.2.1,d.2.2)],s.2)
 |some st=>(s.1,s.2++[(k,(k,1) :: st)])) else s
def dW (W:Kd->Bool)(sk:List Sk):Nat->RS
 |0=>([],[])
 |n+1=>match sk[n]? with
  |none=>dW W sk n
  |some d=>iF W (dW W sk n) n d
theorem iH (h:sk[n]?=some d):dW W sk (n+1)=iF W (dW W sk n) n d:=by
 show (match sk[n]? with | none=>dW W sk n | some d=>iF W (dW W sk n) n d)=_;rw[h]
structure RI (W:Kd->Bool) (sk:List Sk) (m n:Nat) (s:RS):Prop where
 pt:Ptm m s.1
 nd:(s.1.map (·.1)).Nodup
 lt:∀e∈s.1,e.1 < n
 at_:∀e∈s.1,∃k,sk[e.1]?=some (k,e.2.1,e.2.2)
 rl:s.2.length<=n
 r:∀c∈s.2,c.1 < n/\∃k u v st pts,sk[c.1]?=some (k,u,v)/\c.2=(c.1,1) :: st/\(∀t∈st,t.1 < c.1/\t.1∈s.1.map (·.1))/\uQ s.1 v u st pts/\st.length < m
theorem uQ.mono {st:List Stp}(h:uQ es b e st pts)(hs:∀x∈es,x∈es'):uQ es' b e st pts:=
 { h with g:=λi s hi=>let ⟨p,q,h1,h2,u,v,h3,h4⟩:=h.g i s hi;⟨p,q,h1,h2,u,v,hs _ h3,h4⟩ }
theorem Sa {st:List Stp}(h:uQ es b e st pts):∀t∈st,t.1∈es.map (·.1):=λt ht=>by
 obtain⟨i,hi⟩:=getElem?_of_mem ht;obtain⟨p,q,_,_,u,v,h3,_⟩:=h.g i t hi;exact mem_map.mpr ⟨_,h3,rfl⟩
theorem lT (hm:∀d∈sk,d.2.1 < m/\d.2.2 < m):∀n,n<=sk.length->RI W sk m n (dW W sk n)
 |0,_=>⟨⟨λe h=>(by cases h)⟩,(by show ([]:List Nat).Nodup;simp),λe h=>(by cases h),λe h=>(by cases h),Nat.le_refl _,λc h=>(by cases h)⟩
 |n+1,hn=>by
  have ih:=lT (W:=W) hm n ();have hd:sk[n]?=some sk[n]:=getElem?_eq_getElem ();rw[iH hd];have pm:=hm _ (mem_of_getElem? hd);generalize sk[n]=d at hd pm;generalize dW W sk n=s at ih;unfold iF
  by_cases hw:W d.1=true
  .rw[if_pos hw]
   cases hy:uT s.1 d.2.2 d.2.1 with
   |none=>
    show RI W sk m (n+1) (s.1++[(n,d.2.1,d.2.2)],s.2);exists ⟨λe he=>?_⟩,?_,λe he=>?_,λe he=>?_,by have:=ih.rl;show s.2.length<=n+1;lia,λc hc=>?_
    .rcases mem_append.mp he with z | z
     .exact ih.pt.p e z
     .have:e=(n,d.2.1,d.2.2):=by simpa using z
      rw[this];exact pm
    .show ((s.1++[(n,d.2.1,d.2.2)]).map (·.1)).Nodup;rw[map_append,nodup_append];exists ih.nd,⋯,λx hx y hy z=>?_;have:y=n:=by simpa using hy
     obtain⟨e,he,ee⟩:=mem_map.mp hx;have:=ih.lt e he;lia
    .rcases mem_append.mp he with z | z
     .have:=ih.lt e z;lia
     .have:e=(n,d.2.1,d.2.2):=by simpa using z
      rw[this];exact Nat.lt_succ_self n
    .rcases mem_append.mp he with z | z
     .exact ih.at_ e z
     .have:e=(n,d.2.1,d.2.2):=by simpa using z
      rw[this];exists d.1,hd
    .obtain⟨h1,k,u,v,st,pts,h2,h3,h4,h5,h6⟩:=ih.r c hc;exists (),k,u,v,st,pts,h2,h3,λt ht=>⟨(h4 t ht).1,?_⟩,h5.mono λx hx=>mem_append_left _ hx,h6;show t.1∈(s.1++[(n,d.2.1,d.2.2)]).map (·.1);rw[map_append];exact mem_append_left _ (h4 t ht).2
   |some st=>
    show RI W sk m (n+1) (s.1,s.2++[(n,(n,1) :: st)]);exists ih.pt,ih.nd,λe he=>Nat.lt_succ_of_lt (ih.lt e he),ih.at_,by have:=ih.rl;show (s.2++[(n,(n,1) :: st)]).length<=n+1;rw[xj];simp only[length_cons,length_nil];lia,λc hc=>?_;rcases mem_append.mp hc with z | z
    .obtain⟨h1,r⟩:=ih.r c z;exists (),r
    .have:c=(n,(n,1) :: st):=by simpa using z
     subst this;obtain⟨pts,ch⟩:=Ou ih.nd hy;exists Nat.lt_succ_self n,d.1,d.2.1,d.2.2,st,pts,hd,rfl,λt ht=>?_,ch,Ae ih.pt pm.2 hy;have ti:=Sa ch t ht;obtain⟨e,he,ee⟩:=mem_map.mp ti;have:=ih.lt e he;exists by show t.1 < n;lia,ti
  .rw[if_neg hw];exists ih.pt,ih.nd,λe he=>Nat.lt_succ_of_lt (ih.lt e he),ih.at_,by have:=ih.rl;lia,λc hc=>let ⟨h1,r⟩:=ih.r c hc;⟨(),r⟩
theorem Tk (h20:m<=20)(h:RI W sk m n s)(hd:d.2.1 < m/\d.2.2 < m)(hw:W d.1=true):(mk 20 (dX s.1) d.2.1=mk 20 (dX s.1) d.2.2/\∃st,iF W s n d=(s.1,s.2++[(n,(n,1) :: st)]))\/(mk 20 (dX s.1) d.2.1≠mk 20 (dX s.1) d.2.2/\iF W s n d=(s.1++[(n,d.2.1,d.2.2)],s.2)):=by
 have p20:Ptm 20 s.1:=⟨λe he=>by have:=h.pt.p e he;lia⟩
 have iff:=Mz (b:=d.2.2) (e:=d.2.1) p20 (Nat.le_refl _) () ();unfold iF;rw[if_pos hw]
 cases hy:uT s.1 d.2.2 d.2.1 with
 |none=>
  rw[hy] at iff;exact .inr ⟨λz=>(by have:=iff.mpr z;cases this),rfl⟩
 |some st=>
  rw[hy] at iff;exact .inl ⟨iff.mp rfl,st,rfl⟩
theorem SqT.updD {K:Frag}(h:SqT K H a xs)(hl:H l=some (.dK kvs)):SqT K (L2.upd H l o) a xs:=by
 rcases h with (h | ⟨u,h⟩) | h
 .exact .inl (.inl (by rw[aV (gX h hl (λz=>by cases z))];exact h))
 .exact .inl (.inr ⟨u,by rw[aV (gX h hl (λz=>by cases z))];exact h⟩)
 .exact .inr h
inductive Sts (K:Frag) (H:Hp):wk->List Stp->Prop where
 |nil:Sts K H [] []
 |cons {t:Addr} {n:Nat} {w:Int} {xs:wk} {st:List Stp} (h:SqT K H t [.int (n:Int),.int w]) (q:Sts K H xs st):Sts K H (.ref t :: xs) ((n,w) :: st)
section
variable {K:Frag} {H H':Hp}
theorem Sts.same (e:aX H H'):∀{xs:wk} {st:List Stp},Sts K H xs st->Sts K H' xs st
 |_,_,.nil=>.nil
 |_,_,.cons h q=>.cons (e.seqT h) (Sts.same e q)
theorem Sts.length:∀{xs:wk} {st:List Stp},Sts K H xs st->xs.length=st.length
 |_,_,.nil=>rfl
 |_,_,.cons _ q=>by simp[Sts.length q]
theorem Sts.app:∀{xs ys:wk} {st su:List Stp},Sts K H xs st->Sts K H ys su->Sts K H (xs++ys) (st++su)
 |_,_,_,_,.nil,r=>r
 |_,_,_,_,.cons h q,r=>.cons h (Sts.app q r)
theorem Sts.get:∀{xs:wk} {st:List Stp} {i:Nat} {x:V},Sts K H xs st->xs[i]?=some x->∃t s,x=.ref t/\st[i]?=some s/\SqT K H t [.int (s.1:Int),.int s.2]
 |_,_,_,_,.nil,h=>by simp at h
 |_,_,0,_,.cons h _,e=>by simp at e;subst e;exists _,_,rfl,rfl,h
 |_,_,i+1,_,.cons _ q,e=>by simpa using Sts.get q (by simpa using e)
theorem Sts.upd (hl:H l=some (.lst ys)):∀{xs:wk} {st:List Stp},Sts K H xs st->Sts K (L2.upd H l o) xs st
 |_,_,.nil=>.nil
 |_,_,.cons h q=>.cons (SqT.upd h hl) (Sts.upd hl q)
theorem Sts.updD (hl:H l=some (.dK kvs)):∀{xs:wk} {st:List Stp},Sts K H xs st->Sts K (L2.upd H l o) xs st
 |_,_,.nil=>.nil
 |_,_,.cons h q=>.cons (SqT.updD h hl) (Sts.updD hl q)
end
inductive Sds (K:Frag) (H:Hp):wk->List (Stp × Nat)->Prop where
 |nil:Sds K H [] []
 |cons {t s:Addr} {n x:Nat} {w:Int} {xs:wk} {st:List (Stp × Nat)} (h:SqT K H t [.ref s,.int (x:Int)]) (g:SqT K H s [.int (n:Int),.int w]) (q:Sds K H xs st):Sds K H (.ref t :: xs) (((n,w),x) :: st)
section
variable {K:Frag} {H H':Hp}
theorem Sds.same (e:aX H H'):∀{xs:wk} {st:List (Stp × Nat)},Sds K H xs st->Sds K H' xs st
 |_,_,.nil=>.nil
 |_,_,.cons h g q=>.cons (e.seqT h) (e.seqT g) (Sds.same e q)
theorem Sds.length:∀{xs:wk} {st:List (Stp × Nat)},Sds K H xs st->xs.length=st.length
 |_,_,.nil=>rfl
 |_,_,.cons _ _ q=>by simp[Sds.length q]
theorem Sds.app:∀{xs ys:wk} {st su:List (Stp × Nat)},Sds K H xs st->Sds K H ys su->Sds K H (xs++ys) (st++su)
 |_,_,_,_,.nil,r=>r
 |_,_,_,_,.cons h g q,r=>.cons h g (Sds.app q r)
theorem Sds.get:∀{xs:wk} {st:List (Stp × Nat)} {i:Nat} {x:V},Sds K H xs st->xs[i]?=some x->∃t u s,x=.ref t/\st[i]?=some s/\SqT K H t [.ref u,.int (s.2:Int)]/\SqT K H u [.int (s.1.1:Int),.int s.1.2]
 |_,_,_,_,.nil,h=>by simp at h
 |_,_,0,_,.cons h g _,e=>by simp at e;subst e;exists _,_,_,rfl,rfl,h,g
 |_,_,i+1,_,.cons _ _ q,e=>by simpa using Sds.get q (by simpa using e)
theorem Sds.upd (hl:H l=some (.lst ys)):∀{xs:wk} {st:List (Stp × Nat)},Sds K H xs st->Sds K (L2.upd H l o) xs st
 |_,_,.nil=>.nil
 |_,_,.cons h g q=>.cons (SqT.upd h hl) (SqT.upd g hl) (Sds.upd hl q)
theorem Sds.updD (hl:H l=some (.dK kvs)):∀{xs:wk} {st:List (Stp × Nat)},Sds K H xs st->Sds K (L2.upd H l o) xs st
 |_,_,.nil=>.nil
 |_,_,.cons h g q=>.cons (SqT.updD h hl) (SqT.updD g hl) (Sds.updD hl q)
end
inductive Wys (K:Frag) (H0:Hp) (W:Addr) (H:Hp):List (Key × V)->WS->Prop where
 |nil:Wys K H0 W H [] []
 |cons {a:Addr} {x:Nat} {xs:wk} {st:List Stp} {kvs:List (Key × V)} {w:WS} (n:H0 a=none) (nw:a≠W) (h:H a=some (.lst xs)) (f:Sts K H xs st) (q:Wys K H0 W H kvs w):Wys K H0 W H ((Sum.inl (x:Int),.ref a) :: kvs) ((x,st) :: w)
section
variable {K:Frag} {H0 H H':Hp} {W:Addr}
theorem Wys.same (e:aX H H'):∀{kvs:List (Key × V)} {w:WS},Wys K H0 W H kvs w->Wys K H0 W H' kvs w
 |_,_,.nil=>.nil
 |_,_,.cons n nw h f q=>.cons n nw (e _ _ h) (f.same e) (Wys.same e q)
theorem Wys.updW (hl:H W=some (.lst ys)):∀{kvs:List (Key × V)} {w:WS},Wys K H0 W H kvs w->Wys K H0 W (L2.upd H W o) kvs w
 |_,_,.nil=>.nil
 |_,_,.cons n nw h f q=>.cons n nw (by rw[aV nw];exact h) (f.upd hl) (Wys.updW hl q)
theorem Wys.updD (hl:H D=some (.dK kv)):∀{kvs:List (Key × V)} {w:WS},Wys K H0 W H kvs w->Wys K H0 W (L2.upd H D o) kvs w
 |_,_,.nil=>.nil
 |_,_,.cons n nw h f q=>.cons n nw (by rw[aV (gX h hl (λz=>by cases z))];exact h) (f.updD hl) (Wys.updD hl q)
theorem Wys.length:∀{kvs:List (Key × V)} {w:WS},Wys K H0 W H kvs w->kvs.length=w.length
 |_,_,.nil=>rfl
 |_,_,.cons _ _ _ _ q=>by simp[Wys.length q]
theorem Wys.snoc {x:Nat}{st:List Stp}(n:H0 a=none)(nw:a≠W)(h:H a=some (.lst xs))(f:Sts K H xs st):∀{kvs:List (Key × V)} {w:WS},Wys K H0 W H kvs w->Wys K H0 W H (kvs++[(Sum.inl (x:Int),.ref a)]) (w++[(x,st)])
 |_,_,.nil=>.cons n nw h f .nil
 |_,_,.cons n' nw' h' f' q=>.cons n' nw' h' f' (Wys.snoc n nw h f q)
theorem Wys.none_:∀{kvs:List (Key × V)} {w:WS},Wys K H0 W H kvs w->p∉cS w->pZ kvs (Sum.inl (p:Int))=none/\(kvs.any λkv=>decide (kv.1=Sum.inl (p:Int)))=false
 |_,_,.nil,_=>⟨rfl,rfl⟩
 |_,_,.cons (x:=x) (kvs:=kvs) (w:=w) n nw h f q,hp=>by
  have hx:x≠p:=λz=>hp (by rw[<- z];exact mem_cons_self ..);obtain⟨h1,h2⟩:=Wys.none_ q λz=>hp (mem_cons_of_mem _ z);exists by rw[lP (λz=>hx (Int.ofNat.inj (Sum.inl.inj z)))];exact h1,?_;rw[any_cons,h2];have e:decide ((Sum.inl (x:Int):Key)=Sum.inl (p:Int))=false:=decide_eq_false λz=>hx (Int.ofNat.inj (Sum.inl.inj z));show (decide ((Sum.inl (x:Int):Key)=Sum.inl (p:Int)) || false)=false;rw[e];rfl
theorem Wys.some_:∀{kvs:List (Key × V)} {w:WS},Wys K H0 W H kvs w->p∈cS w->∃a xs st,pZ kvs (Sum.inl (p:Int))=some (.ref a)/\tV w p=some st/\H0 a=none/\a≠W/\H a=some (.lst xs)/\Sts K H xs st
 |_,_,.nil,h=>by cases h
 |_,_,.cons (a:=a) (x:=x) (xs:=xs) (st:=st) (kvs:=kvs) (w:=w) n nw h f q,hp=>by
  by_cases c:x=p
  .subst c;exists a,xs,st,by rw[oQ rfl],by unfold tV;rw[if_pos rfl],n,nw,h,f
  .have hp':p∈cS w:=by
    rcases mem_cons.mp hp with z | z
    .exact absurd z.symm c
    .exact z
   obtain⟨a',xs',st',h1,h2,r⟩:=Wys.some_ q hp';exists a',xs',st',by rw[lP (λz=>c (Int.ofNat.inj (Sum.inl.inj z)))];exact h1,by unfold tV;rw[if_neg c];exact h2,r
theorem Wys.isSome {p:Nat}(h:Wys K H0 W H kvs w):(pZ kvs (Sum.inl (p:Int))).isSome=decide (p∈cS w):=by
 by_cases c:p∈cS w
 .obtain⟨a,xs,st,e,_⟩:=h.some_ c;rw[e,decide_eq_true c];rfl
 .rw[(h.none_ c).1,decide_eq_false c];rfl
end
structure Rgs (K:Frag) (H0 H:Hp) (us:wk) (X:List (List Stp)):Prop where
 l:us.length=X.length
 r:∀(i:Nat) (x:V) (st:List Stp),us[i]?=some x->X[i]?=some st->∃(a:Addr) (xs:wk),x=.ref a/\H0 a=none/\H a=some (.lst xs)/\Sts K H xs st
theorem Rgs.nil {K:Frag}:Rgs K H0 H [] []:=⟨rfl,λi x st h=>by simp at h⟩
theorem Rgs.same {K:Frag}(e:aX H H')(f:Rgs K H0 H us X):Rgs K H0 H' us X:=⟨f.l,λi x st h1 h2=>let ⟨a,xs,e1,n,h,s⟩:=f.r i x st h1 h2;⟨a,xs,e1,n,e _ _ h,s.same e⟩⟩
theorem Rgs.snoc {K:Frag}{st:List Stp}(f:Rgs K H0 H us X)(n:H0 a=none)(h:H a=some (.lst xs))(s:Sts K H xs st):Rgs K H0 H (us++[.ref a]) (X++[st]):=by
 exists by rw[xj,xj,f.l];rfl,λi x qs h1 h2=>?_;have l:=f.l
 by_cases c:i < us.length
 .rw[getElem?_append_left c] at h1;rw[getElem?_append_left ()] at h2;exact f.r i x qs h1 h2
 .have hi:i=us.length:=by
   have:=(wq.mp h1).1;rw[xj] at this;simp only[length_cons,length_nil] at this;lia
  subst hi;rw[getElem?_append_right (Nat.le_refl _),Nat.sub_self] at h1;rw[getElem?_append_right (),show us.length - X.length=0 by lia] at h2
  cases h1
  cases h2
  exists a,xs,rfl,n,h,s
theorem Rgs.updO {K:Frag}{l:Addr}(f:Rgs K H0 H us X)(hl:H l=some (.lst ys))(n:∀x∈us,x≠.ref l):Rgs K H0 (upd H l o) us X:=⟨f.l,λi x st h1 h2=>let ⟨a,xs,e1,n1,h,s⟩:=f.r i x st h1 h2;⟨a,xs,e1,n1,by rw[aV (λz=>n x (mem_of_getElem? h1) (by rw[e1,z]))];exact h,s.upd hl⟩⟩
def Yn (ds:List RD)(es:List Br):Prop:=∀e∈es,∃d,ds[e.1]?=some d/\d.2.1=(e.2.1:Int)/\d.2.2.1=(e.2.2:Int)
inductive Dr (K:Frag) (CK:Kd->Addr) (vs:wk) (H:Hp) (Q:VK) (E:XK):Prop where
 |mk (a b:Addr) (xs:wk) (ds:List RD) (es:List Br) (p:Nat):vs=[.ref a,.ref b,.int (p:Int)]->SqL K H a xs->iW CK K H xs ds->(SqL K H b (es.map λe=>V.int (e.1:Int)))->Yn ds es->es.length<=100->(∀l ys H',aX H H'->H l=none->H' l=some (.lst ys)->Sds K H' ys (stF es p)->Q (.ref l) H')->Dr K CK vs H Q E
inductive Uh (K:Frag) (CK:Kd->Addr) (vs:wk) (H:Hp) (Q:VK) (E:XK):Prop where
 |mk (a b:Addr) (xs:wk) (ds:List RD) (es:List Br) (m f t:Nat):vs=[.ref a,.ref b,.int (f:Int),.int (t:Int)]->SqL K H a xs->iW CK K H xs ds->(SqL K H b (es.map λe=>V.int (e.1:Int)))->Yn ds es->es.length<=100->Ptm m es->m<=20->f < m->(uT es f t=none->∀H',aX H H'->Q .non H')->(∀st,uT es f t=some st->∀l ys H',aX H H'->H l=none->H' l=some (.lst ys)->Sts K H' ys st->Q (.ref l) H')->Uh K CK vs H Q E
inductive Wds (K:Frag) (H:Hp):V->(Kd->Bool)->Prop where
 |non:Wds K H .non (λk=>decide (k≠.pu))
 |seq {a:Addr} {ws:wk} (h:SqL K H a ws) (f:ws.all oC=true):Wds K H (.ref a) (λk=>inV (.str k.wd) ws)
inductive Dq (CN:Addr) (K:Frag) (vs:wk) (H:Hp) (Q:VK) (E:XK):Prop where
 |mk (n l:Addr) (v:V) (m:Nat) (ds:List RD) (W:Kd->Bool):vs=[.ref n,v]->fK CN K H n l (m:Int) ds->(∀d∈ds,dL (m:Int) d.2.1 d.2.2.1)->m<=20->ds.length<=40->Wds K H v W->(∀r us H',aX H H'->H r=none->H' r=some (.lst us)->Rgs K H H' us ((dW W (skl ds) ds.length).2.map (·.2))->(∀x∈us,x≠.ref r)->Q (.ref r) H')->Dq CN K vs H Q E
end L2
namespace Mq
def KJ (m:Nat)(A1:Mat)(R:List (List Int)):Prop:=∀Φ,Lin Φ->(∀i,i < m->Φ (A1 i)=0)->∀k,k < m->Φ (at2 R k)=0
theorem KJ.swap (h:KJ m A1 R)(hl:R.length=m)(hp:p < m)(hr:r < m):KJ m A1 (gR R p r):=λΦ lin hz k hk=>by
 have e:at2 (gR R p r) k=at2 R (sw p r k):=by
  funext x
  rw[uB () ()]
 rw[e];exact h Φ lin hz _ (Bx hp hr hk)
theorem KJ.clear (h:KJ m A1 R)(s:SI m w A0 R r col d sg)(hr:r < m)(hc:col < w)(he:ent R r col≠0):KJ m A1 (cY R r col d):=λΦ lin hz k hk=>by
 have cl:=λ(x:Nat)=>vL s hr hc he hk x;have z:=h Φ lin hz
 by_cases e:k=r
 .have e2:at2 (cY R r col d) k=at2 R k:=by funext x;rw[cl x,if_pos e]
  rw[e2];exact z k hk
 .have e2:at2 (cY R r col d) k=λx=>(λx=>(at2 R r col / (d:Rat))*at2 R k x) x+(-(at2 R k col / (d:Rat)))*at2 R r x:=by
   funext x
   show _=(at2 R r col / (d:Rat))*at2 R k x+_;rw[cl x,if_neg e];grind
  rw[e2,lin,lin.mul,z k hk,z r hr];grind
theorem KJ.whole (h:KJ m A1 R)(s:SI m w A0 R m m d sg){v:Nat->Rat}(hv:∀i,i < m->(rs m λk=>A1 i k*v k)=A1 i m)(hk:k < m):at2 R k m / (d:Rat)=v k:=by
 obtain⟨A,c,B,e⟩:=s.bar;have dn:=B.dne;have:=h (λf=>(rs m λk=>f k*v k) - f m) (λx y l=>by
  have:(rs m λk=>(x k+l*y k)*v k)=(rs m λk=>x k*v k+l*(y k*v k)):=aR λk _=>by grind
  show (rs m λk=>(x k+l*y k)*v k) - (x m+l*y m)=((rs m λk=>x k*v k) - x m)+l*((rs m λk=>y k*v k) - y m)
  rw[this,gC,fM];grind) (λi hi=>by
  show (rs m λk=>A1 i k*v k) - A1 i m=0;rw[hv i hi];grind) k hk
 have e1:(rs m λj=>at2 R k j*v j)=rs m λj=>if j=k then (d:Rat)*v k else 0:=aR λj hj=>by
  have i2:=B.i2 k j hk hj;rw[B.full rfl j hj] at i2;rw[i2]
  by_cases z:j=k
  .rw[if_pos z,if_pos z,z]
  .rw[if_neg z,if_neg z];grind
 have e2:(rs m λj=>at2 R k j*v j) - at2 R k m=0:=this;rw[e1,oG m k _ hk] at e2;grind
end Mq
namespace Shp
open PySem L2
theorem Rf:Stp m w A0 (λR=>Mq.KI m A1 R/\Mq.KJ m A1 R):=
 ⟨λR r col d sg p s h1 h2 h=>⟨h.1.swap s.len h2 (),h.2.swap s.len h2 ()⟩,λR r col d sg s h1 h2 h3 h=>⟨h.1.clear s h1 h2 h3,h.2.clear s h1 h2 h3⟩⟩
theorem qf7 (hX:gU X)(hq:Mq.Pos qs)(hl:qs.length=X.length)(hw:∀row∈X,row.length=X.length)(h:Mq.KJ X.length (Mq.at2 (jO X qs)) R)(s:SI X.length w (Mq.at2 (jO X qs)) R X.length X.length d sg){v:Nat->Rat}(hv:∀i,i < X.length->(Mq.rs X.length λj=>pJ X i j*v j)=Mq.val (qs.getD i Mq.z0))(hk:k < X.length):Mq.at2 R k X.length / (d:Rat)=v k:=by
 refine h.whole s (λi hi=>?_) hk;rw[wH hX hq hl hw hi (),if_neg (),<- hv i hi,<- fM];refine aR λk hk=>?_;rw[wH hX hq hl hw hi (),if_pos hk];grind
structure qs0 (X:List (List Q2)) (qs ps:List Q2):Prop extends Slv X qs ps where
 uni:∀v:Nat->Rat,(∀i,i < X.length->(Mq.rs X.length λj=>pJ X i j*v j)=Mq.val (qs.getD i Mq.z0))->∀j,j < X.length->Mq.val (ps.getD j Mq.z0)=v j
end Shp
namespace Mq
theorem Wb.rs5 (hK:K<=32)(h:∀k,k < K->Wb n (f k)):Wb (n+5) (Mq.rs K f):=by
 obtain⟨z,e,b⟩:=Zu K h;exists z,e,?_;have p:2 ^ (n+5)=32*2 ^ n:=by rw[Nat.pow_add];lia
 have q:K*2 ^ n<=32*2 ^ n:=Nat.mul_le_mul_right _ hK;have r:0 < 2 ^ n:=Nat.two_pow_pos n;show z.natAbs < 2 ^ (n+5)
 by_cases k0:K=0
 .subst k0;lia
 .lia
theorem Dv:∀(r:Nat) (M:Mat),r<=32->(∀i j,i < r->Wb n (M i j))->Wb ((n+5)*r+1) (det r M)
 |0,_,_,_=>Wb.one
 |r+1,M,hr,h=>by
  rw[hV];have:=Wb.rs5 (n:=n+((n+5)*r+1)) (K:=r+1) (f:=λj=>sgn (r+j)*M r j*det r λi k=>M i (skip j k)) hr λj _=>((h r j ()).sgn _).mul (Dv r _ () λi k hi=>h i _ ());exact this.mono (by rw[Nat.mul_succ];lia)
section
variable {m:Nat} {A E:Mat} {r col:Nat} {d:Rat} {c:Nat->Nat} {n:Nat}
theorem Bar.wd5 (h:Bar m A E r col d c)(hA:∀i x,i < m->Wb n (A i x))(hm:m<=31):Wb ((n+5)*r+1) d:=by
 have rm:=h.rm;rw[<- h.i5];exact Dv r _ () λi j hi=>hA i _ ()
theorem Bar.wtop5 (h:Bar m A E r col d c)(hA:∀i x,i < m->Wb n (A i x))(hm:m<=31)(hk:k < r)(x:Nat):Wb ((n+5)*r+7) (E k x):=by
 have rm:=h.rm;have hd:=h.dne
 by_cases hx:∃j,j < r/\x=c j
 .obtain⟨j,hj,rfl⟩:=hx;rw[h.i2 k j hk hj];split
  .exact(h.wd5 hA hm).mono ()
  .exact Wb.zero _
 .let c2:Nat->Nat:=λj=>if j=r then x else c j
  let u:Nat->Rat:=λj=>if j=c k then 1 else 0
  have hΦ:=Lk r A c2;have z:=h.i6 _ hΦ (λs hs=>Ku r A c2 hs) k hk;have eu:u=λy=>(λy=>u y+(-(1 / d))*E k y) y+(1 / d)*E k y:=by
   funext y
   show u y=u y+(-(1 / d))*E k y+(1 / d)*E k y;grind
  have fb:=Cg r A c2 (λy=>u y+(-(1 / d))*E k y) λj hj=>by
   have ec:c2 j=c j:=by show (if j=r then x else c j)=_;rw[if_neg ()]
   rw[ec];show u (c j)+(-(1 / d))*E k (c j)=0;rw[h.i2 k j hk hj];show (if c j=c k then (1:Rat) else 0)+_=0
   by_cases e:j=k
   .rw[if_pos e,if_pos (by rw[e])];grind
   .rw[if_neg e,if_neg (λq=>e (h.cinj j k hj hk q))];grind
  have dd:(det r λi j=>A i (c2 j))=d:=by
   rw[<- h.i5];exact dH λi j _ hj=>by show A i (if j=r then x else c j)=_;rw[if_neg ()]
  have ux:u x=0:=by show (if x=c k then (1:Rat) else 0)=0;rw[if_neg (λq=>hx ⟨k,hk,q⟩)]
  have cx:c2 r=x:=by show (if r=r then x else _)=x;rw[if_pos rfl]
  rw[dd,cx] at fb;have val:F r A c2 u=- E k x:=by
   rw[eu,hΦ,z,fb];show (u x+(-(1 / d))*E k x)*d+_=_;rw[ux];grind
  have wh:Wb ((n+5)*r+7) (F r A c2 u):=by
   rw[Ox];have:=Wb.rs5 (n:=1+((n+5)*r+1)) (K:=r+1) (f:=λj=>Mq.sgn (r+j)*u (c2 j)*det r λi k=>A i (c2 (Mq.skip j k))) () λj _=>by
    refine Wb.mul (Wb.sgn ?_ _) (Dv r _ () λi k hi=>hA i _ ());show Wb 1 (if c2 j=c k then (1:Rat) else 0);split
    .exact Wb.one
    .exact Wb.zero _
   exact this.mono ()
  rw[val] at wh;have:=wh.neg
  rwa [show - - E k x=E k x by grind] at this
theorem Bar.wall5 (h:Bar m A E r col d c)(hA:∀i x,i < m->Wb n (A i x))(hm:m<=31)(hi:i < m)(x:Nat):Wb ((n+5)*(m+1)+8) (E i x):=by
 have rm:=h.rm;have mono:=Nat.mul_le_mul_left (n+5) rm;have e1:(n+5)*(m+1)=(n+5)*m+(n+5):=Nat.mul_succ ..
 by_cases h1:i < r
 .exact(h.wtop5 hA hm h1 x).mono ()
 .have q:=h.i4 i x hi;rw[if_neg h1] at q;have e:E i x=d*A i x - rs r λk=>A i (c k)*E k x:=by grind
  rw[e];have b1:Wb (n+((n+5)*r+7)+5) (d*A i x):=((h.wd5 hA hm).mul (hA i x hi)).mono ();have b2:Wb (n+((n+5)*r+7)+5) (rs r λk=>A i (c k)*E k x):=Wb.rs5 () λk hk=>(hA i _ hi).mul (h.wtop5 hA hm hk x);exact(b1.sub b2).mono ()
end
theorem SB.bd5 (h:SB n m R r col d)(s:SI m w A0 R r col d sg)(hm:m<=31):BdR ((n+5)*(m+1)+8) R/\B ((n+5)*(m+1)+8) d:=by
 obtain⟨A,c,B,q⟩:=h;exists λi x=>?_,?_
 .by_cases hi:i < m
  .obtain⟨z,e,b⟩:=B.wall5 q hm hi x;have:ent R i x=z:=Rat.intCast_inj.mp e;rw[this];exact b
  .unfold ent;rw[getD_eq_getElem?_getD (l:=R),getElem?_eq_none (by rw[s.len];lia)];exact Nat.two_pow_pos _
 .obtain⟨z,e,b⟩:=B.wd5 q hm;have:d=z:=Rat.intCast_inj.mp e;have mono:=Nat.mul_le_mul_left (n+5) B.rm;rw[this];exact b.mono (by rw[Nat.mul_succ];lia)
theorem Ut (ha:1<=a)(hb:1<=b)(h1:a ∣ L)(h2:b ∣ L):qC a b ∣ L:=by
 have g1:gc a b ∣ a:=Int.gcd_dvd_left ..;have g0:gc a b≠0:=by have:=yM (a:=a) (b:=b) ();lia
 obtain⟨x,hx⟩:=g1;have e:qC a b=x*b:=by
  unfold qC;rw[hJ g0 hx]
 have k:(Int.lcm a b:Int) ∣ L:=Int.coe_lcm_dvd h1 h2;have m:(Int.gcd a b:Int)*(Int.lcm a b:Int)=a*b:=by
  have:=Int.gcd_mul_lcm a b;have h:((Int.gcd a b*Int.lcm a b:Nat):Int)=((a*b).natAbs:Nat):=by rw[this,Int.natAbs_mul]
  rw[Int.natCast_mul] at h;rw[h,Int.natAbs_of_nonneg (Int.mul_nonneg () ())]
 have e2:(Int.lcm a b:Int)=x*b:=by
  have hg:(Int.gcd a b:Int)=gc a b:=rfl;rw[hg] at m;have:gc a b*(Int.lcm a b:Int)=gc a b*(x*b):=by
   rw[m,<- Int.mul_assoc,<- hx]
  exact Int.eq_of_mul_eq_mul_left g0 this
 rw[e,<- e2];exact k
theorem rV:∀{ps:List Q2},Pos ps->(∀p∈ps,p.2 ∣ L)->∀i,i<=ps.length->dR (ps.take i) ∣ L/\1<=dR (ps.take i)
 |ps,hp,h,0,_=>⟨Int.one_dvd _,by rw[take_zero];decide⟩
 |ps,hp,h,i+1,hi=>by
  obtain⟨a,b⟩:=rV hp h i ();have hm:ps[i]?=some ps[i]:=getElem?_eq_getElem ();have mem:=mem_of_getElem? hm;rw[oY hm];exists Ut b (hp _ mem) a (h _ mem),?_;have:=vT (ps:=ps.take (i+1)) (λp hp'=>hp p (mem_of_mem_take hp'))
  rwa [oY hm] at this
end Mq
namespace Shp
open PySem L2
abbrev bw (n m:Nat):Nat:=(n+5)*(m+1)+8
inductive vW (K:Frag) (vs:wk) (H:Hp) (Q:VK) (E:XK):Prop where
 |mk (l D:Addr) (zs:wk) (R:List (List Int)) (m w n:Nat) (Pr:List (List Int)->Prop):vs=[.ref l,.int (m:Int)]->SqL K H l zs->Imx D H zs R->R.length=m->(∀i,i < m->(R.getD i []).length=w)->m<=w->w<=100->BdR n R->1<=n->bw n m<=9000->m<=31->Pr R->Stp m w (Mq.at2 R) Pr->(∀d l' zs' R' rank pivot sign H',aX H H'->H d=none->H l'=none->H' d=some (Qk l' rank pivot sign)->H' l'=some (.lst zs')->Imx l' H' zs' R'->SI m w (Mq.at2 R) R' rank m pivot sign->BdR (bw n m) R'->Mq.B (bw n m) pivot->Pr R'->Q (.ref d) H')->vW K vs H Q E
end Shp
namespace L2
open PySem PySem.Spec PyProof.Rows
section
variable (u:Nat->Rat)
def fw (d:RD)(h:Nat):Rat:=match d.1 with
 | .pc=>(u d.2.1.toNat - u d.2.2.1.toNat)*(1 / Mq.val d.2.2.2)
 | .pu=>0
 | .ho=>u h
def nt:Nat->List RD->Nat->Rat
 |_,[],_=>0
 |h,d :: ds,p=>fw u d h*dl d.2.1.toNat d.2.2.1.toNat p+nt (h+cF d.1) ds p
def hw:Nat->List RD->Nat->Rat
 |_,[],_=>0
 |h,d :: ds,y=>(if d.1=.ho/\h=y then u d.2.1.toNat - u d.2.2.1.toNat else 0)+hw (h+cF d.1) ds y
def eg:Nat->List RD->Rat
 |_,[]=>0
 |h,d :: ds=>fw u d h*(u d.2.1.toNat - u d.2.2.1.toNat)+eg (h+cF d.1) ds
end
section
variable {u:Nat->Rat} {m N:Nat}
theorem Gp (F:Nat->Rat)(hs:s < n)(hg:g < n):Mq.rs n (λp=>F p*dl s g p)=F s - F g:=by
 have e:∀p,F p*dl s g p=(if s=p then F p else 0) + - (if g=p then F p else 0):=λp=>by
  unfold dl
  by_cases a:s=p<;>by_cases b:g=p<;>simp only[a,b,if_true,if_false]<;>grind
 rw[aR λp _=>e p,gC,Mq.tY,Cj,Cj,if_pos hs,if_pos hg];grind
theorem qk2 (u0:u 0=0)(hs:s<=n)(hg:g<=n):Mq.rs n (λi=>u (i+1)*dl s g (i+1))=u s - u g:=by
 have:=Gp u (n:=n+1) (s:=s) (g:=g) () ();rw[rA,u0] at this;grind
theorem qm0 (u0:u 0=0)(pt:dL (m:Int) d.2.1 d.2.2.1)(hm:m<=N+1)(h1:1<=h)(hh:d.1=.ho->h<=N):Mq.rs N (λi=>u (i+1)*cM d h (i+1) y)=fw u d h*dl d.2.1.toNat d.2.2.1.toNat y+(if d.1=.ho/\h=y then u d.2.1.toNat - u d.2.2.1.toNat else 0):=by
 obtain⟨a,b,c,e⟩:=pt;have base:=qk2 (u:=u) (n:=N) (s:=d.2.1.toNat) (g:=d.2.2.1.toNat) u0 () ();unfold cM fw
 cases hk:d.1 with
 |pc=>
  dsimp only;rw[if_neg (λz=>by cases z.1)];have:∀i,u (i+1)*(dl d.2.1.toNat d.2.2.1.toNat (i+1)*dl d.2.1.toNat d.2.2.1.toNat y*(1 / Mq.val d.2.2.2))=(dl d.2.1.toNat d.2.2.1.toNat y*(1 / Mq.val d.2.2.2))*(u (i+1)*dl d.2.1.toNat d.2.2.1.toNat (i+1)):=λi=>by grind
  rw[aR λi _=>this i,fM,base];grind
 |pu=>
  dsimp only;rw[if_neg (λz=>by cases z.1)];have:∀i,u (i+1)*(0:Rat)=0:=λi=>by grind
  rw[aR λi _=>this i,eZ];grind
 |ho=>
  dsimp only;have hN:=hh hk;have one:Mq.rs N (λi=>u (i+1)*(if h=i+1 then 1 else 0))=u h:=by
   have:∀i,u (i+1)*(if h=i+1 then (1:Rat) else 0)=if h - 1=i then u (i+1) else 0:=λi=>by
    by_cases z:h=i+1
    .rw[if_pos z,if_pos ()];grind
    .rw[if_neg z,if_neg ()];grind
   rw[aR λi _=>this i,Cj,if_pos (),show h - 1+1=h by lia]
  have:∀i,u (i+1)*(dl d.2.1.toNat d.2.2.1.toNat (i+1)*(if h=y then 1 else 0)+(if h=i+1 then 1 else 0)*dl d.2.1.toNat d.2.2.1.toNat y)=(if h=y then 1 else 0)*(u (i+1)*dl d.2.1.toNat d.2.2.1.toNat (i+1))+dl d.2.1.toNat d.2.2.1.toNat y*(u (i+1)*(if h=i+1 then 1 else 0)):=λi=>by grind
  rw[aR λi _=>this i,gC,fM,fM,base,one]
  by_cases z:h=y
  .rw[if_pos z,if_pos ⟨rfl,z⟩];grind
  .rw[if_neg z,if_neg (λq=>z q.2)];grind
theorem Ij (u0:u 0=0)(hm:m<=N+1)(y:Nat):∀(ds:List RD) (h:Nat),(∀d∈ds,dL (m:Int) d.2.1 d.2.2.1)->1<=h->h+bZ ds<=N+1->Mq.rs N (λi=>u (i+1)*eqM h ds (i+1) y)=nt u h ds y+hw u h ds y
 | [],h,_,_,_=>by
  have:∀i,u (i+1)*eqM h [] (i+1) y=0:=λi=>by show u (i+1)*(0:Rat)=0;grind
  rw[aR λi _=>this i,eZ];show (0:Rat)=0+0;grind
 |d :: ds,h,pt,h1,hN=>by
  rw[gB] at hN;have ih:=Ij u0 hm y ds (h+cF d.1) (λe he=>pt e (mem_cons_of_mem _ he)) () ();have c:=qm0 (u:=u) (N:=N) (h:=h) (y:=y) u0 (pt d ⋯) hm h1 (λz=>by rw[z] at hN;have:cF .ho=1:=rfl;lia);have:∀i,u (i+1)*eqM h (d :: ds) (i+1) y=u (i+1)*cM d h (i+1) y+u (i+1)*eqM (h+cF d.1) ds (i+1) y:=λi=>by
   show u (i+1)*(cM d h (i+1) y+eqM (h+cF d.1) ds (i+1) y)=_;grind
  rw[aR λi _=>this i,gC,ih,c];show _=(fw u d h*dl d.2.1.toNat d.2.2.1.toNat y+nt u (h+cF d.1) ds y)+((if d.1=.ho/\h=y then u d.2.1.toNat - u d.2.2.1.toNat else 0)+hw u (h+cF d.1) ds y)
  grind
theorem Fm:∀(ds:List RD) (h:Nat),y < h->hw u h ds y=0
 | [],_,_=>rfl
 |d :: ds,h,hy=>by
  show (if d.1=.ho/\h=y then u d.2.1.toNat - u d.2.2.1.toNat else 0)+hw u (h+cF d.1) ds y=0;rw[if_neg (λz=>by lia),Fm ds (h+cF d.1) ()];grind
theorem Je:∀(ds:List RD) (h:Nat),(∀d∈ds,dL (m:Int) d.2.1 d.2.2.1)->m<=y->nt u h ds y=0
 | [],_,_,_=>rfl
 |d :: ds,h,pt,hy=>by
  obtain⟨a,b,c,e⟩:=pt d ⋯;show fw u d h*dl d.2.1.toNat d.2.2.1.toNat y+nt u (h+cF d.1) ds y=0;rw[Je ds (h+cF d.1) (λe he=>pt e (mem_cons_of_mem _ he)) hy];unfold dl;rw[if_neg (),if_neg ()];grind
theorem Jk:∀(ds:List RD) (h:Nat),(∀y,h<=y->y < h+bZ ds->hw u h ds y=0)->∀d∈ds,d.1=.ho->u d.2.1.toNat=u d.2.2.1.toNat
 | [],_,_,_,hd,_=>by cases hd
 |e :: ds,h,all,d,hd,hk=>by
  by_cases he:e.1=.ho
  .have c1:cF e.1=1:=by rw[he];rfl
   have first:=all h (Nat.le_refl _) (by rw[gB];lia)
   have f1:(if e.1=.ho/\h=h then u e.2.1.toNat - u e.2.2.1.toNat else 0)+hw u (h+cF e.1) ds h=0:=first
   rw[if_pos ⟨he,rfl⟩,Fm ds (h+cF e.1) ()] at f1;rcases mem_cons.mp hd with rfl | hd
   .grind
   .refine Jk ds (h+cF e.1) (λy hy hl=>?_) d hd hk;have:=all y () (by rw[gB];lia);have f2:(if e.1=.ho/\h=y then u e.2.1.toNat - u e.2.2.1.toNat else 0)+hw u (h+cF e.1) ds y=0:=this;rw[if_neg (λz=>by lia)] at f2;grind
  .have c0:cF e.1=0:=if_neg he;rcases mem_cons.mp hd with rfl | hd
   .exact absurd hk he
   .refine Jk ds (h+cF e.1) (λy hy hl=>?_) d hd hk;have:=all y () (by rw[gB];lia);have f2:(if e.1=.ho/\h=y then u e.2.1.toNat - u e.2.2.1.toNat else 0)+hw u (h+cF e.1) ds y=0:=this;rw[if_neg (λz=>he z.1)] at f2;grind
theorem Za:∀(ds:List RD) (h:Nat),(∀d∈ds,dL (m:Int) d.2.1 d.2.2.1)->Mq.rs m (λp=>u p*nt u h ds p)=eg u h ds
 | [],h,_=>by
  have:∀p,u p*nt u h [] p=0:=λp=>by show u p*(0:Rat)=0;grind
  rw[aR λp _=>this p,eZ];rfl
 |d :: ds,h,pt=>by
  have ih:=Za ds (h+cF d.1) (λe he=>pt e (mem_cons_of_mem _ he));obtain⟨a,b,c,e⟩:=pt d ⋯;have base:=Gp u (n:=m) (s:=d.2.1.toNat) (g:=d.2.2.1.toNat) () ();have:∀p,u p*nt u h (d :: ds) p=fw u d h*(u p*dl d.2.1.toNat d.2.2.1.toNat p)+u p*nt u (h+cF d.1) ds p:=λp=>by
   show u p*(fw u d h*dl d.2.1.toNat d.2.2.1.toNat p+nt u (h+cF d.1) ds p)=_;grind
  rw[aR λp _=>this p,gC,fM,base,ih];rfl
theorem qo1 (x:Rat):0<=x*x:=by
 rcases Rat.le_total (a:=0) (b:=x) with h | h
 .exact Rat.mul_nonneg h h
 .have:0<=(-x)*(-x):=Rat.mul_nonneg (by grind) (by grind);grind
theorem Vg {a:Rat}(h:0 < a):0 < 1 / a:=by
 rw[Rat.div_def,Rat.one_mul];exact Rat.inv_pos.mpr h
theorem Zl:∀(ds:List RD) (h:Nat),(∀d∈ds,d.1=.pc->0 < Mq.val d.2.2.2)->(∀d∈ds,d.1=.ho->u d.2.1.toNat=u d.2.2.1.toNat)->0<=eg u h ds/\(eg u h ds=0->∀d∈ds,d.1=.pc->u d.2.1.toNat=u d.2.2.1.toNat)
 | [],_,_,_=>⟨Rat.le_refl,λ_ d hd=>by cases hd⟩
 |e :: ds,h,pos,ho=>by
  obtain⟨i1,i2⟩:=Zl ds (h+cF e.1) (λd hd=>pos d (mem_cons_of_mem _ hd)) (λd hd=>ho d (mem_cons_of_mem _ hd));have eq:eg u h (e :: ds)=fw u e h*(u e.2.1.toNat - u e.2.2.1.toNat)+eg u (h+cF e.1) ds:=rfl;rw[eq];generalize eg u (h+cF e.1) ds=r at i1 i2;have t:0<=fw u e h*(u e.2.1.toNat - u e.2.2.1.toNat)/\(e.1=.pc->fw u e h*(u e.2.1.toNat - u e.2.2.1.toNat)=0->u e.2.1.toNat=u e.2.2.1.toNat):=by
   unfold fw
   cases hk:e.1 with
   |pu=>exact⟨by grind,λz=>by cases z⟩
   |ho=>exact⟨by rw[ho e ⋯ hk];grind,λz=>by cases z⟩
   |pc=>
    dsimp only;have p:=Vg (pos e ⋯ hk);generalize 1 / Mq.val e.2.2.2=q at p;generalize u e.2.1.toNat=a;generalize u e.2.2.1.toNat=b;have e2:(a - b)*q*(a - b)=q*((a - b)*(a - b)):=by grind
    rw[e2];exists Rat.mul_nonneg (Rat.le_of_lt p) (qo1 _),λ_ z=>?_;have q0:q≠0:=λz=>by rw[z] at p;exact absurd p ∅
    have:(a - b)*(a - b)=0:=by grind
    have:a - b=0:=by grind
    grind
  obtain⟨t1,t2⟩:=t;generalize fw u e h*(u e.2.1.toNat - u e.2.2.1.toNat)=x at t1 t2;exists by grind,λz d hd hk=>?_;have x0:x=0:=by grind
  have r0:r=0:=by grind
  rcases mem_cons.mp hd with rfl | hd
  .exact t2 hk x0
  .exact i2 r0 d hd hk
theorem Dn (d:RD)(p:Nat):∀(ds:List RD) (h:Nat),nt u h (ds++[d]) p=nt u h ds p+fw u d (h+bZ ds)*dl d.2.1.toNat d.2.2.1.toNat p
 | [],h=>by show fw u d h*_+0=0+fw u d (h+0)*_;rw[Nat.add_zero];grind
 |e :: ds,h=>by
  show fw u e h*_+nt u (h+cF e.1) (ds++[d]) p=fw u e h*_+nt u (h+cF e.1) ds p+_;rw[Dn d p ds,gB,Nat.add_assoc];grind
theorem Hc (F:Nat->Rat):∀(ds:List RD) (h:Nat),(∀d∈ds,dL (m:Int) d.2.1 d.2.2.1)->(∀d∈ds,d.1=.pc->u d.2.1.toNat=u d.2.2.1.toNat)->(∀d∈ds,d.1=.ho->F d.2.1.toNat=F d.2.2.1.toNat)->Mq.rs m (λp=>F p*nt u h ds p)=0
 | [],h,_,_,_=>by
  have:∀p,F p*nt u h [] p=0:=λp=>by show F p*(0:Rat)=0;grind
  rw[aR λp _=>this p,eZ]
 |d :: ds,h,pt,hu,hF=>by
  have ih:=Hc F ds (h+cF d.1) (λe he=>pt e (mem_cons_of_mem _ he)) (λe he=>hu e (mem_cons_of_mem _ he)) (λe he=>hF e (mem_cons_of_mem _ he));obtain⟨a,b,c,e⟩:=pt d ⋯;have base:=Gp F (n:=m) (s:=d.2.1.toNat) (g:=d.2.2.1.toNat) () ();have:∀p,F p*nt u h (d :: ds) p=fw u d h*(F p*dl d.2.1.toNat d.2.2.1.toNat p)+F p*nt u (h+cF d.1) ds p:=λp=>by
   show F p*(fw u d h*dl d.2.1.toNat d.2.2.1.toNat p+nt u (h+cF d.1) ds p)=_;grind
  rw[aR λp _=>this p,gC,fM,base,ih]
  cases hk:d.1 with
  |pu=>
   have:fw u d h=0:=by unfold fw;rw[hk]
   rw[this];grind
  |pc=>
   have:fw u d h=0:=by unfold fw;rw[hk];dsimp only;rw[hu d ⋯ hk];grind
   rw[this];grind
  |ho=>rw[hF d ⋯ hk];grind
def Frs (ds:List RD):Prop:=∀(A B:List RD) (d:RD),ds=A++d :: B->d.1=.ho->¬Cn (jM .ho A) d.2.1.toNat d.2.2.1.toNat
theorem Mp:∀(n:Nat) (ds:List RD) (h:Nat),ds.length=n->(∀d∈ds,dL (m:Int) d.2.1 d.2.2.1)->Frs ds->(∀d∈ds,d.1=.pc->u d.2.1.toNat=u d.2.2.1.toNat)->(∀p,p < m->nt u h ds p=0)->∀y,h<=y->y < h+bZ ds->u y=0
 |0,ds,h,hl,_,_,_,_,y,h1,h2=>by
  have:ds=[]:=length_eq_zero_iff.mp hl;subst this;have:bZ ([]:List RD)=0:=rfl;lia
 |n+1,ds,h,hl,pt,fr,hu,ze,y,h1,h2=>by
  obtain⟨es,d,rfl⟩:∃es d,ds=es++[d]:=⟨ds.dropLast,ds.getLast (by intro z;rw[z] at hl;cases hl),(dropLast_concat_getLast _).symm⟩
  have le:es.length=n:=by rw[xj] at hl;simpa using hl
  have pe:∀x∈es,dL (m:Int) x.2.1 x.2.2.1:=λx hx=>pt x (mem_append_left _ hx);have ue:∀x∈es,x.1=.pc->u x.2.1.toNat=u x.2.2.1.toNat:=λx hx=>hu x (mem_append_left _ hx);have fe:Frs es:=λA B x e hx=>fr A (B++[d]) x (by rw[e];simp) hx;obtain⟨i0,i1,j0,j1⟩:=pt d ⋯;have f0:fw u d (h+bZ es)=0:=by
   cases hk:d.1 with
   |pu=>unfold fw;rw[hk]
   |pc=>unfold fw;rw[hk];dsimp only;rw[hu d ⋯ hk];grind
   |ho=>
    open Classical in
    have nc:=fr es [] d rfl hk
    let F:Nat->Rat:=λp=>if Cn (jM .ho es) d.2.1.toNat p then 1 else 0
    have s1:=Hc (u:=u) (m:=m) F es h pe ue (λx hx hk'=>by
     show (if Cn (jM .ho es) d.2.1.toNat x.2.1.toNat then (1:Rat) else 0)=if Cn (jM .ho es) d.2.1.toNat x.2.2.1.toNat then 1 else 0
     have r:Cn (jM .ho es) x.2.1.toNat x.2.2.1.toNat:=.row (mem_filter.mpr ⟨hx,decide_eq_true hk'⟩) (by rw[hk'];exact λz=>by cases z)
     by_cases c:Cn (jM .ho es) d.2.1.toNat x.2.1.toNat
     .rw[if_pos c,if_pos (c.trans r)]
     .rw[if_neg c,if_neg (λz=>c (z.trans r.symm))])
    have s2:Mq.rs m (λp=>F p*nt u h (es++[d]) p)=0:=by
     have:∀p,p < m->F p*nt u h (es++[d]) p=0:=λp hp=>by rw[ze p hp];grind
     rw[aR this,eZ]
    have e3:∀p,F p*nt u h (es++[d]) p=F p*nt u h es p+fw u d (h+bZ es)*(F p*dl d.2.1.toNat d.2.2.1.toNat p):=λp=>by rw[Dn];grind
    rw[aR λp _=>e3 p,gC,s1,fM,Gp F () ()] at s2;have Fs:F d.2.1.toNat=1:=if_pos (.refl _);have Fg:F d.2.2.1.toNat=0:=if_neg nc;rw[Fs,Fg] at s2;grind
  have ze':∀p,p < m->nt u h es p=0:=λp hp=>by
   have:=ze p hp;rw[Dn,f0] at this;grind
  rw[gO] at h2
  by_cases c:y < h+bZ es
  .exact Mp n es h le pe fe ue ze' y h1 c
  .have hk:d.1=.ho:=Classical.byContradiction λz=>by
    have:cF d.1=0:=if_neg z;lia
   have c1:cF d.1=1:=by rw[hk];rfl
   have:y=h+bZ es:=by lia
   rw[this];unfold fw at f0;rw[hk] at f0;exact f0
theorem Yu (hm1:1<=m)(pt:∀d∈ds,dL (m:Int) d.2.1 d.2.2.1)(pos:∀d∈ds,d.1=.pc->0 < Mq.val d.2.2.2)(cn:∀p,p < m->Cn ds 0 p)(fr:Frs ds)(u0:u 0=0)(ze:∀y,1<=y->y<=m - 1+bZ ds->Mq.rs (m - 1+bZ ds) (λi=>u (i+1)*eqM m ds (i+1) y)=0):∀y,y<=m - 1+bZ ds->u y=0:=by
 have ze2:∀y,1<=y->y<=m - 1+bZ ds->nt u m ds y+hw u m ds y=0:=λy a b=>by
  have:=ze y a b;rw[Ij (m:=m) u0 () y ds m pt hm1 ()] at this;exact this
 have hf:=Jk (u:=u) ds m (λy a b=>by
  have:=ze2 y () ();rw[Je ds m pt a] at this;grind)
 have np:∀p,1<=p->p < m->nt u m ds p=0:=λp a b=>by
  have:=ze2 p a ();rw[Fm ds m b] at this;grind
 have e0:eg u m ds=0:=by
  rw[<- Za (u:=u) (m:=m) ds m pt];have:∀p,p < m->u p*nt u m ds p=0:=λp hp=>by
   by_cases c:p=0
   .rw[c,u0];grind
   .rw[np p () hp];grind
  rw[aR this,eZ]
 have pf:=(Zl (u:=u) ds m pos hf).2 e0;have cz:∀p,p < m->u p=0:=λp hp=>by
  have:=Cn.ind (R:=λa b=>u a=u b) (λ_=>rfl) (λ_ _ e=>e.symm) (λ_ _ _ a b=>a.trans b) (λd hd hk=>by
   cases h:d.1 with
   |pc=>exact pf d hd h
   |pu=>exact absurd h hk
   |ho=>exact hf d hd h) (cn p hp)
  rw[<- this,u0]
 have all:∀p,p < m->nt u m ds p=0:=λp hp=>by
  by_cases c:p=0
  .have s:=Hc (u:=u) (m:=m) (λ_=>1) ds m pt pf (λ_ _ _=>rfl);obtain⟨k,rfl⟩:∃k,m=k+1:=⟨m - 1,()⟩
   rw[rA] at s;have:∀i,i < k->(1:Rat)*nt u (k+1) ds (i+1)=0:=λi hi=>by rw[np (i+1) () ()];grind
   rw[aR this,eZ] at s;rw[c];grind
  .exact np p () hp
 have hz:=Mp (u:=u) (m:=m) _ ds m rfl pt fr pf all;intro y hy
 by_cases c:y < m
 .exact cz y c
 .exact hz y () ()
end
open Shp
section
variable {m N:Nat} {ds:List RD}
theorem Yp (d:RD)(h x y:Nat):cM d h x y=cM d h y x:=by
 unfold cM
 cases d.1<;>dsimp only<;>grind
theorem Dy:∀(ds:List RD) (h x y:Nat),eqM h ds x y=eqM h ds y x
 | [],_,_,_=>rfl
 |d :: ds,h,x,y=>by
  show cM d h x y+eqM (h+cF d.1) ds x y=cM d h y x+eqM (h+cF d.1) ds y x;rw[Yp,Dy ds]
structure Nof (m:Nat) (ds:List RD):Prop where
 m1:1<=m
 pt:∀d∈ds,dL (m:Int) d.2.1 d.2.2.1
 pos:∀d∈ds,d.1=.pc->0 < Mq.val d.2.2.2
 cn:∀p,p < m->Cn ds 0 p
 fr:Frs ds
theorem qh3 (e:xN m ds N X Y):X.length=m - 1+bZ ds:=e.x.h
theorem Jy (e:xN m ds N X Y)(i j:Nat):pJ X i j=eqM m ds (i+1) (j+1):=e.vx i j
end
theorem pD:∀(k n:Nat),(dW W sk (n+k)).2=[]->(dW W sk n).2=[]
 |0,n,h=>h
 |k+1,n,h=>by
  refine pD k n ?_;have h:(dW W sk (n+k+1)).2=[]:=h
  cases e:sk[n+k]? with
  |none=>
   have:dW W sk (n+k+1)=dW W sk (n+k):=by
    show (match sk[n+k]? with | none=>dW W sk (n+k) | some d=>iF W (dW W sk (n+k)) (n+k) d)=_;rw[e]
   rw[this] at h;exact h
  |some d=>
   rw[iH e] at h;unfold iF at h;split at h
   .split at h
    .exact h
    .exact absurd h ⋯
   .exact h
theorem Km:∀n,n<=sk.length->(dW W sk n).2=[]->∀i d,i < n->sk[i]?=some d->W d.1=true->(i,d.2.1,d.2.2)∈(dW W sk n).1
 |0,_,_,i,_,hi,_,_=>absurd hi (Nat.not_lt_zero _)
 |n+1,hn,h,i,d,hi,hd,hW=>by
  have h0:=pD 1 n h;have en:sk[n]?=some sk[n]:=getElem?_eq_getElem ();have ih:=Km n () h0;rw[iH en] at h ⊢;generalize sk[n]=x at en h ⊢;unfold iF at h ⊢
  by_cases c:i < n
  .have:=ih i d c hd hW;split at h
   .rename_i w
    rw[if_pos w];split at h
    .exact mem_append_left _ this
    .exact absurd h ⋯
   .rename_i w
    rw[if_neg w];exact this
  .have:i=n:=by lia
   subst this;rw[en] at hd
   cases hd
   rw[if_pos hW] at h ⊢;split at h
   .exact mem_append_right _ ⋯
   .exact absurd h ⋯
theorem qh1 {m:Nat}(hW:∀k,W k=true↔k=.ho)(pt:∀d∈ds,dL (m:Int) d.2.1 d.2.2.1)(h20:m<=20)(h:(dW W (skl ds) ds.length).2=[]):Frs ds:=by
 intro A B d e hd cn;have sl:(skl ds).length=ds.length:=by unfold skl;rw[length_map]
 have lA:A.length < ds.length:=by rw[e,xj,length_cons];lia
 have at_:∀(i:Nat) (x:RD),ds[i]?=some x->(skl ds)[i]?=some (x.1,x.2.1.toNat,x.2.2.1.toNat):=λi x hx=>by unfold skl;rw[getElem?_map,hx];rfl
 have hdA:ds[A.length]?=some d:=by rw[e,getElem?_append_right (Nat.le_refl _),Nat.sub_self];rfl
 have h1:(dW W (skl ds) (A.length+1)).2=[]:=pD (ds.length - (A.length+1)) (A.length+1) (by rw[show A.length+1+(ds.length - (A.length+1))=ds.length by lia];exact h);have h0:=pD 1 A.length h1;have br:=Km (W:=W) (sk:=skl ds) A.length () h0;have ri:=lT (W:=W) (sk:=skl ds) (m:=m) (λx hx=>by
  obtain⟨y,hy,rfl⟩:=mem_map.mp hx;obtain⟨a,b,c,f⟩:=pt y hy;exact⟨by show y.2.1.toNat < m;lia,by show y.2.2.1.toNat < m;lia⟩) A.length ()
 rw[iH (at_ _ _ hdA)] at h1;unfold iF at h1;rw[if_pos ((hW _).mpr hd)] at h1;obtain⟨a,b,c,f⟩:=pt d (mem_of_getElem? hdA);have wi:=Mz (b:=d.2.2.1.toNat) (e:=d.2.1.toNat) ri.pt h20 () ();have none_:uT (dW W (skl ds) A.length).1 d.2.2.1.toNat d.2.1.toNat=none:=by
  split at h1
  .rename_i ew;exact ew
  .exact absurd h1 ⋯
 rw[none_] at wi;refine absurd (wi.mpr ?_) ⋯;refine Cn.ind (ds:=jM .ho A) (R:=λp q=>mk m (dX (dW W (skl ds) A.length).1) p=mk m (dX (dW W (skl ds) A.length).1) q) (λ_=>rfl) (λ_ _ e=>e.symm) (λ_ _ _ x y=>x.trans y) (λx hx hk=>?_) cn;obtain⟨xA,xk⟩:=mem_filter.mp hx;obtain⟨i,hi⟩:=getElem?_of_mem xA;have il:=(wq.mp hi).1;have hx':ds[i]?=some x:=by rw[e,getElem?_append_left il];exact hi
 have:=br i _ il (at_ i x hx') ((hW _).mpr (of_decide_eq_true xk));exact qY _ _ rfl (wU ri.pt) (.pc,(x.2.1.toNat:Int),(x.2.2.1.toNat:Int),(0,1)) (mem_map.mpr ⟨_,this,rfl⟩) (by intro z;cases z)
end L2
namespace Shp
open PySem L2
theorem Mu (hl:R0.length=m)(hw:∀i,i < m->(R0.getD i []).length=w)(hmw:m<=w)(h0:Pr R0)(st:Stp m w (Mq.at2 R0) Pr):∀col,col<=m->∃R r d sg,SI m w (Mq.at2 R0) R r col d sg/\Pr R
 |0,_=>⟨R0,0,1,1,.start hl hw,h0⟩
 |col+1,hc=>by
  obtain⟨R,r,d,sg,S,p⟩:=Mu hl hw hmw h0 st col ()
  by_cases hz:∀i,r<=i->i < m->ent R i col=0
  .exists R,r,d,sg,S.skip hz,p
  .obtain⟨i,hi⟩:=Classical.not_forall.mp hz;obtain⟨h1,hi⟩:=Classical.not_imp.mp hi;obtain⟨h2,ne⟩:=Classical.not_imp.mp hi
   by_cases e:i=r
   .subst e;exists _,_,_,_,S.clear h2 () ne,st.cl R i col d sg S h2 () ne p
   .have hlt:r < i:=by lia
    have S2:=S.swap hlt h2;have p2:=st.sw R r col d sg i S hlt h2 p;have ne2:ent (gR R i r) r col≠0:=by
     have:=Dj (R:=R) (p:=i) (r:=r) (by rw[S.len];lia) (by rw[S.len];lia) r;unfold ent at ne ⊢;rw[this,show Mq.sw i r r=i by unfold Mq.sw;simp];exact ne
    exists _,_,_,_,S2.clear () () ne2,st.cl _ r col d (-sg) S2 () () ne2 p2
theorem Ym (xP:gU X)(hw:∀row∈X,row.length=X.length)(m1:1<=X.length)(hz:wgt X=0):∃v:Nat->Rat,(∃j,j < X.length/\v j≠0)/\∀x,x < X.length->(Mq.rs X.length λj=>v j*pJ X j x)=0:=by
 obtain⟨R,r,d,sg,S,L⟩:=Mu (m:=X.length) (w:=X.length+X.length) (R0:=iC X) (oK X) (λi hi=>by rw[oR hi,uI,hw _ (mem_of_getElem? (uS hi))]) () (Mn xP hw) Pq X.length (Nat.le_refl _);have wr:=Ev xP (Lz λi j hi hj=>tT xP hw hi hj) S;have hr:r < X.length:=by
  rcases wr with z | z
  .exact z.1
  .exact absurd hz z.2
 obtain⟨⟨k0,hk0,nk0⟩,hsum⟩:=L.lame S hr;exists λk=>Mq.at2 R (X.length - 1) (X.length+k),⟨k0,hk0,λz=>?_⟩,hsum;exact nk0 (Rat.intCast_inj.mp (by unfold Mq.at2 at z;simpa using z))
end Shp
namespace L2
open Shp
theorem Nof.wgt_ne (o:Nof m ds)(e:xN m ds N X Y)(xP:gU X)(hw:∀row∈X,row.length=X.length)(m1:1<=X.length):wgt X≠0:=λhz=>by
 obtain⟨v,⟨j,hj,vj⟩,hs⟩:=Ym xP hw m1 hz;have n:=qh3 e;have z:=Yu (u:=λx=>if x=0 then 0 else v (x - 1)) o.m1 o.pt o.pos o.cn o.fr (if_pos rfl) (λy y1 yn=>by
  have s:=hs (y - 1) ();rw[n] at s;rw[<- s];refine aR λi _=>?_;rw[if_neg (),Nat.add_sub_cancel,Jy e,show y - 1+1=y by lia])
 have:=z (j+1) ();rw[if_neg (),Nat.add_sub_cancel] at this;exact vj this
end L2
namespace Mq
theorem Rn (l:Low p){a L:Int}(hL:1<=L)(h:val p=(a:Rat) / (L:Rat)):p.2 ∣ L/\p.1.natAbs<=a.natAbs:=by
 have h2:((p.2:Int):Rat)≠0:=by have:=l.pos;exact_mod_cast (show p.2≠0 by lia)
 have hl:((L:Int):Rat)≠0:=by exact_mod_cast (show L≠0 by lia)
 have e:p.1*L=a*p.2:=by
  unfold val at h;have:((p.1:Int):Rat)*(L:Rat)=(a:Rat)*((p.2:Int):Rat):=by grind
  exact_mod_cast this
 have d:p.2 ∣ L:=by
  have c:Int.gcd p.2 p.1=1:=by
   have:=l.one;unfold gc at this;rw[Int.gcd_comm];exact_mod_cast this
  have c':Nat.Coprime p.2.natAbs p.1.natAbs:=c;have dv:p.2.natAbs ∣ p.1.natAbs*L.natAbs:=by
   rw[<- Int.natAbs_mul,e,Int.natAbs_mul];exact Nat.dvd_mul_left ..
  exact Int.natAbs_dvd_natAbs.mp (c'.dvd_of_dvd_mul_left dv)
 obtain⟨t,ht⟩:=d;have t1:t≠0:=λz=>by rw[z,Int.mul_zero] at ht;lia
 have e2:p.1*t=a:=by
  have:p.2*(p.1*t)=p.2*a:=by
   rw[Int.mul_comm p.2 a,<- e,ht,<- Int.mul_assoc,<- Int.mul_assoc,Int.mul_comm p.2 p.1]
  exact Int.eq_of_mul_eq_mul_left (by have:=l.pos;lia) this
 exists ⟨t,ht⟩,?_;rw[<- e2,Int.natAbs_mul];exact Nat.le_mul_of_pos_right _ ()
def Fr (L:Int)(M:Nat)(x:Rat):Prop:=∃a:Int,x=(a:Rat) / (L:Rat)/\a.natAbs<=M*L.natAbs
section
variable {L K:Int} {M N:Nat} {x y:Rat}
theorem zR (h:1<=L):((L:Int):Rat)≠0:=by exact_mod_cast (show L≠0 by lia)
theorem Fr.mono (h:Fr L M x)(l:M<=N):Fr L N x:=by
 obtain⟨a,e,b⟩:=h;exists a,e,Nat.le_trans b (Nat.mul_le_mul_right _ l)
theorem Fr.zero:Fr L 0 0:=⟨0,by rw[show ((0:Int):Rat)=0 by rfl,Rat.div_def];grind,⋯⟩
theorem Fr.one (h:1<=L):Fr L 1 1:=⟨L,by have:=zR h;grind,()⟩
theorem Fr.add (h:Fr L M x)(g:Fr L N y):Fr L (M+N) (x+y):=by
 obtain⟨a,ea,ba⟩:=h;obtain⟨b,eb,bb⟩:=g;exists a+b,?_,?_
 .rw[ea,eb,Rat.intCast_add,Rat.div_def,Rat.div_def,Rat.div_def];grind
 .rw[Nat.add_mul];have:=Int.natAbs_add_le a b;lia
theorem Fr.neg (h:Fr L M x):Fr L M (-x):=by
 obtain⟨a,ea,ba⟩:=h;refine⟨-a,?_,by rw[Int.natAbs_neg];exact ba⟩;rw[ea,Rat.intCast_neg,Rat.div_def,Rat.div_def];grind
theorem Fr.of (hL:1<=L){t b:Int}(hb:1<=b)(d:b ∣ L)(ht:t.natAbs<=M):Fr L M ((t:Rat) / (b:Rat)):=by
 obtain⟨k,rfl⟩:=d;have k1:1<=k:=by
  rcases Int.lt_or_le k 1 with z | z
  .have:=Int.mul_nonpos_of_nonneg_of_nonpos (show 0<=b by lia) (show k<=0 by lia);lia
  .exact z
 exists t*k,?_,?_
 .have:=zR hb;have:=zR k1;rw[Rat.intCast_mul,Rat.intCast_mul];grind
 .rw[Int.natAbs_mul,Int.natAbs_mul];refine Nat.mul_le_mul ht (Nat.le_mul_of_pos_left _ ())
theorem Fr.get (h:Fr L M x)(hM:M < 2 ^ m)(hL:B n L)(hb:m+n<=b):∃a:Int,B b a/\x=(a:Rat) / (L:Rat):=by
 obtain⟨a,ea,ba⟩:=h;exists a,?_,ea;refine B.mono (n:=m+n) ?_ hb;show a.natAbs < 2 ^ (m+n);rw[Nat.pow_add];have hL:L.natAbs < 2 ^ n:=hL;exact Nat.lt_of_le_of_lt ba (Nat.mul_lt_mul'' hM hL)
end
def prB:List Int->Int
 | []=>1
 |a :: r=>a*prB r
theorem La:∀{l:List Int},(∀a∈l,1<=a)->1<=prB l
 | [],_=>Int.le_refl _
 |a :: r,h=>by
  have h1:=h a ⋯;have h2:=La (l:=r) λb hb=>h b (mem_cons_of_mem _ hb);have:=Int.mul_pos (show 0 < a by lia) (show 0 < prB r by lia);show 1<=a*prB r;lia
theorem Ls:∀{l:List Int} {a:Int},a∈l->a ∣ prB l
 |b :: r,a,h=>by
  rcases mem_cons.mp h with z | z
  .rw[z];exact Int.dvd_mul_right ..
  .exact Int.dvd_trans (Ls z) (Int.dvd_mul_left ..)
theorem Zo:∀{l:List Int},(∀a∈l,B u a)->B (u*l.length+1) (prB l)
 | [],_=>show (1:Nat) < 2 ^ (u*0+1) by rw[Nat.mul_zero];decide
 |a :: r,h=>by
  have h1:=h a ⋯;have h2:=Zo (l:=r) λb hb=>h b (mem_cons_of_mem _ hb);exact(h1.mul h2).mono (by rw[length_cons,Nat.mul_succ];lia)
end Mq
namespace L2
theorem Qi (s g x:Nat):dl s g x=1\/dl s g x=0\/dl s g x=-1:=by
 unfold dl
 by_cases a:s=x<;>by_cases b:g=x<;>simp only[a,b,if_true,if_false]
 .exact .inr (.inl (by grind))
 .exact .inl (by grind)
 .exact .inr (.inr (by grind))
 .exact .inr (.inl (by grind))
theorem Fz (h:Mq.Fr L M y)(s g x:Nat):Mq.Fr L M (dl s g x*y):=by
 rcases Qi s g x with e | e | e
 .rw[e,Rat.one_mul];exact h
 .rw[e,Rat.zero_mul];exact Mq.Fr.zero.mono (Nat.zero_le _)
 .rw[e,show (-1:Rat)*y=-y by grind];exact h.neg
open PySem PySem.Spec PyProof.Rows Shp
abbrev Ent:=Option Nat × RD × Q2
end L2
namespace Mq
theorem Lr {a L l k:Int}(h:1<=p.2)(e:l=k*p.2)(l1:1<=l)(d:l ∣ L)(hL:1<=L)(v:val p=(a:Rat) / (L:Rat)):(Gi l p).natAbs<=a.natAbs:=by
 obtain⟨s,rfl⟩:=d;have s1:s≠0:=λz=>by rw[z,Int.mul_zero] at hL;lia
 have hv:=Ug (L:=l) (k:=k) h e;have h2:=zR l1;have h3:((s:Int):Rat)≠0:=by exact_mod_cast s1
 have e2:Gi l p*s=a:=by
  have:((Gi l p:Int):Rat)*(s:Rat)=(a:Rat):=by
   rw[hv,v,Rat.intCast_mul];grind
  exact_mod_cast this
 rw[<- e2,Int.natAbs_mul];exact Nat.le_mul_of_pos_right _ ()
end Mq
namespace Shp
open PySem L2
theorem Yo (hX:gU X)(hq:Mq.Pos qs)(hl:qs.length=X.length)(hb:∀row∈X,∀p∈row,p.2 ∣ L/\∃a:Int,Mq.B b a/\Mq.val p=(a:Rat) / (L:Rat))(hqb:∀p∈qs,p.2 ∣ L/\∃a:Int,Mq.B b a/\Mq.val p=(a:Rat) / (L:Rat))(hL:1<=L):BdR b (jO X qs):=λi x=>by
 unfold ent
 by_cases hi:i < X.length
 .rw[xY hl hi];have pos:=vV hX hq hl hi;have al:∀p∈X.getD i []++[qs.getD i Mq.z0],p.2 ∣ L/\∃a:Int,Mq.B b a/\Mq.val p=(a:Rat) / (L:Rat):=λp hp=>by
   rcases mem_append.mp hp with z | z
   .exact hb _ (mem_of_getElem? (uS hi)) p z
   .have e:p=qs.getD i Mq.z0:=by simpa using z
    rw[e];exact hqb _ (mem_of_getElem? (sK (show i < qs.length by lia)))
  generalize X.getD i []++[qs.getD i Mq.z0]=row at pos al;obtain⟨dv,l1⟩:=Mq.rV pos (λp hp=>(al p hp).1) row.length (Nat.le_refl _);rw[take_length] at dv l1;unfold iw;rw[getD_eq_getElem?_getD,getElem?_map]
  cases e:row[x]? with
  |none=>exact Nat.two_pow_pos _
  |some p=>
   have mem:=mem_of_getElem? e;obtain⟨_,a,ab,ea⟩:=al p mem;obtain⟨k,ek⟩:=yH pos p mem;exact ab.le (Mq.Lr (pos p mem) ek l1 dv hL ea)
 .rw[getD_eq_getElem?_getD (l:=jO X qs),getElem?_eq_none (by rw[Ew hl];lia)];exact Nat.two_pow_pos _
structure Ovr (n:Nat) (ps:List Q2):Prop where
 e:∃D:Int,1<=D/\Mq.B n D/\∀p∈ps,∃t:Int,Mq.B n t/\Mq.val p=(t:Rat) / (D:Rat)
theorem Xi (d0:d≠0)(bd:Mq.B n d)(h:∀p∈ps,∃t:Int,Mq.B n t/\p=red t d):Ovr n ps:=by
 exists (d.natAbs:Int),(),by show ((d.natAbs:Int)).natAbs < _;rw[Int.natAbs_natCast];exact bd,λp hp=>?_;obtain⟨t,bt,rfl⟩:=h p hp;rw[kQ d0];rcases Int.lt_or_le d 0 with z | z
 .exists -t,bt.neg,?_;rw[show ((d.natAbs:Nat):Int)=-d by lia,Rat.intCast_neg,Rat.intCast_neg];have:((d:Int):Rat)≠0:=by exact_mod_cast d0
  grind
 .exists t,bt,by rw[show ((d.natAbs:Nat):Int)=d by lia]
inductive tW (K:Frag) (vs:wk) (H:Hp) (Q:VK) (E:XK):Prop where
 |mk (g b D:Addr) (H0:Hp) (us bs:wk) (X:List (List Q2)) (qs:List Q2) (k n:Nat):vs=[.ref g,.ref b]->SqL K H g us->Fmd K H0 D H us X->SqL K H b bs->Fqs K H bs qs->qs.length=X.length->gK qs->(∀p∈qs,Bd k p)->gU X->(∀row∈X,(∀p∈row,Bd k p)/\row.length=X.length)->X.length<=26->10+k+k*(X.length+1)<=8000->BdR n (jO X qs)->1<=n->bw n X.length<=8900->wgt X≠0->(∀l zs ps H',aX H H'->H l=none->H' l=some (.lst zs)->Fqs K H' zs ps->qs0 X qs ps->Ovr (bw n X.length) ps->Q (.ref l) H')->tW K vs H Q E
end Shp
namespace L2
open PySem PySem.Spec PyProof.Rows
section
variable {X:Cx} {C C0 f:Addr}
theorem zC:lQ X (.builtin "ValueError.__init__") (λxs H Q=>∃a C C0 f d v v2,xs=[.ref a,v,v2]/\H a=some (iQ a (.ref C) d)/\lV X.K C C0 f/\Q .non H):=by
 intro pins s σ H xs us Q I r h;obtain⟨a,C,C0,f,d,v,v2,rfl,ea,q,hq⟩:=h;obtain⟨u1,us',rfl,r1,r2⟩:∃u1 us',us=u1 :: us'/\cN (.ref a) u1/\cJ [v,v2] us':=by cases r with | cons p q=>exact⟨_,_,rfl,p,q⟩
 obtain rfl:u1=Value.ref a:=r1;obtain⟨⟨t,he⟩,_⟩:=(show dP X.prog X.w H s.heap a (iQ a (.ref C) d) from I.hok a _ ea)
 obtain⟨nm,qn,N,bs,sn,sub,ab,col,dd,k0,k1,k2,k3,k5,lC⟩:=q.cls;have FB:=PySem.F.excBase_ValueError;have T:=q.tail I.kIn;have hl:us'.length=2:=r2.length.symm;have hC:=I.kIn _ _ lC;have fin:∀s',s'={ s with heap:=(s.heap.push { cls:=.type "tuple",data:=.seq us'.toArray }).update a (Obj.mapFields (·.setIfInBounds 0 (.ref s.heap.objs.size))) }->EP X pins σ Q .none s':=by
  rintro s' rfl;have I1:Inv X pins σ H { s with heap:=s.heap.push { cls:=.type "tuple",data:=.seq us'.toArray } }:=I.kept (t':=s.toks) λb o e=>Heap.get?_push_of_some _ e;have he1:=Heap.get?_push_of_some (h:=s.heap) { cls:=.type "tuple",data:=.seq us'.toArray } he;have e2:=Heap.get?_update_self (Obj.mapFields (·.setIfInBounds 0 (.ref s.heap.objs.size))) he1 rfl;have I2:=I1.write (x:=a) (e:=a) (t':=s.toks) (o:=iQ a (.ref C) d) (by rw[ea];exact True.intro) (.inl rfl) (λb u nb e=>(Heap.get?_update_other _ _ (Ne.symm nb)).trans e) ⟨_,e2⟩ (qQ (t:=s.heap.objs.size) e2);rw[Sm ea] at I2;exists .non,H,I2,rfl,hq
 obtain⟨hp,g,dr,tk,os⟩:=s;refine wpAny_call (codeAny_call_builtin FB.init.plain FB.initEntry (wpAny_check_init_subU FB T hC he rfl ?_));unfold Builtin.«BaseException.__init__»;dsimp only;rw[if_neg ⋯];unfold newTuple Builtin.BaseException.bexcPut;have he₁:=Heap.get?_push_of_some (h:=hp) { cls:=.type "tuple",data:=.seq us'.toArray } he;refine wpAny_bind (wpAny_newObj_type (wpAny_bind (wpAny_bind (wpAny_field he₁ rfl rfl (wpAny_bind (wpAny_setField he₁ rfl (show 0 < 6 by decide) ?_))))) (by show us'.toArray.size<=sizeLine;rw[size_toArray,hl];decide));exact wpAny_letGo (wpAny_pure (fin _ rfl))
def Oi (K:Frag)(ta:TA):TE:=λσ H Q=>ta σ H λvs H1=>∃a C C0 f d v v2,vs=[.ref a,v,v2]/\H1 a=some (iQ a (.ref C) d)/\lV K C C0 f/\Q .non H1
theorem Ej (hg:Gl X x)(hm:X.mg x=some (.ref C0))(c:Ue X.K C0)(ha:PA X (e :: es) t)(hdb:(x == ("__debug__":Str))=false:=by decide)(hst:starEach (e :: es) X.env=(false,eval e X.env) :: starEach es X.env:=by rfl)(hpl:(backTo pos (starEach es X.env)).any (·.1)=false:=by rfl)(ht:eval (.Call (.Attribute (.Name x np) "__init__" apos) (e :: es) [] pos) X.env=(do
   let ov <- eval (.Name x np) X.env
   standAt apos.atName
   let (f,first) <- holding [ov] (getMethod ov "__init__" pl)
   callWith pos f first (backTo pos (starEach (e :: es) X.env)) (backToKw pos (keywordEach [] X.env))):=by rfl):
  PE X (.Call (.Attribute (.Name x np) "__init__" apos) (e :: es) [] pos) (Oi X.K t):=by
 intro pins s σ H Q I h;refine W.methodCall_KW (pl:=pl) (kP I hg hm ?_ hdb) ht;refine W.method_cls I.kIn c.sp (W.cls_value I.kIn c.rd c.fi rfl ?_);have I':Inv X pins σ H { s with toks:=s.toks+1 }:=I.tok _;exact PyProof.Rows.callWith_builtin1 (thn (ha pos pins _ σ H _ I' h) λus s1 ⟨vs,H1,I1,r1,q1⟩=>zC pins s1 σ H1 vs us Q I1 r1 q1) hst hpl
end
section
variable {prog:Program} {w:World} {A:Around} {E:Value->Shared->Prop} {s:Shared} {K:Frag} {x C C0 f:Addr} {name:Str} {v:Value} {vs:Array Value}
theorem Vb (X:K.In s.heap)(q:lV K C C0 f)(hx:s.heap.get? x=some { cls:=.ref C,dict:=some d,data:=.fields vs })(hnd:s.heap.Ns1 d m)(hw:Within m ns)(hl:ns.length<=20)(hs:W.findIn K (.ref C) "__setattr__"=some (some (.builtin "object.__setattr__")))(hn:W.findIn K (.ref C) name=some none)(h:∀h',(h'.Ns1 d λy=>if y=name then some v else m y)->Heap.SameBut d s.heap h'->∀tk,Q .unit { s with heap:=h',toks:=tk }):
  wpAny (model prog w) A (setAttr (.ref x) name v) Q E s:=by
 obtain⟨oD0,esD0,epD0,hoD0,hdD0,hsk⟩:=id hnd;have J:W.InstAt s.heap x { cls:=.ref C,dict:=some d,data:=.fields vs } C (some oD0):=⟨hx,rfl,rfl,hoD0⟩
 have SF:=PySem.F.store_object;have SV:=PySem.F.store_ValueError;obtain⟨cd,hc,hm,hd⟩:=q.cin;refine W.set_plain X J hs ?_;have sub:W.Looks (model prog w) s.heap (isInstance (.ref x) (.type "object")) true:=J.type.andThen (W.looks_mroIn X (by unfold W.mroIn;rw[hc,Option.bind_some,hm];rfl));refine codeAny_call_builtin SF.slot.plain SF.entry (@W.check_slot (model prog w) _ _ { s with toks:=s.toks+1 } "object.__setattr__" "object" "__setattr__" (.ref x) [.str name s.toks,v] [] _ SF.kind SF.split sub (SF.args (.ref x) (.str name s.toks) v) ?_);have hmro:W.Looks (model prog w) s.heap (mroOf (.ref C)) cd.mro:=(W.looks_clsIn X hc).andThen .now;rw[W.osa_eq,refuse_eq];refine wpAny_bind (wpAny_bind (W.Looks.here (s:={ s with toks:=s.toks+1 }) J.type (wpAny_bind (W.Looks.here (s:={ s with toks:=s.toks+1 }) hmro ?_))));rw[hm,refuseLoop_ref,refuseLoop_ref,SV.passes];refine wpAny_pure (wpAny_bind (W.Looks.here (s:={ s with toks:=s.toks+1 }) J.type (wpAny_bind (W.Looks.here (s:={ s with toks:=s.toks+1 }) (W.looks_findIn X hn) (wpAny_bind (wpAny_pure ?_))))));dsimp only;refine wpAny_bind (wpAny_pure (wpAny_bind (wpAny_bind (wpAny_loadPart hx (wpAny_bind (W.Looks.here (s:={ s with toks:=s.toks+1 }) (W.looks_clsIn X hc) ?_))))));rw[hd,if_neg ∅];dsimp only;refine wpAny_pure ?_;show wpAny _ _ (Builtin.ObjectAttr.storeInDict d (.str name s.toks) name v) _ _ _;unfold Builtin.ObjectAttr.storeInDict Builtin.ObjectAttr.newKeyGuard;refine wpAny_bind (wpAny_pure (wpAny_bind (wpAny_nsSet1 (s:={ s with toks:=s.toks+1 }) hnd λh' hn' hs'=>?_)));obtain⟨oD,esD,epD,hoD,hdD,hcD⟩:=hn'.count (ns:=name :: ns) (λy hy=>by
  by_cases c:y=name
  .rw[c];exact mem_cons_self ..
  .rw[if_neg c] at hy;exact mem_cons_of_mem _ (hw y hy))
 refine wpAny_bind (wpAny_lookBehind hoD (by rw[hdD];exact pastItsLine_dict (Nat.le_trans hcD (by rw[length_cons,sizeLine_eq];lia))) ?_);refine wpAny_pure ?_;exact h h' hn' hs' _
end
section
variable {X:Cx} {o value:Expr} {nm:Str} {pos pos':Pos} {ta tv:TE}
def xdE (a:Addr)(fs:List (Str × V)):HO:=.ext λh=>∃mA,h.Ns1 a mA/\∀f,kR (fs.lookup f) (mA f)
theorem qd4 (e:h.Ns1 a mA)(r:∀f,kR (fs.lookup f) (mA f)):dP P w H h a (xdE a fs):=by
 obtain⟨o,es,ep,z1,z2⟩:=id e;exists ⟨mA,e,r⟩,⟨_,z1⟩,λh1 h2 ⟨m',⟨o',es',ep',y1,y2⟩,r'⟩ k=>⟨m',⟨o',es',ep',k _ y1,y2⟩,r'⟩
def qj0 (K:Frag)(ta tv:TE)(nm:Str):TS:=λD σ H=>tv σ H λy H1=>ta σ H1 λx H2=>∃a C C0 f,x=.ref a/\H2 a=some (iQ a (.ref C) none)/\lV K C C0 f/\Bm K C nm/\
 ∀dx,H2 dx=none->D.nx σ (upd (upd H2 dx (xdE dx [(nm,y)])) a (iQ a (.ref C) (some dx)))
theorem Ss (ha:PE X o ta)(hv:PE X value tv)(hs:swapsWith value (some (.Attribute o nm pos')) pos.line X.env=pure false):PS X (.Assign [.Attribute o nm pos'] value pos) (qj0 X.K ta tv nm):=by
 intro pins s σ H D I h;refine plainObj_wpAny_Assign_Attribute (thn (hv pins s σ H _ I h) λu s1 ⟨y,H1,I1,ry,q⟩=>thn (ha pins s1 σ H1 _ I1 q) λov s2 ⟨x,H2,I2,rx,a,C,C0,f,ex,ea,qi,qf,q2⟩=>?_) hs;subst ex;obtain rfl:ov=Value.ref a:=rx;obtain⟨⟨t,he⟩,_⟩:=(show dP X.prog X.w H2 s2.heap a (iQ a (.ref C) none) from I2.hok a _ ea)
 refine Mh I2.kIn qi he qf.sa qf.no λh' e1 e2 e3 tk=>?_;have fr:H2 s2.heap.objs.size=none:=I2.hok.fresh (Nat.le_refl _);exists σ,_,?_,q2 _ fr;have na:a≠s2.heap.objs.size:=Nat.ne_of_lt (Heap.lt_size he);have u1:=Heap.get?_update_self (λ_:Obj=>({ cls:=.ref C,data:=.fields #[.ref t,.none,.none,.none,.bool false,.none] }:Obj)) e1 rfl;have u2:∀b,b≠a->(h'.update a λ_:Obj=>({ cls:=.ref C,data:=.fields #[.ref t,.none,.none,.none,.bool false,.none] }:Obj)).get? b=h'.get? b:=λb nb=>Heap.get?_update_other _ _ (Ne.symm nb);generalize h'.update a (λ_:Obj=>({ cls:=.ref C,data:=.fields #[.ref t,.none,.none,.none,.bool false,.none] }:Obj))=h1 at u1 u2;have I3:Inv X pins σ (upd H2 s2.heap.objs.size (xdE s2.heap.objs.size [(nm,y)])) { s2 with heap:=h1,toks:=s2.toks }:=by
  refine I2.laid (a:=s2.heap.objs.size) (o:=xdE s2.heap.objs.size [(nm,y)]) (h':=h1) (t':=s2.toks) (λb u e=>?_) (Nat.le_refl _) ?_
  .by_cases nb:b=a
   .subst nb;rw[he] at e;cases e;exact u1
   .rw[u2 b nb];exact e3 b u nb e
  .obtain⟨od,es,ep,z1,z2⟩:=e2;refine qd4 ⟨od,es,ep,(u2 _ (Ne.symm na)).trans z1,z2⟩ λg=>?_
   by_cases gg:g=nm
   .subst gg;rw[if_pos rfl,lookup_cons,beq_self_eq_true];exact ry
   .have:(g == nm)=false:=beq_eq_false_iff_ne.mpr gg;rw[if_neg gg,lookup_cons,this];exact True.intro
 have ea3:upd H2 s2.heap.objs.size (xdE s2.heap.objs.size [(nm,y)]) a=some (iQ a (.ref C) none):=by rw[aV na];exact ea
 exact I3.write (x:=a) (e:=a) (h':=h') (t':=tk) (by rw[ea3];exact True.intro) (.inl rfl) (λb u nb z=>by rw[<- u2 b nb];exact z) ⟨_,e1⟩ (qQ e1)
def qe6 (K:Frag)(ta tv:TE)(nm:Str):TS:=λD σ H=>tv σ H λy H1=>ta σ H1 λx H2=>∃a C C0 f dx n1 y1,x=.ref a/\H2 a=some (iQ a (.ref C) (some dx))/\H2 dx=some (xdE dx [(n1,y1)])/\n1≠nm/\lV K C C0 f/\Bm K C nm/\
 D.nx σ (upd H2 dx (.xd [(n1,y1),(nm,y)]))
theorem Tm (ha:PE X o ta)(hv:PE X value tv)(hs:swapsWith value (some (.Attribute o nm pos')) pos.line X.env=pure false):PS X (.Assign [.Attribute o nm pos'] value pos) (qe6 X.K ta tv nm):=by
 intro pins s σ H D I h;refine plainObj_wpAny_Assign_Attribute (thn (hv pins s σ H _ I h) λu s1 ⟨y,H1,I1,ry,q⟩=>thn (ha pins s1 σ H1 _ I1 q) λov s2 ⟨x,H2,I2,rx,a,C,C0,f,dx,n1,y1,ex,ea,ed,ne,qi,qf,q2⟩=>?_) hs;subst ex;obtain rfl:ov=Value.ref a:=rx;obtain⟨⟨t,he⟩,_⟩:=(show dP X.prog X.w H2 s2.heap a (iQ a (.ref C) (some dx)) from I2.hok a _ ea)
 obtain⟨⟨mA,hm,hr⟩,_⟩:=(show dP X.prog X.w H2 s2.heap dx (xdE dx [(n1,y1)]) from I2.hok dx _ ed)
 refine Vb (ns:=[n1]) I2.kIn qi he hm (λg hg=>?_) (by show 1<=20;decide) qf.sa qf.no λh' e2 e3 tk=>?_
 .by_cases c:g=n1
  .rw[c];exact mem_cons_self ..
  .exfalso
   have:=hr g;rw[lookup_cons,beq_eq_false_iff_ne.mpr c] at this;apply hg
   cases e:mA g with
   |none=>rfl
   |some v=>rw[e] at this;exact absurd this (by intro z;exact z)
 .exists σ,_,?_,q2;obtain⟨od,es,ep,z1,z2⟩:=id e2;refine I2.write (x:=dx) (e:=dx) (h':=h') (t':=tk) (by rw[ed];exact True.intro) (.inl rfl) (λb u nb z=>(e3.2 b nb).trans z) ⟨_,z1⟩ ⟨_,e2,λg=>?_⟩
  by_cases c:g=nm
  .subst c;rw[if_pos rfl,lookup_cons,beq_eq_false_iff_ne.mpr (Ne.symm ne),lookup_cons,beq_self_eq_true];exact ry
  .rw[if_neg c];have:=hr g
   by_cases c1:g=n1
   .subst c1;rw[lookup_cons,beq_self_eq_true] at this ⊢;exact this
   .rw[lookup_cons,beq_eq_false_iff_ne.mpr c1] at this ⊢;rw[lookup_cons,beq_eq_false_iff_ne.mpr c];exact this
end
open Shp
abbrev wd (m:Nat)(ds:List RD):Nat:=m - 1+bZ ds
structure Sv (m:Nat) (ds:List RD) (r:Nat->Rat) (v:Nat->Rat):Prop where
 z:v 0=0
 e:∀i,i < wd m ds->(Mq.rs (wd m ds) λj=>eqM m ds (i+1) (j+1)*v (j+1))=r (i+1)
structure LnH (K:Frag) (H:Hp) (us:wk) (X:List (List Q2)):Prop where
 l:us.length=X.length
 r:∀(i:Nat) (x:V) (ps:List Q2),us[i]?=some x->X[i]?=some ps->∃(a:Addr) (xs:wk),x=.ref a/\H a=some (.lst xs)/\Fqs K H xs ps
theorem LnH.same {K:Frag}(e:aX H H')(h:LnH K H us X):LnH K H' us X:=⟨h.l,λi x ps h1 h2=>let ⟨a,xs,e1,e2,e3⟩:=h.r i x ps h1 h2;⟨a,xs,e1,e _ _ e2,e3.same e⟩⟩
theorem cH.seqI {K:Frag}(ht:H t=some (.ins C dx fs))(e:cH t H H')(h:SqL K H a xs):SqL K H' a xs:=by
 rcases h with (h | ⟨u,h⟩) | h
 .exact .inl (.inl (e _ _ h (gX h ht (λz=>by cases z))))
 .exact .inl (.inr ⟨u,e _ _ h (gX h ht (λz=>by cases z))⟩)
 .exact .inr h
theorem cH.seqTI {K:Frag}(ht:H t=some (.ins C dx fs))(e:cH t H H')(h:SqT K H a xs):SqT K H' a xs:=by
 rcases h with (h | ⟨u,h⟩) | h
 .exact .inl (.inl (e _ _ h (gX h ht (λz=>by cases z))))
 .exact .inl (.inr ⟨u,e _ _ h (gX h ht (λz=>by cases z))⟩)
 .exact .inr h
theorem cH.fqsI {K:Frag}(ht:H t=some (.ins C dx fs))(e:cH t H H'):∀{xs:wk} {ps:List Q2},Fqs K H xs ps->Fqs K H' xs ps
 |_,_,.nil=>.nil
 |_,_,.cons f q=>.cons (cH.seqTI ht e f) (cH.fqsI ht e q)
theorem gil:¬(("lines":Str) = "levels"):=by decide +kernel
theorem gio:¬(("lines":Str) = "flows"):=by decide +kernel
theorem glo:¬(("levels":Str) = "flows"):=by decide +kernel
def jK (p l a:Addr):List (Str × V):=gD "flows" (.ref a) (gD "levels" (.ref l) (gD "lines" (.ref p) []))
theorem Xe (p l a:Addr):(jK p l a).lookup ("lines":Str)=some (.ref p):=by
 unfold jK;rw[bY,if_neg gio,bY,if_neg gil,bY,if_pos rfl]
theorem Ye (p l a:Addr):(jK p l a).lookup ("levels":Str)=some (.ref l):=by
 unfold jK;rw[bY,if_neg glo,bY,if_pos rfl]
theorem Wf (p l a:Addr):(jK p l a).lookup ("flows":Str)=some (.ref a):=by
 unfold jK;rw[bY,if_pos rfl]
theorem rO (p l a:Addr){x:Str}(h1:¬x = "lines")(h2:¬x = "levels")(h3:¬x = "flows"):(jK p l a).lookup x=none:=by
 unfold jK;rw[bY,if_neg h3,bY,if_neg h2,bY,if_neg h1];rfl
structure AB (K:Frag) (mg:Str->Option Value) (CA:Addr):Prop where
 cl:Cls K CA
 nI:iN K CA "lines"
 nE:iN K CA "levels"
 nO:iN K CA "flows"
 mA:mg "Answer"=some (.ref CA)
structure Rc (CA:Addr) (K:Frag) (H:Hp) (a:Addr) (lv fl:List Q2):Prop where
 e:∃(dx li le fo:Addr) (xs ys:wk),H a=some (.ins CA dx (jK li le fo))/\SqL K H le xs/\Fqs K H xs lv/\SqL K H fo ys/\Fqs K H ys fl
inductive tJ (CA:Addr) (K:Frag) (vs:wk) (H:Hp) (Q:VK) (E:XK):Prop where
 |mk (a:Addr) (lv fl:List Q2):vs=[.ref a]->Rc CA K H a lv fl->(∀l xs H',aX H H'->H l=none->H' l=some (.lst xs)->Fqs K H' xs lv->Q (.ref l) H')->tJ CA K vs H Q E
inductive sY (CA:Addr) (K:Frag) (vs:wk) (H:Hp) (Q:VK) (E:XK):Prop where
 |mk (a:Addr) (lv fl:List Q2):vs=[.ref a]->Rc CA K H a lv fl->(∀l xs H',aX H H'->H l=none->H' l=some (.lst xs)->Fqs K H' xs fl->Q (.ref l) H')->sY CA K vs H Q E
def jT (lv hs:List Q2)(t:Nat)(d:RD):Q2:=pK d.1 (flF lv d) (if d.1=.ho then hs.getD t Mq.z0 else (0,1)) d.2.2.2
def kI (lv hs:List Q2):Nat->List RD->List Q2
 |_,[]=>[]
 |t,d :: r=>jT lv hs t d :: kI lv hs (t+cF d.1) r
theorem Ad (lv hs:List Q2)(d:RD):∀(ds:List RD) (t:Nat),kI lv hs t (ds++[d])=kI lv hs t ds++[jT lv hs (t+bZ ds) d]
 | [],t=>rfl
 |e :: r,t=>by
  show _ :: kI lv hs (t+cF e.1) (r++[d])=_ :: (kI lv hs (t+cF e.1) r++_);rw[Ad lv hs d r,gB,Nat.add_assoc]
theorem rP (lv hs:List Q2):∀(ds:List RD) (t:Nat),(kI lv hs t ds).length=ds.length
 | [],_=>rfl
 |d :: r,t=>by show (kI lv hs _ r).length+1=r.length+1;rw[rP lv hs r]
def lvS (m:Nat)(sol:List Q2):List Q2:=(0,1) :: sol.take (m - 1)
structure sI (l CA:Addr) (K:Frag) (H:Hp) (a:Addr) (lv fl:List Q2):Prop where
 e:∃(dx li le fo:Addr) (xs ys:wk),H a=some (.ins CA dx (jK li le fo))/\SqL K H le xs/\Fqs K H xs lv/\SqL K H fo ys/\Fqs K H ys fl/\le≠l/\fo≠l
section
variable {l CA a:Addr} {K:Frag} {H H':Hp} {lv fl:List Q2}
theorem sI.at (h:sI l CA K H a lv fl):Rc CA K H a lv fl:=by
 obtain⟨dx,li,le,fo,xs,ys,h1,h2,h3,h4,h5,_,_⟩:=h.e;exists dx,li,le,fo,xs,ys,h1,h2,h3,h4,h5
theorem sI.same (s:aX H H')(h:sI l CA K H a lv fl):sI l CA K H' a lv fl:=by
 obtain⟨dx,li,le,fo,xs,ys,h1,h2,h3,h4,h5,h6,h7⟩:=h.e;exists dx,li,le,fo,xs,ys,s _ _ h1,s.seq h2,h3.same s,s.seq h4,h5.same s,h6,h7
theorem cH.seqN (e:cH l H H')(ne:q≠l)(h:SqL K H q xs):SqL K H' q xs:=by
 rcases h with (h | ⟨u,h⟩) | h
 .exact .inl (.inl (e _ _ h ne))
 .exact .inl (.inr ⟨u,e _ _ h ne⟩)
 .exact .inr h
theorem cH.fqsL (hl:H l=some (.lst as))(e:cH l H H'):∀{xs:wk} {ps:List Q2},Fqs K H xs ps->Fqs K H' xs ps
 |_,_,.nil=>.nil
 |_,_,.cons f q=>.cons (e.seqT hl f) (cH.fqsL hl e q)
theorem sI.x (hl:H l=some (.lst as))(e:cH l H H')(h:sI l CA K H a lv fl):sI l CA K H' a lv fl:=by
 obtain⟨dx,li,le,fo,xs,ys,h1,h2,h3,h4,h5,h6,h7⟩:=h.e;exists dx,li,le,fo,xs,ys,e _ _ h1 (gX h1 hl (λz=>by cases z)),e.seqN h6 h2,cH.fqsL hl e h3,e.seqN h7 h4,cH.fqsL hl e h5,h6,h7
end
theorem yG (l:Low p)(hL:1<=L)(LB:Mq.B b L)(ab:Mq.B b a)(h:Mq.val p=(a:Rat) / (L:Rat)):Bd b p/\p.2 ∣ L:=by
 obtain⟨d,t⟩:=Mq.Rn l hL h;exists ⟨ab.le t,LB.le ?_⟩,d;have:=Int.le_of_dvd () d;have:=l.pos;lia
structure EqB (m b:Nat) (L:Int) (ds:List RD):Prop where
 o:Nof m ds
 w26:wd m ds<=26
 b1:1<=b
 hb:10+b+b*(wd m ds+1)<=8000
 hbw:bw b (wd m ds)<=4000
 L1:1<=L
 LB:Mq.B b L
 eM:∀i j,∃a:Int,Mq.B b a/\eqM m ds (i+1) (j+1)=(a:Rat) / (L:Rat)
def uP (sol:List Q2)(x:Nat):Rat:=if x=0 then 0 else Mq.val (sol.getD (x - 1) Mq.z0)
section
variable {m b N:Nat} {L:Int} {ds:List RD} {X:List (List Q2)} {Y qs ps:List Q2}
theorem EqB.cell (h:EqB m b L ds)(e:xN m ds N X Y):∀row∈X,(∀p∈row,Bd b p/\p.2 ∣ L/\∃a:Int,Mq.B b a/\Mq.val p=(a:Rat) / (L:Rat))/\row.length=X.length:=λrow hr=>by
 refine⟨λp hp=>?_,by rw[e.x.w row hr,e.x.h]⟩;obtain⟨i,hi⟩:=getElem?_of_mem hr;obtain⟨j,hj⟩:=getElem?_of_mem hp;have ep:p=iY X i j:=by
  unfold iY;rw[getD_eq_getElem?_getD (l:=X),hi];show p=row.getD j (0,1);rw[getD_eq_getElem?_getD,hj];rfl
 obtain⟨a,ab,ea⟩:=h.eM i j;have ev:Mq.val p=(a:Rat) / (L:Rat):=by rw[ep,e.vx,ea]
 obtain⟨x,y⟩:=yG (e.x.l row hr p hp).1 h.L1 h.LB ab ev;exists x,y,a,ab,ev
theorem EqB.pos (e:xN m ds N X Y):gU X:=λrow hr p hp=>(e.x.l row hr p hp).1.pos
theorem EqB.wgt (h:EqB m b L ds)(e:xN m ds N X Y):wgt X≠0:=by
 by_cases c:1<=X.length
 .exact h.o.wgt_ne e (EqB.pos e) (λrow hr=>(h.cell e row hr).2) c
 .have:X=[]:=eq_nil_of_length_eq_zero ();subst this;show (1:Rat)≠0;decide
theorem EqB.sol (e:xN m ds N X Y)(s:qs0 X qs ps)(vq:∀i,i < wd m ds->Mq.val (qs.getD i Mq.z0)=r (i+1)):Sv m ds r (uP ps):=by
 have lX:X.length=wd m ds:=e.x.h;exists if_pos rfl,λi hi=>?_;rw[<- vq i hi,<- s.sum i (),lX];refine aR λj _=>?_;unfold uP;rw[if_neg (),Nat.add_sub_cancel,Jy e]
end
theorem Xz (hl:m - 1<=ps.length)(hp:p < m):Mq.val ((lvS m ps).getD p (0,1))=uP ps p:=by
 unfold lvS uP
 by_cases c:p=0
 .subst c;rw[if_pos rfl];exact rM
 .rw[if_neg c];obtain⟨q,rfl⟩:∃q,p=q+1:=⟨p - 1,()⟩
  rw[Nat.add_sub_cancel,getD_eq_getElem?_getD,getElem?_cons_succ,getElem?_take_of_lt (),<- getD_eq_getElem?_getD]
theorem Lx (m1:1<=m)(hl:m - 1<=ps.length):(lvS m ps).length=m:=by
 unfold lvS;rw[length_cons,length_take];lia
theorem qZ (h:gK ps):gK (lvS m ps):=λp hp=>by
 rcases mem_cons.mp hp with z | z
 .rw[z];exists ∅,∅
 .exact h p (mem_of_mem_take z)
theorem Ua (h:Ovr n ps):Ovr n (lvS m ps):=by
 obtain⟨D,D1,bD,al⟩:=h.e;exists D,D1,bD,λp hp=>?_;rcases mem_cons.mp hp with z | z
 .exists 0,Nat.two_pow_pos _,?_;rw[z,rM,Rat.div_def];show (0:Rat)=((0:Int):Rat)*_;rw[show ((0:Int):Rat)=0 by rfl];grind
 .exact al p (mem_of_mem_take z)
theorem Ovr.minus (h:Ovr n ps)(low:gK ps)(hp:p∈ps)(hq:q∈ps):Bd (n+1) (Mq.minus p q)/\Bd n p/\Bd n q:=by
 obtain⟨D,D1,bD,al⟩:=h.e;obtain⟨t,bt,et⟩:=al p hp;obtain⟨s,bs,es⟩:=al q hq;have lp:=low p hp;have lq:=low q hq;exists ?_,(yG lp D1 bD bt et).1,(yG lq D1 bD bs es).1;refine(yG (mB lp.pos lq.pos) D1 (bD.mono ()) (bt.sub bs) ?_).1;rw[rZ lp.pos lq.pos,et,es,Rat.intCast_sub,Rat.div_def,Rat.div_def,Rat.div_def];grind
structure qm6 (CN:Addr) (K:Frag) (H:Hp) (n l:Addr) (m b:Nat) (kb:Nat->Nat) (L:Int) (ds:List RD):Prop where
 nt:fK CN K H n l (m:Int) ds
 ok:∀i d,ds[i]?=some d->qM (m:Int) d/\Bd (kb i) d.2.2.2
 m20:m<=20
 h40:ds.length<=40
 cu:mV kb ds.length+30<=8900
 eb:EqB m b L ds
abbrev Hn:=Option (Nat × Nat) × RD
abbrev Pr2:=RD × Q2
def ouR (p:Nat):List Pr2->Rat
 | []=>0
 |e :: r=>dl e.1.2.1.toNat e.1.2.2.1.toNat p*Mq.val e.2+ouR p r
theorem Mm (p:Nat):∀A B:List Pr2,ouR p (A++B)=ouR p A+ouR p B
 | [],B=>by show ouR p B=0+ouR p B;grind
 |e :: A,B=>by
  show _+ouR p (A++B)=_+ouR p A+ouR p B;rw[Mm p A B];grind
section
variable {u:Nat->Rat} {m:Nat}
def qa9 (u:Nat->Rat)(e:Pr2)(h:Nat):Prop:=match e.1.1 with
 | .pc=>Mq.val e.2=(u e.1.2.1.toNat - u e.1.2.2.1.toNat)*(1 / Mq.val e.1.2.2.2)
 | .pu=>Mq.val e.2=Mq.val e.1.2.2.2
 | .ho=>Mq.val e.2=u h/\Mq.val e.1.2.2.2=u e.1.2.1.toNat - u e.1.2.2.1.toNat
def Fws (u:Nat->Rat):Nat->List Pr2->Prop
 |_,[]=>True
 |h,e :: r=>qa9 u e h/\Fws u (h+cF e.1.1) r
theorem Yz (hx:x < m):∀(D:List Pr2) (h:Nat),Fws u h D->m<=h->nt u h (D.map (·.1)) x - eqR h (D.map (·.1)) x=ouR x D
 | [],_,_,_=>by show (0:Rat) - 0=0;grind
 |e :: D,h,F,hm=>by
  have ih:=Yz hx D (h+cF e.1.1) F.2 ();have o:=F.1;show (fw u e.1 h*dl e.1.2.1.toNat e.1.2.2.1.toNat x+nt u (h+cF e.1.1) (D.map (·.1)) x) - (cR e.1 h x+eqR (h+cF e.1.1) (D.map (·.1)) x)=dl e.1.2.1.toNat e.1.2.2.1.toNat x*Mq.val e.2+ouR x D;have t:fw u e.1 h*dl e.1.2.1.toNat e.1.2.2.1.toNat x - cR e.1 h x=dl e.1.2.1.toNat e.1.2.2.1.toNat x*Mq.val e.2:=by
   unfold fw cR;unfold qa9 at o
   cases hk:e.1.1 with
   |pc=>rw[hk] at o;dsimp only at o ⊢;rw[o];grind
   |pu=>rw[hk] at o;dsimp only at o ⊢;rw[o];grind
   |ho=>rw[hk] at o;dsimp only at o ⊢;rw[if_neg (),o.1];grind
  grind
end
def hdF:List Pr2->List Q2
 | []=>[]
 |e :: r=>if e.1.1=.ho then e.2 :: hdF r else hdF r
theorem Cw:∀A B:List Pr2,hdF (A++B)=hdF A++hdF B
 | [],_=>rfl
 |e :: A,B=>by
  show (if e.1.1=.ho then e.2 :: hdF (A++B) else hdF (A++B))=(if e.1.1=.ho then e.2 :: hdF A else hdF A)++hdF B;rw[Cw A B];split<;>rfl
section
variable {m u:Nat} {hs:List Q2} {par:Nat->Nat} {E:List Ent}
theorem Vj:∀{ds:List RD} (k:Nat),(∀d∈ds,∀k,Mq.Fr L M (cM d k x y))->Mq.Fr L (ds.length*M) (eqM k ds x y)
 | [],_,_=>Mq.Fr.zero.mono (Nat.zero_le _)
 |d :: ds,k,q=>by
  rw[length_cons,Nat.succ_mul,Nat.add_comm];exact(q d ⋯ k).add (Vj _ λx hx=>q x (mem_cons_of_mem _ hx))
theorem Uy:∀{ds:List RD} (k:Nat),(∀d∈ds,∀k,Mq.Fr L M (cR d k x))->Mq.Fr L (ds.length*M) (eqR k ds x)
 | [],_,_=>Mq.Fr.zero.mono (Nat.zero_le _)
 |d :: ds,k,q=>by
  rw[length_cons,Nat.succ_mul,Nat.add_comm];exact(q d ⋯ k).add (Uy _ λx hx=>q x (mem_cons_of_mem _ hx))
theorem Tg [Decidable c](g:Mq.Fr L M y):Mq.Fr L M (if c then y else 0):=by
 split
 .exact g
 .exact Mq.Fr.zero.mono (Nat.zero_le _)
end
theorem Yc:Frs ds↔∀(A B:List RD) (d:RD),jM .ho ds=A++d :: B->¬Cn A d.2.1.toNat d.2.2.1.toNat:=by
 constructor
 .intro f A B d e;unfold jM at e;obtain⟨l1,l2,rfl,e1,e2⟩:=filter_eq_append_iff.mp e;obtain⟨l3,l4,rfl,no,hd,e4⟩:=filter_eq_cons_iff.mp e2;have:=f (l1++l3) l4 d (by rw[List.append_assoc]) (of_decide_eq_true hd);have es:jM .ho (l1++l3)=A:=by
   unfold jM;rw[filter_append,e1,filter_eq_nil_iff.mpr (λx hx=>no x hx),append_nil]
  rwa [es] at this
 .intro f A B d e hd cn;refine f (jM .ho A) (jM .ho B) d ?_ cn;rw[e];unfold jM;rw[filter_append,filter_cons_of_pos (p:=λd:RD=>decide (d.1=.ho)) (a:=d) (decide_eq_true hd)]
structure StB (K:Frag) (H:Hp) (b:Addr) (ys:wk) (ss:List Q2) (n:Nat):Prop where
 s:SqL K H b ys
 f:Fqs K H ys ss
 l:ss.length=n
 b:∀s∈ss,Low s/\Bd 3900 s
theorem StB.same {K:Frag}{b:Addr}(e:aX H H')(h:StB K H b ys ss n):StB K H' b ys ss n:=⟨e.seq h.s,h.f.same e,h.l,h.b⟩
inductive Ds (K:Frag) (CK:Kd->Addr) (vs:wk) (H:Hp) (Q:VK) (E:XK):Prop where
 |mk (x a:Addr) (d:RD) (z:V) (xs:wk) (hp:List Q2) (n:Nat):vs=[.ref x,.ref a]->Rw CK H x d.1 (.int d.2.1) (.int d.2.2.1) z->StB K H a xs hp n->dL (n:Int) d.2.1 d.2.2.1->uU H Q (flF hp d)->Ds K CK vs H Q E
theorem Cd (h:Ovr n ps)(low:gK ps)(hn:n<=3900):∀p∈ps,Low p/\Bd 3900 p:=λp hp=>⟨low p hp,(Ovr.minus h low hp hp).2.1.mono hn⟩
theorem qs5:Bd (n+1) (0,1):=⟨Nat.two_pow_pos _,Nat.one_lt_two_pow ()⟩
abbrev En:=Nat × Q2 × List Stp
structure qs7 (CA:Addr) (K:Frag) (H0 H:Hp) (a:Addr) (lv fl:List Q2):Prop where
 e:∃(dx li le fo:Addr) (xs ys:wk),H a=some (.ins CA dx (jK li le fo))/\H le=some (.lst xs)/\Fqs K H xs lv/\H fo=some (.lst ys)/\Fqs K H ys fl/\∀l o,H0 l=some o->l≠a->le≠l/\fo≠l
theorem qd8 (a b:Nat):(if a=b then (1:Rat) else 0)=if b=a then 1 else 0:=by
 by_cases c:a=b
 .rw[if_pos c,if_pos c.symm]
 .rw[if_neg c,if_neg (Ne.symm c)]
structure Vm (m:Nat) (ds:List RD) (P:List (List Q2)):Prop where
 len:P.length=wd m ds
 row:∀r∈P,r.length=wd m ds/\gK r
 inv:∀k x,k < wd m ds->x < wd m ds->(Mq.rs (wd m ds) λj=>Mq.val ((P.getD k []).getD j Mq.z0)*eqM m ds (j+1) (x+1))=if k=x then 1 else 0
theorem Kr {α:Type}{l:List α}(h:i < l.length)(d:α):l[i]?=some (l.getD i d):=by rw[getD_eq_getElem?_getD,getElem?_eq_getElem h];rfl
structure MxL (X:List (List Q2)) (L:Int) (b:Nat):Prop where
 p:gU X
 c:∀row∈X,(∀p∈row,Bd b p/\p.2 ∣ L/\∃a:Int,Mq.B b a/\Mq.val p=(a:Rat) / (L:Rat))/\row.length=X.length
 n:X.length<=10
 L1:1<=L
 LB:Mq.B b L
 hb:10+b+b*(X.length+1)<=8000
 hw:bw b X.length<=8900
 b1:1<=b
 w:wgt X≠0
theorem Yv (h:MxL X L b)(hr:row∈X):dR row ∣ L/\1<=dR row:=by
 obtain⟨dv,l1⟩:=Mq.rV (h.p row hr) (λp hp=>((h.c row hr).1 p hp).2.1) row.length (Nat.le_refl _);rw[take_length] at dv l1;exists dv,l1
theorem Us (h:MxL X L b):BdR b (iC X):=λi x=>by
 unfold ent
 by_cases hi:i < X.length
 .have mem:=mem_of_getElem? (uS hi);have l:=(h.c _ mem).2;have pos:=h.p _ mem;have cl:=(h.c _ mem).1;obtain⟨dv,l1⟩:=Yv h mem;rw[oR hi];unfold gN;generalize X.getD i []=row at *
  by_cases hx:x < X.length
  .rw[getD_eq_getElem?_getD,getElem?_append_left (by rw[nH];lia),<- getD_eq_getElem?_getD];unfold iw;rw[getD_eq_getElem?_getD,getElem?_map]
   cases e:row[x]? with
   |none=>exact Nat.two_pow_pos _
   |some p=>
    have mem:=mem_of_getElem? e;obtain⟨_,_,a,ab,ea⟩:=cl p mem;obtain⟨k,ek⟩:=yH pos p mem;exact ab.le (Mq.Lr (pos p mem) ek l1 dv h.L1 ea)
  .rw[getD_eq_getElem?_getD,getElem?_append_right (by rw[nH];lia),nH,l,getElem?_map]
   cases e:(List.range X.length)[x - X.length]? with
   |none=>exact Nat.two_pow_pos _
   |some c=>
    show Mq.B b (if c=i then dR row else 0);split
    .have:=Int.le_of_dvd (by have:=h.L1;lia) dv;have hL:=h.L1;exact h.LB.le ()
    .exact Nat.two_pow_pos _
 .rw[getD_eq_getElem?_getD (l:=iC X),getElem?_eq_none (by rw[oK];lia)];exact Nat.two_pow_pos _
theorem Tn (h:MxL X L b):Mq.LI X.length (pJ X) (iC X):=Mn h.p λrow hr=>(h.c row hr).2
inductive Ax (K:Frag) (vs:wk) (H:Hp) (Q:VK) (E:XK):Prop where
 |mk (g D:Addr) (us:wk) (X:List (List Q2)) (L:Int) (b:Nat):vs=[.ref g]->SqL K H g us->Fmx K D H us X->MxL X L b->(∀l zs H',aX H H'->H l=none->H' l=some (.lst zs)->Imx l H' zs (iC X)->Q (.ref l) H')->Ax K vs H Q E
structure qg8 (X Y:List (List Q2)):Prop where
 len:Y.length=X.length
 rows:∀row∈Y,row.length=X.length/\gK row
 sum:∀k x,k < X.length->x < X.length->(Mq.rs X.length λj=>Mq.val ((Y.getD k []).getD j Mq.z0)*pJ X j x)=if x=k then 1 else 0
theorem EqB.mxl (h:EqB m b L ds)(e:xN m ds N X Y)(w10:wd m ds<=10):MxL X L b:=by
 have lX:X.length=wd m ds:=e.x.h;exists EqB.pos e,h.cell e,(),h.L1,h.LB,by rw[lX];exact h.hb,by rw[lX];exact Nat.le_trans h.hbw ∅,h.b1,h.wgt e
theorem qg8.pap (e:xN m ds N X Y)(h:qg8 X P):Vm m ds P:=by
 have lX:X.length=wd m ds:=e.x.h;exists by rw[h.len,lX],λr hr=>by rw[<- lX];exact h.rows r hr,λk x hk hx=>?_;have:=h.sum k x () ();rw[lX] at this;rw[show (if k=x then (1:Rat) else 0)=if x=k then 1 else 0 from qd8 k x,<- this];exact aR λj _=>by rw[<- Jy e]
structure LnX (X:List Addr) (CA:Addr) (K:Frag) (H:Hp) (a:Addr) (m:Nat) (ds:List RD):Prop where
 e:∃(dx li le fo:Addr) (us:wk) (M:List (List Q2)) (N:Nat) (Y:List Q2),H a=some (.ins CA dx (jK li le fo))/\H li=some (.lst us)/\Fmx K li H us M/\xN m ds N M Y/\∀y∈X,a≠y/\li≠y/\∀u∈us,u≠.ref y
theorem Qe {K:Frag}(hy:H y=some o)(sq:∀{a:Addr} {xs:wk},a≠y->SqL K H a xs->SqL K H' a xs)(fq:∀{xs:wk} {ps:List Q2},Fqs K H xs ps->Fqs K H' xs ps):∀{us:wk} {X:List (List Q2)},Fmx K D H us X->(∀u∈us,u≠.ref y)->Fmx K D H' us X
 |_,_,.nil,_=>.nil
 |_,_,.cons ne h f q,n=>.cons ne (sq (λz=>n _ (mem_cons_self ..) (by rw[z])) h) (fq f) (Qe hy sq fq q λu hu=>n u (mem_cons_of_mem _ hu))
theorem He {K:Frag}(hy:H y=some (.ins C dy fs))(s:cH y H H')(q:Fmx K D H us M):Fmx K D H' us M:=by
 induction q with
 |nil=>exact .nil
 |cons ne h f _ ih=>exact .cons ne (cH.seqI hy s h) (cH.fqsI hy s f) ih
theorem Lp {K:Frag}:∀{us:wk} {X:List (List Q2)},Fms K H0 H us X->(∀x∈us,x≠.ref D)->Fmx K D H us X
 | [],[],_,_=>.nil
 | [],_ :: _,h,_=>by have:=h.l;simp at this
 |_ :: _,[],h,_=>by have:=h.l;simp at this
 |u :: us,ps :: X,h,n=>by
  obtain⟨a,xs,rfl,_,ha,f⟩:=h.r 0 u ps rfl rfl;exact .cons (λz=>n (.ref a) ⋯ (by rw[z])) (SqL.of ha) f (Lp ⟨by have:=h.l;simpa using this,λi x qs e1 e2=>h.r (i+1) x qs (by simpa using e1) (by simpa using e2)⟩ λx hx=>n x (mem_cons_of_mem _ hx))
theorem Fms.new {K:Frag}(h:Fms K H0 H us X)(hu:u∈us):∃a,u=.ref a/\H0 a=none:=by
 obtain⟨i,hi⟩:=getElem?_of_mem hu;have hl:=(wq.mp hi).1;have:=h.l;obtain⟨a,xs,e,n,_⟩:=h.r i u _ hi (getElem?_eq_getElem ());exists a,e,n
section
variable {X:List Addr} {CA:Addr} {K:Frag} {H H':Hp} {a y:Addr} {m:Nat} {ds:List RD}
theorem LnX.same (s:aX H H')(h:LnX X CA K H a m ds):LnX X CA K H' a m ds:=by
 obtain⟨dx,li,le,fo,us,M,N,Y,h1,h2,h3,h4,h5⟩:=h.e;exists dx,li,le,fo,us,M,N,Y,s _ _ h1,s _ _ h2,h3.same s,h4,h5
theorem LnX.x (hy:H y=some (.lst vs))(s:cH y H H')(hX:y∈X)(h:LnX X CA K H a m ds):LnX X CA K H' a m ds:=by
 obtain⟨dx,li,le,fo,us,M,N,Y,h1,h2,h3,h4,h5⟩:=h.e;obtain⟨n1,n2,n3⟩:=h5 y hX;exists dx,li,le,fo,us,M,N,Y,s _ _ h1 n1,s _ _ h2 n2,Qe hy (λn q=>cH.seq s n q) (λf=>cH.fqsL hy s f) h3 n3,h4,h5
theorem LnX.less (hZ:∀z∈Z,z∈X)(h:LnX X CA K H a m ds):LnX Z CA K H a m ds:=by
 obtain⟨dx,li,le,fo,us,M,N,Y,h1,h2,h3,h4,h5⟩:=h.e;exists dx,li,le,fo,us,M,N,Y,h1,h2,h3,h4,λz hz=>h5 z (hZ z hz)
end
section
variable {X:Cx}
theorem zN:OpR X (compareOp .IsNot) (λx y H Q=>∃i b,x=.int i/\y=.bl b/\Q (.bl true) H):=by
 intro pins s σ H x y v u Q I rx ry h;obtain⟨i,b,rfl,rfl,q⟩:=h;obtain⟨t,rfl⟩:=rx
 cases ry
 unfold compareOp;exact wpAny_pure ⟨.bl true,H,I,rfl,q⟩
end
section
variable {K:Frag} {x qual:Str} {st:Stmt} {dV:Value} {f:Addr} {fd:FuncData}
theorem aZ.b1 (a:Str)(F:aZ K x qual st dV f fd)(h:∀(kV doc pm:Value) (an:Option Addr) (cdv ct u:Value),bindArgs (W.fnOf x qual (fI st) (eV st) (aH st) dV kV doc pm an cdv ct) ⟨[u],[]⟩=pure [(a,u)]):aP K fd [a] []:=
 F.binds λk d p n c t us hl=>match us,hl with | [_],_=>h k d p n c t _
theorem aZ.b2 (a b:Str)(F:aZ K x qual st dV f fd)(h:∀(kV doc pm:Value) (an:Option Addr) (cdv ct u v:Value),bindArgs (W.fnOf x qual (fI st) (eV st) (aH st) dV kV doc pm an cdv ct) ⟨[u,v],[]⟩=pure [(a,u),(b,v)]):aP K fd [a,b] []:=
 F.binds λk d p n c t us hl=>match us,hl with | [_,_],_=>h k d p n c t _ _
theorem aZ.b3 (a b c:Str)(F:aZ K x qual st dV f fd)(h:∀(kV doc pm:Value) (an:Option Addr) (cdv ct u v w:Value),bindArgs (W.fnOf x qual (fI st) (eV st) (aH st) dV kV doc pm an cdv ct) ⟨[u,v,w],[]⟩=pure [(a,u),(b,v),(c,w)]):aP K fd [a,b,c] []:=
 F.binds λk d p n c t us hl=>match us,hl with | [_,_,_],_=>h k d p n c t _ _ _
theorem aZ.b4 (a b c e:Str)(F:aZ K x qual st dV f fd)(h:∀(kV doc pm:Value) (an:Option Addr) (cdv ct u v w z:Value),bindArgs (W.fnOf x qual (fI st) (eV st) (aH st) dV kV doc pm an cdv ct) ⟨[u,v,w,z],[]⟩=pure [(a,u),(b,v),(c,w),(e,z)]):aP K fd [a,b,c,e] []:=
 F.binds λk d p n c t us hl=>match us,hl with | [_,_,_,_],_=>h k d p n c t _ _ _ _
theorem aZ.b5 (a b c e g:Str)(F:aZ K x qual st dV f fd)(h:∀(kV doc pm:Value) (an:Option Addr) (cdv ct u v w z y:Value),bindArgs (W.fnOf x qual (fI st) (eV st) (aH st) dV kV doc pm an cdv ct) ⟨[u,v,w,z,y],[]⟩=pure [(a,u),(b,v),(c,w),(e,z),(g,y)]):aP K fd [a,b,c,e,g] []:=
 F.binds λk d p n c t us hl=>match us,hl with | [_,_,_,_,_],_=>h k d p n c t _ _ _ _ _
end
end L2
namespace K35
open PySem L2
variable {CR:Addr}{CK fW fJ fT fS:Kd->Addr}{fdW fdJ fdT fdS:Kd->FuncData}
structure D9 (P:Program)(w:World)(K:Frag)(mg:Str->Option Value)(base:Heap)(j:Nat)(g:Addr)(gd:FuncData)(ps:List Str)(sp:Sp)(nm:Str):Prop where
 G:aL P w K mg base CX0 j g gd ps sp
 b:aP K gd ps []
 k:kI9 K g
 m:mI9 mg nm g
theorem d9 (D:D9 X.prog X.w X.K X.mg X.base k f fd ps sp x)(hr:iI k X.A)(hg:Gl X x)(ha:PA X (e :: es) t)(hdb:(x == ("__debug__":Str))=false:=by decide)(he:starEach (e :: es) X.env=(false,eval e X.env) :: starEach es X.env:=by rfl)(hpl:(backTo pos (starEach es X.env)).any (·.1)=false:=by rfl):PE X (.Call (.Name x p) (e :: es) [] pos) (qp7 sp [] E0 t):=aI D.G hr hg D.m D.k D.b .nil aQ ha hdb he hpl
def top (i:Nat):Stmt:=PySem.Challenge.pw_ohmyard_k35_whole_only_ones_or_refused.main.body.getD i (.Pass ⟨0,0,0,0⟩)
abbrev Ib:Stmt:=top 15
theorem Xq:aS ["thing"] ["thing"] (aH Ib):=sK9
abbrev sGc:Stmt:=top 17
theorem Yq:aS ["one","other","rest"] ["one","other"] (aH sGc):=sK9
abbrev Jf:Stmt:=top 23
theorem Xc:aS ["one","other"] ["one","other"] (aH Jf):=sK9
abbrev nU:Stmt:=top 18
theorem Il:aS ["top","bottom","shared"] ["top","bottom"] (aH nU):=sK9
abbrev Jm:Stmt:=top 20
theorem Yt:aS ["one","other"] ["one","other"] (aH Jm):=sK9
abbrev Rk:Stmt:=top 19
theorem qe4:aS ["one","other"] ["one","other"] (aH Rk):=sK9
abbrev Ii:Stmt:=dS (top 35) 0
theorem Xu:aS ["self","start","goal","size"] ["self","start","goal","size"] (aH Ii):=sK9
abbrev xO:Stmt:=dS (top 36) 0
theorem Ot:aS ["self"] ["self"] (aH xO):=sK9
abbrev vY:Stmt:=dS (top 37) 0
theorem Oa:aS ["self"] ["self"] (aH vY):=sK9
abbrev xV:Stmt:=dS (top 38) 0
theorem Oh:aS ["self"] ["self"] (aH xV):=sK9
abbrev Ie:Stmt:=dS (top 35) 1
theorem Xa:aS ["self"] ["self"] (aH Ie):=sK9
abbrev Ha:Stmt:=top 39
theorem Ld:aS ["told","word"] ["told"] (aH Ha):=sK9
abbrev qj7:Stmt:=top 16
theorem qp1:aS ["thing"] ["thing"] (aH qj7):=sK9
abbrev sPS:Stmt:=top 41
theorem qu8:aS ["thing"] ["thing"] (aH sPS):=sK9
abbrev sNB:Stmt:=top 46
theorem qs8:aS ["thing","bound"] ["thing","bound"] (aH sNB):=sK9
abbrev sRS:Stmt:=top 49
theorem qv0:aS ["word","size"] ["word","size"] (aH sRS):=sK9
theorem zA:(["point","many"]:List Str).Nodup:=by decide +kernel
inductive qg1 (K:Frag) (vs:wk) (H:Hp) (Q:VK) (E:XK):Prop where
 |mk (l:Addr) (i j m:Int):vs=[.ref l,.int m]->SqL K H l [.int i,.int j]->0<=i->i < m->0<=j->j < m->(∀H',aX H H'->Q .non H')->qg1 K vs H Q E
inductive qk4 (vs:wk) (H:Hp) (Q:VK) (E:XK):Prop where
 |mk (k c:Int):vs=[.int k,.int c]->0<=k->k < c->Q .non H->qk4 vs H Q E
abbrev sRP:Stmt:=top 47
theorem qs3:aS ["some","many"] ["some","many"] (aH sRP):=sK9
abbrev Hv:Stmt:=dS (top 45) 0
theorem Wy:aS ["self","many"] ["self","many"] (aH Hv):=sK9
abbrev Ux:Stmt:=dS (top 45) 1
theorem qb2:aS ["self"] ["self"] (aH Ux):=sK9
abbrev Hr:Stmt:=dS (top 45) 6
theorem Xw:aS ["self"] ["self"] (aH Hr):=sK9
abbrev qi2:Stmt:=dS (top 45) 3
theorem qa3:aS ["self","row","told"] ["self","row"] (aH qi2):=sK9
theorem Xn:(["told"]:List Str).Nodup:=by decide +kernel
abbrev Sn:Stmt:=dS (top 45) 5
theorem qj1:aS ["self"] ["self"] (aH Sn):=sK9
theorem Ee (F:aL P w K mg base CX0 2 g gd ["thing"] (Iu K)):aL P w K mg base CX0 2 g gd ["thing"] (Kz K):=
 F.weak λvs H Q E h=>by
  obtain⟨a,p,rfl,f,l,q⟩:=h;exists _,some p,rfl,.fr f l,q
theorem Yf {f:Str}(h:X.K=K)(he:PE X e ta)(hb:attributeBase e f X.env (eval e X.env)=eval e X.env):PE X (.Attribute e f pos) (qo8 K ta f):=by subst h;exact cK he hb
abbrev Hm:Stmt:=top 21
theorem Xk:aS ["one","other"] ["one","other"] (aH Hm):=sK9
abbrev Uo:Stmt:=top 22
theorem qb0:aS ["one","other"] ["one","other"] (aH Uo):=sK9
abbrev Gz:Stmt:=top 67
theorem Wi:aS ["line","column","amount"] ["line","column","amount"] (aH Gz):=sK9
abbrev Jh:Stmt:=top 66
theorem Xv:aS ["matrix","row","column","amount"] ["matrix","row","column","amount"] (aH Jh):=sK9
abbrev Bp:Stmt:=top 63
theorem Es:aS ["matrix","row","share"] ["matrix","row"] (aH Bp):=sK9
abbrev Au:Stmt:=top 64
theorem Sl:aS ["right","row"] ["right","row"] (aH Au):=sK9
abbrev Cu:Stmt:=top 65
theorem Ur:aS ["matrix","right","row","column"] ["matrix","right","row","column"] (aH Cu):=sK9
theorem mD (f:Fq K H t p):∀n,Fqs K H (replicate n (.ref t)) (replicate n p)
 |0=>.nil
 |n+1=>.cons f (mD f n)
theorem lK (x:V):∀n,(replicate n [x]).flatten=replicate n x
 |0=>rfl
 |n+1=>by rw[replicate_succ,flatten_cons,lK x n];rfl
theorem tO (xs:wk)(k:Nat):kU xs (some (k:Int)) none=xs.drop k:=by
 unfold kU;have h1:HT.sIx xs.length xs.length none=xs.length:=rfl;have h2:HT.sIx xs.length 0 (some (k:Int))=min k xs.length:=by simp[HT.sIx];lia
 rw[h1,h2]
 by_cases h:k<=xs.length
 .rw[Nat.min_eq_left h,take_of_length_le ⋯]
 .rw[Nat.min_eq_right (),drop_of_length_le (Nat.le_refl _),drop_of_length_le ()];simp
theorem Aj (xs:wk):kU xs (some 1) none=xs.drop 1:=tO xs 1
theorem No (h:X.K=K):SlR X (Qm K):=by subst h;exact iT
theorem qH (R:List Q2)(j:Nat):(R.drop 1).getD j (0,1)=R.getD (j+1) (0,1):=by
 rw[getD_eq_getElem?_getD,getElem?_drop,Nat.add_comm 1 j,getD_eq_getElem?_getD]
theorem zX (M:List (List Q2))(i j:Nat):iY ((M.drop 1).map (List.drop 1)) i j=iY M (i+1) (j+1):=by
 have e:((M.drop 1).map (List.drop 1)).getD i []=(M.getD (i+1) []).drop 1:=by
  rw[getD_eq_getElem?_getD,getElem?_map,getElem?_drop,Nat.add_comm 1 i,getD_eq_getElem?_getD]
  cases M[i+1]?<;>rfl
 unfold iY;rw[e,qH]
theorem Qz {w n:Nat}(b:MxB M w w n):MxB ((M.drop 1).map (List.drop 1)) (w - 1) (w - 1) n:=by
 exists by rw[length_map,length_drop,b.h],λps hp=>?_,λps hp p hp'=>?_
 .obtain⟨qs,hq,rfl⟩:=mem_map.mp hp;rw[length_drop,b.w _ (mem_of_mem_drop hq)]
 .obtain⟨qs,hq,rfl⟩:=mem_map.mp hp;exact b.l _ (mem_of_mem_drop hq) _ (mem_of_mem_drop hp')
theorem Qc {w n:Nat}(b:LnB R w n):LnB (R.drop 1) (w - 1) n:=⟨by rw[length_drop,b.w],λp hp=>b.l p (mem_of_mem_drop hp)⟩
theorem Vk (w:Nat):MxB (replicate w (replicate w (0,1))) w w 1:=by
 exists length_replicate,λps hp=>?_,λps hp p hp'=>?_
 .rw[eq_of_mem_replicate hp,length_replicate]
 .rw[eq_of_mem_replicate hp] at hp';rw[eq_of_mem_replicate hp'];exists ⟨∅,∅⟩,⟨show (0:Nat) < 2 ^ 1 by decide,show (1:Nat) < 2 ^ 1 by decide⟩
theorem pF (w j:Nat):(replicate w ((0,1):Q2)).getD j (0,1)=(0,1):=by
 rw[getD_eq_getElem?_getD]
 cases e:(replicate w ((0,1):Q2))[j]? with
 |none=>rfl
 |some p=>exact eq_of_mem_replicate (mem_of_getElem? e)
theorem Fw (w i j:Nat):iY (replicate w (replicate w (0,1))) i j=(0,1):=by
 have e:(replicate w (replicate w ((0,1):Q2))).getD i []=[]\/(replicate w (replicate w ((0,1):Q2))).getD i []=replicate w (0,1):=by
  rw[getD_eq_getElem?_getD]
  cases e:(replicate w (replicate w ((0,1):Q2)))[i]? with
  |none=>exact .inl rfl
  |some ps=>exact .inr (eq_of_mem_replicate (mem_of_getElem? e))
 unfold iY;rcases e with e | e
 .rw[e];rfl
 .rw[e];exact pF w j
theorem Yg (w:Nat):LnB (replicate w (0,1)) w 1:=⟨length_replicate,λp hp=>by
 rw[eq_of_mem_replicate hp];exact⟨⟨∅,∅⟩,⟨show (0:Nat) < 2 ^ 1 by decide,show (1:Nat) < 2 ^ 1 by decide⟩⟩⟩
theorem Cp (i:Nat):bZ (ds.take i)<=bZ ds:=by
 have h:bZ ds=bZ (ds.take i)+bZ (ds.drop i):=by
  unfold bZ jM;rw[<- xj,<- filter_append,take_append_drop]
 lia
theorem qf9:(["row"]:List Str).Nodup:=by decide +kernel
theorem zB:(["line","width"]:List Str).Nodup:=by decide +kernel
theorem Ww:(["line"]:List Str).Nodup:=by decide +kernel
theorem Fqs.drop1:∀{xs:wk} {ps:List Q2},Fqs K H xs ps->Fqs K H (xs.drop 1) (ps.drop 1)
 |_,_,.nil=>.nil
 |_,_,.cons _ q=>q
theorem Dz {D C P:Addr}(mx7:Mx K H7 D as M)(e7:H7 C=some (.lst ((as.map V.ref).drop 1)))(hP:H7 P=none)(hM60:M.length<=60)(q:∀us H8,aX H7 H8->H8 P=some (.lst us)->Fms K H7 H8 us ((M.drop 1).map (List.drop 1))->(∀x∈us,x≠.ref P)->Q (.ref P) H8):xL (Itl K C) 1 [] (iM 0) (λx H Q=>Q true H) (tSl (Qm K) (Nx 0) (Zh (tC (V.int 1))) Lv) σ P H7 Q:=by
 have mx:=mx7;refine clS hP (xs:=(as.map V.ref).drop 1) (λi zs H'=>Fms K H7 H' zs (((M.drop 1).map (List.drop 1)).take i)/\∀x∈zs,x≠.ref P) ⟨⟨rfl,λi x ps h=>by simp at h⟩,λx hx=>by cases hx⟩ (λ_ h=>h.seq (SqL.of e7)) ?_ ?_
 .rintro i zs x H8 hx ⟨s8,e8,fm,nP⟩ C' hC';rw[getElem?_drop,getElem?_map] at hx;obtain⟨b,hb,rfl⟩:=Option.map_eq_some_iff.mp hx;have bl':=(wq.mp hb).1;have hM1:1+i < M.length:=by rw[<- mx.la];exact bl'
  obtain⟨ws,hws,fws⟩:=(mx7.same s8).r (1+i) b M[1+i] hb (getElem?_eq_getElem hM1);have lz:=fm.l;rw[length_take,length_map,length_drop] at lz;exists cZ.1,cZ.2,eY ?_;exists _,rfl,1,rfl,b,_,rfl,SqL.of hws,λc hc=>?_;rw[Aj];obtain⟨H9,zq,s9,e9⟩:=nw hc (.lst (ws.drop 1));rw[zq];have e89:=s9 _ _ e8;have ncP:c≠P:=Ne.symm (bL e8 hc);exists e89,bH (),hC' _ _ ⟨(s8.trans s9).change hP,aB,⟨?_,λj y ps h1 h2=>?_⟩,λy hy=>?_⟩
  .rw[xj,length_take,length_map,length_drop];simp only[length_cons,length_nil];lia
  .have ee:((M.drop 1).map (List.drop 1))[i]?=some (M[1+i].drop 1):=by rw[getElem?_map,getElem?_drop,getElem?_eq_getElem hM1];rfl
   rw[take_add_one,ee] at h2
   by_cases hj:j < zs.length
   .rw[getElem?_append_left hj] at h1;rw[getElem?_append_left (by rw[<- fm.l];exact hj)] at h2;obtain⟨a',xs',q1,q2,q3,q4⟩:=fm.r j y ps h1 h2;have na:a'≠P:=λz=>nP y (mem_of_getElem? h1) (by rw[q1,z]);exists a',xs',q1,q2,by rw[aV na];exact s9 _ _ q3,(q4.same s9).upd e89
   .rw[getElem?_append_right ()] at h1;rw[getElem?_append_right (by rw[<- fm.l];lia),<- fm.l] at h2;have j0:j - zs.length=0:=by
     have:=(wq.mp h1).1;simp at this;lia
    rw[j0] at h1 h2;have h1:V.ref c=y:=by simpa using h1
    have h2:M[1+i].drop 1=ps:=by simpa using h2
    subst h1;rw[<- h2];exists c,_,rfl,s8.free hc,by rw[aV ncP];exact e9,((Fqs.drop1 (fws.same s9))).upd e89
  .rcases mem_append.mp hy with z | z
   .exact nP y z
   .have:y=.ref c:=by simpa using z
    rw[this];exact λz=>ncP (by injection z)
 rintro us H8 ⟨s8,e8,fm,nP⟩;rw[show ((as.map V.ref).drop 1).length=((M.drop 1).map (List.drop 1)).length by rw[length_drop,length_map,length_map,length_drop,mx.la],take_length] at fm;exact q us H8 s8 e8 fm nP
theorem Uz (hD:H2 D=none)(hW60:W<=60)(st:∀(i:Nat) (H3:Hp) (Z':VK),aX H2 H3->(∀b ws H5,aX H3 H5->H3 b=none->H5 b=some (.lst ws)->Fqs K H5 ws (replicate W (0,1))->Z' (.ref b) H5)->te ((σC 1 fr σ).set 0 (some (.int (0+(i:Int))))) H3 Z')(q:∀as H3,aX H2 H3->Mx K H3 D as (replicate W (replicate W (0,1)))->(∀b∈as,H2 b=none)->Q (.ref D) H3):xL (Itr 0 W) 1 fr (iM 0) (λx H Q=>Q true H) te σ D H2 Q:=by
 refine crS hD (n:=W) (λi zs H'=>∃as:List Addr,zs=as.map V.ref/\as.length=i/\as.Nodup/\D∉as/\(∀b∈as,H2 b=none)/\∀b∈as,∃ws,H' b=some (.lst ws)/\Fqs K H' ws (replicate W (0,1))) ⟨[],rfl,rfl,nodup_nil,⋯,(λb hb=>by cases hb),(λb hb=>by cases hb)⟩ ?_ ?_
 .rintro i zs H3 hi ⟨s3,e3,as,rfl,la,nd,nD,fr,al⟩ C hC;exists cZ.1,cZ.2,eY (st i H3 _ s3 λb ws H5 s35 hb e5 F5=>?_);have e35:=s35 _ _ e3;have nbD:b≠D:=Ne.symm (bL e3 hb);have nba:b∉as:=λz=>by obtain⟨ws,h,_⟩:=al b z;rw[h] at hb;cases hb
  exists e35,bH (by rw[length_map];lia),hC _ _ ⟨(s3.trans s35).change hD,aB,as++[b],by rw[map_append];rfl,by rw[xj,la];rfl,?_,?_,λc hc=>?_,λc hc=>?_⟩
  .rw[nodup_append];exists nd,⋯,λx hx y hy z=>nba (by rw[<- mem_singleton.mp hy,<- z];exact hx)
  .intro z;rcases mem_append.mp z with z | z
   .exact nD z
   .exact nbD (mem_singleton.mp z).symm
  .rcases mem_append.mp hc with z | z
   .exact fr c z
   .rw[mem_singleton.mp z];exact s3.free hb
  .rcases mem_append.mp hc with z | z
   .obtain⟨ws,h,fw⟩:=al c z;exists ws,by rw[aV (λy=>nD (by rw[<- y];exact z))];exact s35 _ _ h,(fw.same s35).upd e35
   .rw[mem_singleton.mp z,aV nbD];exists _,e5,F5.upd e35
 rintro zs3 H3 ⟨s3,e3,as,rfl,la,nd,nD,fr,al⟩;exact q as H3 s3 ⟨e3,nd,nD,by rw[la,length_replicate],λi b ps h1 h2=>by
  rw[eq_of_mem_replicate (mem_of_getElem? h2)];exact al b (mem_of_getElem? h1)⟩ fr
abbrev qd1:Stmt:=top 62
theorem rH:aS ["net","rows","many","width","matrix","right","held","row"] ["net"] (aH qd1):=sK9
theorem iP {ec:List (Str × Addr)}:∀(x:Str) (c:Addr),([]:List (Str × Addr)).lookup x=some c->ec.lookup x=some c:=λ_ _ h=>by cases h
theorem cO {ec cl:List (Str × Addr)}(h:ec.lookup a=some d)(r:∀x c,cl.lookup x=some c->ec.lookup x=some c):∀x c,((a,d) :: cl).lookup x=some c->ec.lookup x=some c:=λx c e=>by
 rw[lookup_cons] at e
 cases q:x == a with
 |true=>rw[q] at e;rw[eq_of_beq q,h];exact e
 |false=>rw[q] at e;exact r x c e
theorem kM (h:X.K=K):IxR X (Si K):=by subst h;exact aY
theorem iU (h:X.K=K):IxR X (qb6 K):=by subst h;exact bX
abbrev Gs:Stmt:=top 32
theorem vK:aS ["rows","numbers","point","steps","number","row"] ["rows","numbers","point"] (aH Gs):=sK9
theorem qj3 (hm:Ptm m es)(hb:b < m)(h20:m<=20){w:WS}(nd:(cS w).Nodup)(pt:∀x st,(x,st)∈w->∃pts,Pt es b st x pts/\∀y∈pts,y∈cS w)(p:Pt es b st x pts)(k:∀y∈pts,y∈cS w):st.length<=20:=by
 have l:pts.length=st.length+1:=by
  induction p with
  |nil=>rfl
  |snoc h g n ih=>rw[xj,xj,ih λy hy=>k y (mem_append_left _ hy)];rfl
 have nd':pts.Nodup:=by
  clear k l
  induction p with
  |nil=>simp
  |snoc h g n ih=>
   rw[nodup_append];exists ih,⋯,λx hx y hy z=>n ?_;rw[mem_singleton] at hy;rw[<- hy,<- z];exact hx
 have:=Lq nd' λy hy=>Dc hm hb pt y (k y hy);lia
theorem qb7 {T:List (Stp × Nat)}(hm:Ptm m es)(hb:b < m)(h20:m<=20)(h:WJ es b p [] s)(g:∀t∈T,rB es t.1 p t.2):((T.take j).foldl (inF p) s).2.length<=muF s:=by
 have:=By hm hb h20 (T.take j) [] h λt ht=>g t (mem_of_mem_take ht);unfold muF at this ⊢;lia
def muW (σ:St)(H:Hp):Nat:=match σ with
 | [_,_,_,_,some (.ref D),some (.ref W),_,_]=>match H D,H W with
  |some (.dK kvs),some (.lst q)=>2*(20 - kvs.length)+q.length
  |_,_=>0
 |_=>0
theorem To {a b c d e f:Option V}(h:H D=some (.dK kvs))(g:H W=some (.lst q)):muW [a,b,c,d,some (.ref D),some (.ref W),e,f] H=2*(20 - kvs.length)+q.length:=by
 show (match H D,H W with | some (.dK kvs),some (.lst q)=>2*(20 - kvs.length)+q.length | _,_=>0)=_;rw[h,g]
theorem Qh (h:q≠[]):(q.map λ(p:Nat)=>V.int (p:Int))[((q.map λ(p:Nat)=>V.int (p:Int))).length - 1]?=some (.int ((q.getLastD 0:Nat):Int))/\(q.map λ(p:Nat)=>V.int (p:Int)).dropLast=(q.dropLast.map λ(p:Nat)=>V.int (p:Int)):=by
 obtain⟨_,e⟩:=Le h;generalize q.getLastD 0=x at e;generalize q.dropLast=r at e;subst e;rw[map_append];simp
abbrev qk0:Stmt:=top 31
theorem Ep:aS ["rows","numbers","begin","end","ways","waiting","point","step"] ["rows","numbers","begin","end"] (aH qk0):=sK9
theorem Lc {i:Nat}(h:ds[i]?=some d):(skl ds)[i]?=some (d.1,d.2.1.toNat,d.2.2.1.toNat):=by unfold skl;rw[getElem?_map,h];rfl
theorem tN (ds:List RD):(skl ds).length=ds.length:=by unfold skl;rw[length_map]
theorem Lm {m:Nat}(pt:∀d∈ds,dL (m:Int) d.2.1 d.2.2.1):∀d∈skl ds,d.2.1 < m/\d.2.2 < m:=λd hd=>by
 obtain⟨e,he,rfl⟩:=mem_map.mp hd;obtain⟨i0,i1,j0,j1⟩:=pt e he;exists by show e.2.1.toNat < m;lia,by show e.2.2.1.toNat < m;lia
theorem Kj {m n:Nat}(pt:∀d∈ds,dL (m:Int) d.2.1 d.2.2.1)(h:RI W (skl ds) m n s):Yn ds s.1:=λe he=>by
 obtain⟨k,hk⟩:=h.at_ e he;have hl:e.1 < ds.length:=by have:=(wq.mp hk).1;rwa [tN] at this
 have hd:ds[e.1]?=some ds[e.1]:=getElem?_eq_getElem hl;rw[Lc hd] at hk;obtain⟨i0,i1,j0,j1⟩:=pt _ (mem_of_getElem? hd);exists _,hd,?_,?_
 .have:ds[e.1].2.1.toNat=e.2.1:=by injection hk with z;injection z with _ z;injection z
  lia
 .have:ds[e.1].2.2.1.toNat=e.2.2:=by injection hk with z;injection z with _ z;injection z
  lia
theorem Jd:∀n,(dW W sk n).1.length<=n
 |0=>Nat.le_refl _
 |n+1=>by
  have ih:=Jd (W:=W) (sk:=sk) n
  cases h:sk[n]? with
  |none=>show (match sk[n]? with | none=>dW W sk n | some d=>iF W (dW W sk n) n d).1.length<=n+1;rw[h];show (dW W sk n).1.length<=n+1;lia
  |some d=>
   rw[iH h];generalize dW W sk n=s at ih;unfold iF;split
   .split
    .show (s.1++[(n,d.2.1,d.2.2)]).length<=n+1;rw[xj];simp only[length_cons,length_nil];lia
    .show s.1.length<=n+1;lia
   .lia
def WdA (K:Frag)(H:Hp)(v:V)(W:Kd->Bool):Prop:=∃(p:Addr) (ws:wk),v=.ref p/\(SqL K H p ws\/SqT K H p ws)/\ws.all oC=true/\∀k:Kd,inV (.str k.wd) ws=W k
theorem WdA.same (e:aX H H')(h:WdA K H v W):WdA K H' v W:=by
 obtain⟨p,ws,h1,h2,h3⟩:=h;exists p,ws,h1,?_,h3;rcases h2 with z | z
 .exact .inl (e.seq z)
 .exact .inr (e.seqT z)
theorem qq4 (k:Kd):inV (.str k.wd) [.str "piece",.str "hold"]=decide (k≠.pu):=by cases k<;>decide
abbrev jQ:Stmt:=top 30
theorem kK:aS ["net","words","wanted","rows","branches","found","number","row","back"] ["net","words"] (aH jQ):=sK9
abbrev sE:Stmt:=dS (top 36) 1
theorem Hd:aS ["self"] ["self"] (aH sE):=sK9
abbrev tI:Stmt:=dS (top 37) 1
theorem Jn:aS ["self"] ["self"] (aH tI):=sK9
abbrev tX:Stmt:=dS (top 38) 1
theorem Kf:aS ["self"] ["self"] (aH tX):=sK9
inductive xX (K:Frag) (CK:Kd->Addr) (vs:wk) (H:Hp) (Q:VK) (E:XK):Prop where
 |mk (a x:Addr) (ms:List Int) (k:Kd) (s g:Nat) (z:V):vs=[.ref a,.ref x]->SqL K H a (ms.map V.int)->Rw CK H x k (.int (s:Int)) (.int (g:Int)) z->s < ms.length->g < ms.length->ms.length<=100->(∀l H',aX H H'->H l=none->H' l=some (.lst ((jn ms s g).map V.int))->Q (.ref l) H')->xX K CK vs H Q E
inductive Cf (CN:Addr) (K:Frag) (vs:wk) (H:Hp) (Q:VK) (E:XK):Prop where
 |mk (n l:Addr) (m:Nat) (ds:List RD):vs=[.ref n]->fK CN K H n l (m:Int) ds->(∀d∈ds,dL (m:Int) d.2.1 d.2.2.1)->m<=20->ds.length<=100->(∀l' H',aX H H'->H l'=none->H' l'=some (.lst ((mks m ds).map V.int))->Q (.ref l') H')->Cf CN K vs H Q E
def jJ (m:Nat)(ds:List RD):List Int:=((List.range m).filter λp=>decide (mk m ds p≠mk m ds 0)).map λ(p:Nat)=>(p:Int)
inductive Aw (CN:Addr) (K:Frag) (vs:wk) (H:Hp) (Q:VK) (E:XK):Prop where
 |mk (n l:Addr) (m:Nat) (ds:List RD):vs=[.ref n]->fK CN K H n l (m:Int) ds->(∀d∈ds,dL (m:Int) d.2.1 d.2.2.1)->1<=m->m<=20->ds.length<=100->(∀l' H',aX H H'->H l'=none->H' l'=some (.lst ((jJ m ds).map V.int))->Q (.ref l') H')->Aw CN K vs H Q E
theorem qX:(["mark","lost","kept"]:List Str).Nodup:=by decide +kernel
abbrev Bc:Stmt:=top 29
theorem wJ:aS ["marks","row","kept","lost"] ["marks","row"] (aH Bc):=sK9
abbrev Ke:Stmt:=top 28
theorem uZ:aS ["net","marks","row"] ["net"] (aH Ke):=sK9
theorem jR:(["point","mark","marks"]:List Str).Nodup:=by decide +kernel
abbrev Jr:Stmt:=top 27
theorem Mj:aS ["net","marks"] ["net"] (aH Jr):=sK9
open Shp
theorem yY:(["one","bottom"]:List Str).Nodup:=by decide +kernel
abbrev sIW:Stmt:=top 53
theorem Wl:aS ["some","bottom","one"] ["some"] (aH sIW):=sK9
abbrev qe5:Stmt:=top 57
theorem Zf:aS ["rows","rank","column","place"] ["rows","rank","column"] (aH qe5):=sK9
theorem fR:(["here","above","own","other","divisor"]:List Str).Nodup:=by decide +kernel
abbrev qc8:Stmt:=top 59
theorem Qj:aS ["row","upper","column","divisor","own","other"] ["row","upper","column","divisor"] (aH qc8):=sK9
theorem eK:(["place","row","upper","rank","divisor","column"]:List Str).Nodup:=by decide +kernel
abbrev yE:Stmt:=top 58
theorem Af:aS ["rows","rank","column","divisor","upper"] ["rows","rank","column","divisor"] (aH yE):=sK9
abbrev Uk:Stmt:=top 56
theorem jP:aS ["rows","width","rank","pivot","sign","column","place","lifted"] ["rows","width"] (aH Uk):=sK9
theorem uO:(["row","side"]:List Str).Nodup:=by decide +kernel
theorem nY:(["row","many","end"]:List Str).Nodup:=by decide +kernel
abbrev Ce:Stmt:=top 51
theorem rR:aS ["matrix","right","many","rows","end"] ["matrix","right"] (aH Ce):=sK9
abbrev Ia:Stmt:=top 24
theorem vD:aS ["some","so_far","one"] ["some"] (aH Ia):=sK9
def iR (ds:List RD)(s:Stp):Q2:=uG (red s.2 1) (ds.getD s.1 (.pc,0,0,(0,1))).2.2.2
inductive Hy (CN:Addr) (K:Frag) (vs:wk) (H:Hp) (Q:VK) (E:XK):Prop where
 |mk (n l b:Addr) (m:Int) (ds:List RD) (xs:wk) (st:List Stp):vs=[.ref n,.ref b]->fK CN K H n l m ds->ds.length<=100->(∀d∈ds,Low d.2.2.2/\Bd 30 d.2.2.2)->SqL K H b xs->Sts K H xs st->st.length<=21->(∀s∈st,s.1 < ds.length/\(s.2=1\/s.2=-1))->(∀a H',aX H H'->Fq K H' a (tot (st.map (iR ds)))->Q (.ref a) H')->Hy CN K vs H Q E
theorem Kq {w:Int}(h:w=1\/w=-1):red w 1=(w,1)/\Low (w,1)/\Bd 1 (w,1):=by
 rcases h with rfl | rfl
 .exists ∅,⟨∅,∅⟩,⟨show (1:Nat) < 2 ^ 1 by decide,show (1:Nat) < 2 ^ 1 by decide⟩
 .exists ∅,⟨∅,∅⟩,⟨show (1:Nat) < 2 ^ 1 by decide,show (1:Nat) < 2 ^ 1 by decide⟩
theorem Bk (hK:∀d∈ds,Low d.2.2.2/\Bd 30 d.2.2.2)(h:s.1 < ds.length/\(s.2=1\/s.2=-1)):Low (iR ds s)/\Bd 40 (iR ds s):=by
 obtain⟨e,l,b⟩:=Kq h.2;have hd:ds[s.1]?=some ds[s.1]:=getElem?_eq_getElem h.1;have eg:ds.getD s.1 (.pc,0,0,(0,1))=ds[s.1]:=by rw[getD_eq_getElem?_getD,hd];rfl
 obtain⟨l2,b2⟩:=hK _ (mem_of_getElem? hd);unfold iR;rw[e,eg];exists Mq.Nm l.pos l2.pos,(Mq.Qf b b2 l.pos l2.pos).mono ()
theorem Gh (hK:∀d∈ds,Low d.2.2.2/\Bd 30 d.2.2.2):∀{st:List Stp},(∀s∈st,s.1 < ds.length/\(s.2=1\/s.2=-1))->Mq.Wt (st.map (iR ds)) (41*st.length)
 | [],_=>.nil
 |s :: st,h=>by
  have ih:=Gh hK (st:=st) λx hx=>h x (mem_cons_of_mem _ hx);have:=Mq.Wt.cons (Bk hK (h s ⋯)).2 ih;rw[length_cons,show 41*(st.length+1)=40+1+41*st.length by lia];exact this
theorem tE {st:List Stp}(hK:∀d∈ds,Low d.2.2.2/\Bd 30 d.2.2.2)(h:∀s∈st,s.1 < ds.length/\(s.2=1\/s.2=-1)):Mq.Pos (st.map (iR ds)):=λp hp=>by
 obtain⟨s,hs,rfl⟩:=mem_map.mp hp;exact(Bk hK (h s hs)).1.pos
theorem kD:(["number","way","rows"]:List Str).Nodup:=by decide +kernel
abbrev Qu:Stmt:=top 33
theorem Tt:aS ["net","ring","rows"] ["net","ring"] (aH Qu):=sK9
inductive Ck (K:Frag) (C:Addr) (vs:wk) (H:Hp) (Q:VK) (E:XK):Prop where
 |mk (x l:Addr) (xs:wk):vs=[.ref x,.ref l]->H x=some (iQ x (.ref C) none)->SqL K H l xs->xs.length<=1000->(∀dx l2 H',H dx=none->H l2=none->dx≠x->l2≠x->(∀b o,H b=some o->b≠x->H' b=some o)->H' x=some (iQ x (.ref C) (some dx))->H' dx=some (.xd [("points",.ref l2)])->H' l2=some (.lst xs)->Q .non H')->Ck K C vs H Q E
abbrev Hj:Stmt:=dS (top 11) 0
theorem Xl:aS ["self","points"] ["self","points"] (aH Hj):=sK9
inductive wD (K:Frag) (C:Addr) (vs:wk) (H:Hp) (Q:VK) (E:XK):Prop where
 |mk (x l t:Addr) (xs:wk):vs=[.ref x,.ref l,.ref t]->H x=some (iQ x (.ref C) none)->SqL K H l xs->xs.length<=1000->(∀dx l2 H',H dx=none->H l2=none->dx≠x->l2≠x->(∀b o,H b=some o->b≠x->H' b=some o)->H' x=some (iQ x (.ref C) (some dx))->H' dx=some (.xd [("ring",.ref l2),("total",.ref t)])->H' l2=some (.lst xs)->Q .non H')->wD K C vs H Q E
abbrev Bg:Stmt:=dS (top 10) 0
theorem Tp:aS ["self","ring","total"] ["self","ring","total"] (aH Bg):=sK9
theorem tU (s:aX H H1)(hx:H1 x=none)(keep:∀b u,(upd H1 x o) b=some u->b≠x->H4 b=some u):aX H (pS H4 x):=λb u e=>by
 have nb:b≠x:=λz=>by rw[z,s.free hx] at e;cases e
 rw[jV nb];exact keep b u (by rw[aV nb];exact s b u e) nb
abbrev wHo:Kd->Bool:=λk=>inV (.str k.wd) [.str "hold"]
abbrev rgH (ds:List RD):List (Nat × List Stp):=(dW wHo (skl ds) ds.length).2
def ERg (CG:Addr)(K:Frag)(H:Hp)(E:XK)(ds:List RD)(st:List Stp):Prop:=∀dx l t us H',aX H H'->H' dx=some (.xd [("ring",.ref l),("total",.ref t)])->H l=none->H' l=some (.lst us)->Sts K H' us st->Fq K H' t (tot (st.map (iR ds)))->E (.ref CG) (some dx) H'
def EFl (CF:Addr)(H:Hp)(E:XK)(ps:List Int):Prop:=∀dx l H',aX H H'->H' dx=some (.xd [("points",.ref l)])->H l=none->H' l=some (.lst (ps.map V.int))->E (.ref CF) (some dx) H'
structure Rfs (CG CF:Addr) (K:Frag) (H:Hp) (E:XK) (m:Nat) (ds:List RD):Prop where
 rg:∀c r,rgH ds=c :: r->ERg CG K H E ds c.2
 fl:rgH ds=[]->jJ m ds≠[]->EFl CF H E (jJ m ds)
inductive Jp (CN CG CF:Addr) (K:Frag) (vs:wk) (H:Hp) (Q:VK) (E:XK):Prop where
 |mk (n l:Addr) (m:Nat) (ds:List RD):vs=[.ref n]->fK CN K H n l (m:Int) ds->(∀d∈ds,dL (m:Int) d.2.1 d.2.2.1)->1<=m->m<=20->ds.length<=40->(∀d∈ds,Low d.2.2.2/\Bd 30 d.2.2.2)->Rfs CG CF K H E m ds->(rgH ds=[]->jJ m ds=[]->∀H',aX H H'->Q .non H')->Jp CN CG CF K vs H Q E
abbrev qf3:Stmt:=top 68
theorem Py:aS ["net","held","points"] ["net"] (aH qf3):=sK9
inductive sG (K:Frag) (CK:Kd->Addr) (k:Kd) (vs:wk) (H:Hp) (Q:VK) (E:XK):Prop where
 |mk (x z a h:Addr) (s g:V) (p u v:Q2) (n m:Nat):vs=[.ref x,.ref a,.ref h]->Rw CK H x k s g (.ref z)->Fq K H z p->Fq K H a u->Fq K H h v->1<=p.2->1<=u.2->Bd n p->Bd m u->n+m+1<=9000->(k=.pc->0 < p.1)->(∀r H',aX H H'->Fq K H' r (pK k u v p)->Q (.ref r) H')->sG K CK k vs H Q E
abbrev qA:Stmt:=dS (top 36) 3
theorem Gb:aS ["self","fall","held"] ["self","fall","held"] (aH qA):=sK9
abbrev pY:Stmt:=dS (top 37) 3
theorem Fv:aS ["self","fall","held"] ["self","fall","held"] (aH pY):=sK9
theorem Ci (F : aZ K "stream" "Push.stream" pY dV f fd)(T : RT K mg CR CK): aL P w K mg base CX 4 f fd ["self", "fall", "held"] (sG K CK .pu) := by
  refine F.ok Fv (λvs H Q E h => ?_) (λcdv A outer s H vs Q E hr h => ?_)
  . obtain ⟨x, z, a, h, s, g, p, u, v, n, m, rfl, _⟩ := h
    rfl
  obtain ⟨x, z, a, h, s, g, p, u, v, n, m, rfl, ⟨dx, hx⟩, fz, fa, fh, hp, hu, bp, bu, hn, h0, q⟩ := h;refine ⟨_, (aF (aW (cK (pv 0) rfl))), ?_⟩;exact ⟨_, rfl, x, CK .pu, dx, _, _, rfl, hx, T.cl _, T.nZ _, hG _ _ _, q z H (aX.refl H) fz⟩
abbrev qD:Stmt:=dS (top 38) 3
theorem Gj:aS ["self","fall","held"] ["self","fall","held"] (aH qD):=sK9
theorem Ca (F : aZ K "stream" "Hold.stream" qD dV f fd)(T : RT K mg CR CK): aL P w K mg base CX 4 f fd ["self", "fall", "held"] (sG K CK .ho) := by
  refine F.ok Gj (λvs H Q E h => ?_) (λcdv A outer s H vs Q E hr h => ?_)
  . obtain ⟨x, z, a, h, s, g, p, u, v, n, m, rfl, _⟩ := h
    rfl
  obtain ⟨x, z, a, h, s, g, p, u, v, n, m, rfl, ⟨dx, hx⟩, fz, fa, fh, hp, hu, bp, bu, hn, h0, q⟩ := h;refine ⟨_, (aF (aW (pv 2))), ?_⟩;exact ⟨_, rfl, q h H (aX.refl H) fh⟩
abbrev Sw:Stmt:=top 40
theorem qe2:aS ["row","heights"] ["row","heights"] (aH Sw):=sK9
inductive Df (K:Frag) (CK:Kd->Addr) (vs:wk) (H:Hp) (Q:VK) (E:XK):Prop where
 |mk (a b h:Addr) (xs ls ys:wk) (ds:List RD) (lv hs:List Q2) (m:Nat):vs=[.ref a,.ref b,.ref h]->H a=some (.lst xs)->iW CK K H xs ds->StB K H b ls lv m->SqL K H h ys->Fqs K H ys hs->(∀p∈hs,Low p)->(∀d∈ds,qM (m:Int) d)->bZ ds<=hs.length->ds.length<=40->(∀l zs H',aX H H'->H l=none->H' l=some (.lst zs)->Fqs K H' zs (kI lv hs 0 ds)->Q (.ref l) H')->Df K CK vs H Q E
abbrev Ic:Stmt:=top 70
theorem pA:aS ["rows","levels","held","flows","taken","row","fall"] ["rows","levels","held"] (aH Ic):=sK9
theorem oB:(["column","whole","place"]:List Str).Nodup:=by decide +kernel
abbrev Tu:Stmt:=top 54
theorem yN:aS ["matrix","rows","place","row","whole"] ["matrix"] (aH Tu):=sK9
theorem Bf:(["top","pivot"]:List Str).Nodup:=by decide +kernel
abbrev Io:Stmt:=top 55
theorem Wa:aS ["tops","pivot"] ["tops","pivot"] (aH Io):=sK9
theorem Ab {l:List Int}:(l.drop m).getD k 0=l.getD (m+k) 0:=by
 rw[getD_eq_getElem?_getD,getElem?_drop,getD_eq_getElem?_getD]
theorem Be {ts:List Int}(h:k < ts.length):(ts.map λt=>red t f0).getD k Mq.z0=red (ts.getD k 0) f0:=by
 rw[getD_eq_getElem?_getD,getElem?_map,jX h];rfl
abbrev Qg:Stmt:=top 52
theorem Ka:aS ["matrix","many","end"] ["matrix"] (aH Qg):=sK9
inductive Ba (K:Frag) (vs:wk) (H:Hp) (Q:VK) (E:XK):Prop where
 |mk (g D:Addr) (us:wk) (X:List (List Q2)) (L:Int) (b:Nat):vs=[.ref g]->SqL K H g us->Fmx K D H us X->MxL X L b->(∀l zs Y H',aX H H'->H l=none->H' l=some (.lst zs)->Fmd K H l H' zs Y->qg8 X Y->(∀row∈Y,∀p∈row,Bd 9000 p)->Q (.ref l) H')->Ba K vs H Q E
inductive Dp (CA:Addr) (K:Frag) (vs:wk) (H:Hp) (Q:VK) (E:XK):Prop where
 |mk (a:Addr) (m b:Nat) (L:Int) (ds:List RD):vs=[.ref a]->LnX [] CA K H a m ds->EqB m b L ds->wd m ds<=10->(∀l zs M H',aX H H'->H l=none->H' l=some (.lst zs)->Fmd K H l H' zs M->Vm m ds M->(∀row∈M,∀p∈row,Bd 9000 p)->Q (.ref l) H')->Dp CA K vs H Q E
abbrev Ry:Stmt:=dS (top 69) 4
theorem qd0:aS ["self"] ["self"] (aH Ry):=sK9
abbrev Uu:Stmt:=dS (top 69) 1
theorem qk3:aS ["self"] ["self"] (aH Uu):=sK9
abbrev Pw:Stmt:=dS (top 69) 2
theorem qd6:aS ["self"] ["self"] (aH Pw):=sK9
theorem Ly:∀{us:wk} {X:List (List Q2)},Fms K H0 H us X->(∀x∈us,x≠.ref D)->Fmd K H0 D H us X
 | [],[],_,_=>.nil
 | [],_ :: _,h,_=>by have:=h.l;simp at this
 |_ :: _,[],h,_=>by have:=h.l;simp at this
 |x :: us,ps :: X,h,n=>by
  obtain⟨a,xs,rfl,n0,h1,h2⟩:=h.r 0 x ps rfl rfl;exact .cons n0 (λz=>n _ (mem_cons_self ..) (by rw[z])) h1 h2 (Ly ⟨by have:=h.l;simpa using this,λi y qs e1 e2=>h.r (i+1) y qs (by simpa using e1) (by simpa using e2)⟩ λy hy=>n y (mem_cons_of_mem _ hy))
theorem qh4 (xs:wk)(k:Nat):kU xs none (some (k:Int))=xs.take k:=by
 unfold kU;have h1:HT.sIx xs.length 0 none=0:=rfl;have h2:HT.sIx xs.length xs.length (some (k:Int))=min k xs.length:=by simp[HT.sIx];lia
 rw[h1,h2,drop_zero,Nat.sub_zero,take_eq_take_iff];lia
theorem cH.rtsI (ht:H t=some (.ins C dx fs))(e:cH t H H'):∀{xs:wk} {ds:List RD},Rts K H xs ds->Rts K H' xs ds
 |_,_,.nil=>.nil
 |_,_,.cons h f q=>.cons (cH.seqTI ht e h) (cH.seqTI ht e f) (cH.rtsI ht e q)
theorem fK.xI (hq:H q=some (.ins C dx fs))(e:cH q H H')(ne:n≠q)(h:fK CN K H n l m ds):fK CN K H' n l m ds:=
 let ⟨⟨dx,a⟩,ts,b,c⟩:=h;⟨⟨dx,e _ _ a ne⟩,ts,e _ _ b (gX b hq (λz=>by cases z)),cH.rtsI hq e c⟩
theorem qf1 (hq:H q=some (.ins C dx []))(h:fK CN K H n l m ds):n≠q:=λz=>by
 obtain⟨dn,a⟩:=h.ob;rw[z,hq] at a;injection a with a
 injection a with _ _ a
 unfold pL at a;have:=bY ("kept":Str) "kept" (.ref l) (gD "point_count" (.int m) []);rw[<- a,if_pos rfl] at this
 cases this
theorem Fqs.drop:∀(k:Nat) {xs:wk} {ps:List Q2},Fqs K H xs ps->Fqs K H (xs.drop k) (ps.drop k)
 |0,_,_,h=>h
 |_+1,_,_,.nil=>.nil
 |k+1,_,_,.cons _ q=>Fqs.drop k q
theorem Fqs.take:∀(k:Nat) {xs:wk} {ps:List Q2},Fqs K H xs ps->Fqs K H (xs.take k) (ps.take k)
 |0,_,_,h=>.nil
 |_+1,_,_,.nil=>.nil
 |k+1,_,_,.cons f q=>.cons f (Fqs.take k q)
inductive yX (CN CA CG CF:Addr) (K:Frag) (vs:wk) (H:Hp) (Q:VK) (E:XK):Prop where
 |mk (x dx n l:Addr) (m:Nat) (ds:List RD):vs=[.ref x,.ref n]->H x=some (.ins CA dx [])->fK CN K H n l (m:Int) ds->(∀d∈ds,dL (m:Int) d.2.1 d.2.2.1)->1<=m->m<=20->ds.length<=40->(∀d∈ds,Low d.2.2.2/\Bd 30 d.2.2.2)->Rfs CG CF K H E m ds->(rgH ds=[]->jJ m ds=[]->∃(b:Nat) (kb:Nat->Nat) (L:Int),qm6 CN K H n l m b kb L ds/\bw b (wd m ds)<=3900/\(∀i,∃a:Int,Mq.B b a/\eqR m ds (i+1)=(a:Rat) / (L:Rat))/\
 ∀ps H',cH x H H'->qs7 CA K H H' x (lvS m ps) (kI (lvS m ps) (ps.drop (m - 1)) 0 ds)->ps.length=wd m ds->gK ps->Ovr (bw b (wd m ds)) ps->Sv m ds (eqR m ds) (uP ps)->(∀Z:List Addr,(∀y∈Z,y≠x/\∃o,H y=some o)->LnX Z CA K H' x m ds)->Q .non H')->yX CN CA CG CF K vs H Q E
abbrev Ip:Stmt:=dS (top 69) 0
theorem vC:aS ["self","net","both","known","inner"] ["self","net"] (aH Ip):=sK9
abbrev sRN:Stmt:=top 48
theorem qt8:aS ["k","count"] ["k","count"] (aH sRN):=sK9
abbrev Dt:Stmt:=dS (top 45) 4
theorem El:aS ["self","k","size","old"] ["self","k","size"] (aH Dt):=sK9
inductive rX (vs:wk) (H:Hp) (Q:VK) (E:XK):Prop where
 |mk (t b:Int) (n:Nat):vs=[.int t,.int b]->0 < b->Mq.B n b->n<=9000->uU H Q (red t b)->rX vs H Q E
theorem Cc {t b:Int}(h:0 < b):dvr t b=gc t b:=by unfold dvr;rw[if_neg ()]
inductive Mc (K:Frag) (vs:wk) (H:Hp) (Q:VK) (E:XK):Prop where
 |mk (a:Addr) (ns:List Int) (j:Int) (k:Nat):vs=[.ref a,.int j]->j=(k:Int)->SqL K H a (ns.map V.int)->ns.length<=63->k<=63->(∀i H',aX H H'->Q (.int i) H')->Mc K vs H Q E
abbrev qf4:Stmt:=top 72
theorem Zr:aS ["_law_script","_law_k","_law_cell"] ["_law_script","_law_k"] (aH qf4):=sK9
abbrev qa6:Stmt:=top 73
theorem Zc:aS ["_law_one","_law_other"] ["_law_one","_law_other"] (aH qa6):=sK9
abbrev Ay:Stmt:=top 74
theorem Gf:aS ["_law_top","_law_bottom","_law_part"] ["_law_top","_law_bottom"] (aH Ay):=sK9
inductive Wc (K:Frag) (vs:wk) (H:Hp) (Q:VK) (E:XK):Prop where
 |mk (a:Addr) (p:Q2):vs=[.ref a]->Fq K H a p->Low p->Q (.bl true) H->Wc K vs H Q E
abbrev sIs:Stmt:=top 75
theorem qr0:aS ["_law_found","_law_number"] ["_law_found"] (aH sIs):=sK9
inductive vP (K:Frag) (vs:wk) (H:Hp) (Q:VK) (E:XK):Prop where
 |mk (a:Addr) (xs:wk) (ps:List Q2):vs=[.ref a,.int (ps.length:Int)]->SqL K H a xs->Fqs K H xs ps->gK ps->ps.length<=100->(∀H',aX H H'->Q (.bl true) H')->vP K vs H Q E
theorem Ht:(["_law_one"]:List Str).Nodup:=by decide +kernel
abbrev Hu:Stmt:=top 76
theorem Vy:aS ["_law_found","_law_many"] ["_law_found","_law_many"] (aH Hu):=sK9
theorem uH (x:Int)(h:0 < m):0<=x % m:=Int.emod_nonneg x ()
theorem uJ (x:Int)(h:0 < m):x % m < m:=Int.emod_lt_of_pos x h
def eP (fr:Bool):Nat:=if fr then 30 else 4
inductive Ji (vs:wk) (H:Hp) (Q:VK) (E:XK):Prop where
 |mk (c:Int) (fr:Bool):vs=[.int c,.bl fr]->(∀p,Ps p->Bd (eP fr) p->uU H Q p)->Ji vs H Q E
inductive yL (vs:wk) (H:Hp) (Q:VK) (E:XK):Prop where
 |mk (c:Int) (fr:Bool):vs=[.int c,.bl fr]->(∀p,Low p->Bd (eP fr) p->uU H Q p)->yL vs H Q E
theorem Ga (q:∀p,Ps p->Bd (eP fr) p->uU H Q p)(h1:0 < t)(h2:t < 2 ^ eP fr)(h3:0 < b)(h4:b < 2 ^ eP fr):rX [.int t,.int b] H Q E0:=by
 have bT:Mq.B (eP fr) t:=Ow (by have:(0:Int) < 2 ^ eP fr:=Int.pow_pos ∅;lia) h2;have bB:Mq.B (eP fr) b:=Ow (by have:(0:Int) < 2 ^ eP fr:=Int.pow_pos ∅;lia) h4;have le:=oF (t:=t) (show b≠0 by lia);exists t,b,eP fr,rfl,h3,bB,by unfold eP;split<;>lia,q _ (Mq.qc1 h1 h3) ⟨bT.le le.1,bB.le le.2⟩
theorem wC (q:∀p,Low p->Bd (eP fr) p->uU H Q p)(h1:-(2 ^ eP fr) < t)(h2:t < 2 ^ eP fr)(h3:0 < b)(h4:b < 2 ^ eP fr):rX [.int t,.int b] H Q E0:=by
 have bT:Mq.B (eP fr) t:=Ow h1 h2;have bB:Mq.B (eP fr) b:=Ow (by have:(0:Int) < 2 ^ eP fr:=Int.pow_pos ∅;lia) h4;have le:=oF (t:=t) (show b≠0 by lia);exists t,b,eP fr,rfl,h3,bB,by unfold eP;split<;>lia,q _ (jH ()) ⟨bT.le le.1,bB.le le.2⟩
abbrev Tv:Stmt:=top 80
theorem qc0:aS ["_law_cell","_law_far"] ["_law_cell","_law_far"] (aH Tv):=sK9
abbrev Bi:Stmt:=top 81
theorem Sc:aS ["_law_cell","_law_far"] ["_law_cell","_law_far"] (aH Bi):=sK9
inductive Bj (CN:Addr) (K:Frag) (vs:wk) (H:Hp) (Q:VK) (E:XK):Prop where
 |mk (m:Int) (r:Addr) (us:wk) (ds:List RD):vs=[.int m,.ref r]->1<=m->m<=20->SqL K H r us->Rts K H us ds->(∀d∈ds,qM m d)->ds.length<=40->(∀n l H',aX H H'->H l=none->fK CN K H' n l m ds->Q (.ref n) H')->Bj CN K vs H Q E
abbrev Jl:Stmt:=top 79
theorem Dw:aS ["_law_many","_law_rows_here","_law_net_here","_law_row"] ["_law_many","_law_rows_here"] (aH Jl):=sK9
theorem Zy (k:Kd):decide (V.str k.wd=V.str "piece")=decide (k=.pc):=dM k .pc
def mrl (ps:List Q2)(j:Nat)(t b:Int):List Q2:=ps.set j ((ps.getD j (0,1)).1*b+t*(ps.getD j (0,1)).2,(ps.getD j (0,1)).2*b)
structure LnR (ps:List Q2) (w n:Nat):Prop where
 w:ps.length=w
 l:∀p∈ps,1<=p.2/\Bd n p
theorem LnR.mono {w n n':Nat}(b:LnR R w n)(le:n<=n'):LnR R w n':=⟨b.w,λp hp=>⟨(b.l p hp).1,(b.l p hp).2.mono le⟩⟩
theorem LnR.at {w n j:Nat}(b:LnR R w n)(hj:j < w):R[j]?=some (R.getD j (0,1))/\1<=(R.getD j (0,1)).2/\Bd n (R.getD j (0,1)):=by
 have hj':j < R.length:=by rw[b.w];exact hj
 have:=jS hj';exists this,b.l _ (mem_of_getElem? this)
theorem Dm {w n k j:Nat}(l:LnR R w n)(hj:j < w)(hb:1<=b)(bt:Mq.B k t)(bb:Mq.B k b):LnR (mrl R j t b) w (n+k+1)/\∀x,Mq.val ((mrl R j t b).getD x (0,1))=Mq.val (R.getD x (0,1))+if j=x then (t:Rat) / (b:Rat) else 0:=by
 obtain⟨_,p1,bp⟩:=l.at hj;exists ⟨by unfold mrl;rw[length_set];exact l.w,λp hp=>?_⟩,λx=>?_
 .rcases mem_or_eq_of_mem_set hp with z | z
  .exists (l.l p z).1,(l.l p z).2.mono ()
  .rw[z];have h1:Mq.B (n+k) ((R.getD j (0,1)).1*b):=bp.a.mul bb;have h2:Mq.B (n+k) (t*(R.getD j (0,1)).2):=by rw[Nat.add_comm];exact bt.mul bp.b
   have h3:Mq.B (n+k) ((R.getD j (0,1)).2*b):=bp.b.mul bb;exists ?_,?_,h3.mono ()
   .show 1<=(R.getD j (0,1)).2*b;have:=Int.mul_pos (show 0 < (R.getD j (0,1)).2 by lia) (show 0 < b by lia);lia
   .show Mq.B (n+k+1) ((R.getD j (0,1)).1*b+t*(R.getD j (0,1)).2);unfold Mq.B at h1 h2 ⊢;have:(2:Nat) ^ (n+k+1)=2*2 ^ (n+k):=by rw[Nat.pow_succ];lia
    lia
 .unfold mrl;rw[oZ (by rw[l.w];exact hj)]
  by_cases e:j=x
  .subst e;rw[if_pos rfl,if_pos rfl];have n1:=eE (show (R.getD j (0,1)).2≠0 by lia);have n2:=eE (show b≠0 by lia);generalize R.getD j (0,1)=p at n1;unfold Mq.val;show (((p.1*b+t*p.2:Int)):Rat) / ((p.2*b:Int):Rat)=_;rw[Rat.intCast_add,Rat.intCast_mul,Rat.intCast_mul,Rat.intCast_mul];grind
  .rw[if_neg e,if_neg e,Rat.add_zero]
inductive Bq (K:Frag) (vs:wk) (H:Hp) (Q:VK) (E:XK):Prop where
 |mk (l:Addr) (j:Nat) (t b:Int) (xs:wk) (ps:List Q2) (n k:Nat):vs=[.ref l,.int (j:Int),.int t,.int b]->H l=some (.lst xs)->Fqs K H xs ps->j < ps.length->Bd n (ps.getD j (0,1))->Mq.B k t->Mq.B k b->n+k<=1000000->(∀xs' H',SX [l] H H'->H' l=some (.lst xs')->Fqs K H' xs' (mrl ps j t b)->Q .non H')->Bq K vs H Q E
abbrev Sg:Stmt:=top 85
theorem qi8:aS ["_law_sums","_law_at","_law_top","_law_bottom"] ["_law_sums","_law_at","_law_top","_law_bottom"] (aH Sg):=sK9
abbrev Gw:Stmt:=top 77
theorem mM:aS ["_law_some","_law_others","_law_due","_law_top","_law_bottom","_law_one","_law_other"] ["_law_some","_law_others","_law_due"] (aH Gw):=sK9
inductive vS (vs:wk) (H:Hp) (Q:VK) (E:XK):Prop where
 |mk (i:Int):vs=[.int i]->Q (.bl true) H->vS vs H Q E
abbrev Ig:Stmt:=top 78
theorem Vo:aS ["_law_found"] ["_law_found"] (aH Ig):=sK9
inductive sU (K:Frag) (vs:wk) (H:Hp) (Q:VK) (E:XK):Prop where
 |mk (r wa:Addr) (us ws:wk) (ds:List RD) (m:Nat) (W:Kd->Bool):vs=[.ref r,.ref wa]->SqL K H r us->Rts K H us ds->(∀d∈ds,dL (m:Int) d.2.1 d.2.2.1)->m<=20->ds.length<=40->SqL K H wa ws->ws.all oC=true->(∀k:Kd,inV (.str k.wd) ws=W k)->(∀t F C H',aX H H'->SqT K H' t [.ref F,.ref C]->H' F=some (.dK (rch ((dW W (skl ds) ds.length).1.map (·.1))))->H' C=some (.lst ((dW W (skl ds) ds.length).2.map λc=>V.int (c.1:Int)))->Q (.ref t) H')->sU K vs H Q E
theorem Hi (es:List Br)(e:Br):dX (es++[e])=dX es++[(.pc,(e.2.1:Int),(e.2.2:Int),(0,1))]:=by unfold dX;rw[map_append];rfl
theorem qi5 (es:List Br)(i u v:Nat):mks 20 (dX (es++[(i,u,v)]))=jn (mks 20 (dX es)) u v:=by
 rw[Hi,mE];unfold jA;rw[if_neg (by intro z;cases z)];show jn _ (u:Int).toNat (v:Int).toNat=_;rw[Int.toNat_natCast,Int.toNat_natCast]
theorem qn9:(["_law_k"]:List Str).Nodup:=by decide +kernel
theorem lZ:(["_law_mark","_law_start","_law_old","_law_marks"]:List Str).Nodup:=by decide +kernel
abbrev xK:Stmt:=top 82
theorem fZ:aS ["_law_rows_here","_law_words","_law_marks","_law_forest","_law_closers_here","_law_k","_law_word","_law_start","_law_goal","_law_size_here","_law_old"] ["_law_rows_here","_law_words"] (aH xK):=sK9
structure qe3 (ds:List RD) (ks:List Nat) (k:Nat) (ring:List Stp):Prop where
 e:∃(kd:Kd) (u v:Nat) (p:Q2) (st:List Stp) (es:List Br) (pts:List Nat),ds[k]?=some (kd,(u:Int),(v:Int),p)/\ring=(k,1) :: st/\(∀t∈st,t.1 < k/\t.1∈ks)/\Yn ds es/\uQ es v u st pts/\st.length<=20
inductive Iy (K:Frag) (vs:wk) (H:Hp) (Q:VK) (E:XK):Prop where
 |mk (x r F:Addr) (k:Nat) (xs us:wk) (ds:List RD) (ks:List Nat) (ring:List Stp):vs=[.ref x,.int (k:Int),.ref r,.ref F]->SqL K H x xs->Sts K H xs ring->SqL K H r us->Rts K H us ds->H F=some (.dK (rch ks))->qe3 ds ks k ring->(∀H',aX H H'->Q (.bl true) H')->Iy K vs H Q E
theorem Bh (S:List Nat):(rch S).length=S.length:=by unfold rch;rw[length_map]
theorem bx (w:Nat)(S:List Nat):(if w∈S then some (V.bl true) else none:Option V).isSome=decide (w∈S):=by by_cases c:w∈S<;>simp[c]
theorem Pb {ring:List Stp}(nd:(ring.map (·.1)).Nodup)(h:ring[j]?=some s):s.1∉(ring.take j).map (·.1)/\(ring.take (j+1)).map (·.1)=Qb ((ring.take j).map (·.1)) s.1:=by
 have n:s.1∉(ring.take j).map (·.1):=λz=>by
  have e:ring=ring.take j++s :: ring.drop (j+1):=by
   obtain⟨hl,he⟩:=wq.mp h;rw[<- he,<- drop_eq_getElem_cons hl,take_append_drop]
  rw[e,map_append,nodup_append] at nd;exact nd.2.2 _ z _ ⋯ rfl
 exists n,?_;unfold Qb;rw[if_neg n,take_add_one,h,map_append];rfl
abbrev So:Stmt:=top 83
theorem kW:aS ["_law_found","_law_closer","_law_rows_here","_law_forest","_law_at","_law_seen","_law_step","_law_number","_law_way","_law_here","_law_there"] ["_law_found","_law_closer","_law_rows_here","_law_forest"] (aH So):=sK9
theorem qo7 {m n:Nat}(h20:m<=20)(pt:∀d∈ds,dL (m:Int) d.2.1 d.2.2.1)(h:RI W (skl ds) m n s):∀c∈s.2,qe3 ds (s.1.map (·.1)) c.1 c.2/\c.2.length<=21:=λc hc=>by
 obtain⟨hn,k,u,v,st,pts,h1,h2,h3,h4,h5⟩:=h.r c hc;have hl:c.1 < ds.length:=by have:=(wq.mp h1).1;rwa [tN] at this
 have hd:ds[c.1]?=some ds[c.1]:=getElem?_eq_getElem hl;have bo:=Kj pt h;rw[Lc hd] at h1;obtain⟨i0,i1,j0,j1⟩:=pt _ (mem_of_getElem? hd);have e1:ds[c.1].2.1.toNat=u:=by injection h1 with z;injection z with _ z;injection z
 have e2:ds[c.1].2.2.1.toNat=v:=by injection h1 with z;injection z with _ z;injection z
 have hd':ds[c.1]?=some (ds[c.1].1,(u:Int),(v:Int),ds[c.1].2.2.2):=by
  rw[hd,<- e1,<- e2,Int.toNat_of_nonneg i0,Int.toNat_of_nonneg j0]
 exists ⟨ds[c.1].1,u,v,_,st,s.1,pts,hd',h2,h3,bo,h4,()⟩,by rw[h2,length_cons];lia
theorem uR:(["_law_k","_law_script","_law_far"]:List Str).Nodup:=by decide +kernel
theorem qv3 (h0:0<=r)(h5:r < 6):∃k:Kd,atI [V.str "piece",.str "push",.str "piece",.str "hold",.str "piece",.str "push"] r=some (.str k.wd):=by
 obtain⟨j,rfl⟩:∃j:Nat,r=(j:Int):=⟨r.toNat,()⟩
 match j,h5 with
 |0,_=>exact⟨.pc,rfl⟩
 |1,_=>exact⟨.pu,rfl⟩
 |2,_=>exact⟨.pc,rfl⟩
 |3,_=>exact⟨.ho,rfl⟩
 |4,_=>exact⟨.pc,rfl⟩
 |5,_=>exact⟨.pu,rfl⟩
 |k+6,h=>lia
theorem Wp (xs:wk)(j:Int){n:Nat}(h0:0<=j)(h:j<=n):(kU xs (some 3) (some (3+j))).length<=n:=by
 obtain⟨k,rfl⟩:∃k:Nat,j=(k:Int):=⟨j.toNat,()⟩
 unfold kU;have h1:HT.sIx xs.length xs.length (some (3+(k:Int)))=min (3+k) xs.length:=by
  have e:(3+(k:Int))=((3+k:Nat):Int):=by lia
  simp only[HT.sIx];split<;>lia
 have h2:HT.sIx xs.length 0 (some 3)=min 3 xs.length:=by simp[HT.sIx]
 rw[h1,h2,length_take,length_drop];lia
structure DrB (fr:Bool) (m:Nat) (d:RD):Prop where
 ok:qM (m:Int) d
 bd:Bd (eP fr) d.2.2.2
inductive qb5 (K:Frag) (vs:wk) (H:Hp) (Q:VK) (E:XK):Prop where
 |mk (a:Addr) (ns:List Int) (m:Nat) (fr:Bool):vs=[.ref a,.int (m:Int),.bl fr]->SqL K H a (ns.map V.int)->ns.length<=63->1<=m->m<=4->(∀r us ds H',aX H H'->H r=none->H' r=some (.lst us)->Rts K H' us ds->(∀d∈ds,DrB fr m d)->ds.length<=m - 1+10->Q (.ref r) H')->qb5 K vs H Q E
abbrev sRw:Stmt:=top 84
theorem Hf:aS ["_law_script","_law_many","_law_far","_law_rows_here","_law_cell","_law_word","_law_size_here"] ["_law_script","_law_many","_law_far"] (aH sRw):=sK9
theorem qR:(["_law_mark","_law_other","_law_one"]:List Str).Nodup:=by decide +kernel
theorem wZ:(["_law_point","_law_marks"]:List Str).Nodup:=by decide +kernel
def mnA (a b:Int):Int:=if b < a then b else a
def mnJ (ms:List Int)(a b:Int):List Int:=ms.map λx=>if x=a\/x=b then mnA a b else x
def wK (ms:List Int)(d:RD):List Int:=if d.1=.pu then ms else mnJ ms (ms.getD d.2.1.toNat 0) (ms.getD d.2.2.1.toNat 0)
def nks (m:Nat)(ds:List RD):List Int:=ds.foldl wK (oO m)
theorem Go (m:Nat)(ds:List RD)(d:RD):nks m (ds++[d])=wK (nks m ds) d:=by unfold nks;rw[foldl_append];rfl
structure NK (m:Nat) (ns ms:List Int):Prop where
 l:ns.length=m
 l2:ms.length=m
 e:∀p q,p < m->q < m->(ns.getD p 0=ns.getD q 0↔ms.getD p 0=ms.getD q 0)
 nn:∀p,p < m->0<=ns.getD p 0
 z:ns.getD 0 0=0
theorem kL {ms:List Int}{f:Int->Int}{p:Nat}(h:p < ms.length):(ms.map f).getD p 0=f (ms.getD p 0):=by
 rw[getD_eq_getElem?_getD,getD_eq_getElem?_getD,getElem?_map,getElem?_eq_getElem h];rfl
theorem NK.step (h:NK m ns ms)(m1:1<=m)(pt:dL (m:Int) d.2.1 d.2.2.1):NK m (wK ns d) (jA ms d):=by
 obtain⟨i0,i1,j0,j1⟩:=pt;unfold wK jA;split
 .exact h
 .generalize hs:d.2.1.toNat=s;generalize hg:d.2.2.1.toNat=g;have sm:s < m:=by lia
  have gm:g < m:=by lia
  obtain⟨l,l2,e,nn,z⟩:=h;have a1:=nn s sm;have a2:=nn g gm;exists by unfold mnJ;rw[length_map];exact l,by unfold jn;rw[length_map];exact l2,λp q hp hq=>?_,λp hp=>?_,?_
  .unfold mnJ jn;rw[kL (),kL (),kL (),kL ()];have e1:=e p q hp hq;have e2:=e p s hp sm;have e3:=e p g hp gm;have e4:=e q s hq sm;have e5:=e q g hq gm;have e6:=e s g sm gm;generalize ns.getD p 0=np at *
   generalize ns.getD q 0=nq at *
   generalize ns.getD s 0=n1 at *
   generalize ns.getD g 0=n2 at *
   generalize ms.getD p 0=mp at *
   generalize ms.getD q 0=mq at *
   generalize ms.getD s 0=m1 at *
   generalize ms.getD g 0=m2 at *
   unfold mnA;grind
  .unfold mnJ mnA;rw[kL ()];have:=nn p hp;split<;>try split
   all_goals assumption
  .unfold mnJ mnA;rw[kL (),z];split
   .split<;>lia
   .rfl
theorem Cy {m:Nat}(m1:1<=m):∀(n:Nat) (ds:List RD),ds.length=n->(∀d∈ds,dL (m:Int) d.2.1 d.2.2.1)->NK m (nks m ds) (mks m ds)
 |0,ds,hl,_=>by
  have:ds=[]:=length_eq_zero_iff.mp hl;subst this;have g0:∀p,p < m->(oO m).getD p 0=(p:Int):=λp hp=>by
   unfold oO;rw[getD_eq_getElem?_getD,getElem?_map,getElem?_range hp];rfl
  have l:(oO m).length=m:=by unfold oO;rw[length_map,length_range]
  exists l,l,λ_ _ _ _=>Iff.rfl,λp hp=>by show 0<=(oO m).getD p 0;rw[g0 p hp];lia,g0 0 ()
 |n+1,ds,hl,pt=>by
  obtain⟨es,d,rfl⟩:∃es d,ds=es++[d]:=⟨ds.dropLast,ds.getLast (by intro z;rw[z] at hl;cases hl),(dropLast_concat_getLast _).symm⟩
  have le:es.length=n:=by rw[xj] at hl;simpa using hl
  have ih:=Cy m1 n es le λx hx=>pt x (mem_append_left _ hx);rw[Go,mE];exact ih.step m1 (pt d ⋯)
theorem Vl {m:Nat}(m1:1<=m)(pt:∀d∈ds,dL (m:Int) d.2.1 d.2.2.1):((List.range m).filter λp=>decide ((nks m ds).getD p 0≠0)).map (λ(p:Nat)=>(p:Int))=jJ m ds:=by
 have h:=Cy m1 _ ds rfl pt;unfold jJ;congr 1;refine filter_congr λp hp=>?_;have pm:=mem_range.mp hp;have:=h.e p 0 pm ();rw[h.z] at this;exact decide_eq_decide.mpr (not_congr this)
inductive Cz (K:Frag) (vs:wk) (H:Hp) (Q:VK) (E:XK):Prop where
 |mk (r:Addr) (us:wk) (m:Nat) (ds:List RD):vs=[.int (m:Int),.ref r]->SqL K H r us->Rts K H us ds->(∀d∈ds,dL (m:Int) d.2.1 d.2.2.1)->1<=m->m<=20->(∀l H',aX H H'->H l=none->H' l=some (.lst ((jJ m ds).map V.int))->Q (.ref l) H')->Cz K vs H Q E
abbrev Hs:Stmt:=top 86
theorem jU:aS ["_law_many","_law_rows_here","_law_marks","_law_word","_law_start","_law_goal","_law_size_here","_law_one","_law_other"] ["_law_many","_law_rows_here"] (aH Hs):=sK9
structure EqX (W n:Nat) (M:List (List Q2)) (v:Nat->Nat->Rat):Prop where
 l:M.length=W
 r:∀row∈M,LnR row W n
 v:∀x y,x < W->y < W->Mq.val (iY M x y)=v x y
theorem EqX.mono {v:Nat->Nat->Rat}(h:EqX W n M v)(le:n<=n'):EqX W n' M v:=⟨h.l,λr hr=>(h.r r hr).mono le,h.v⟩
theorem qr8 {M:List (List Q2)}(h:i < M.length):M[i]?=some (M.getD i []):=by rw[getD_eq_getElem?_getD,getElem?_eq_getElem h];rfl
theorem Rx (hi:i < M.length):iY (M.set i q) x y=if i=x then q.getD y (0,1) else iY M x y:=by
 unfold iY;rw[getD_eq_getElem?_getD (l:=M.set i q),getElem?_set];split
 .first
  |rfl
  | (rw[if_pos hi];rfl)
 .rw[<- getD_eq_getElem?_getD]
theorem EqX.more {v:Nat->Nat->Rat}(h:EqX W n M v)(hi:i < W)(hj:j < W)(hb:1<=b)(bt:Mq.B k t)(bb:Mq.B k b):EqX W (n+k+1) (M.set i (mrl (M.getD i []) j t b)) (λx y=>v x y+if i=x/\j=y then (t:Rat) / (b:Rat) else 0):=by
 have hl:=h.l;have hr:=h.r _ (mem_of_getElem? (qr8 (M:=M) (i:=i) ()));obtain⟨a,c⟩:=Dm hr hj hb bt bb;exists by rw[length_set];exact hl,λrow hrow=>?_,λx y hx hy=>?_
 .rcases mem_or_eq_of_mem_set hrow with z | z
  .exact(h.r row z).mono ()
  .rw[z];exact a
 .rw[Rx ()]
  by_cases e:i=x
  .subst e;rw[if_pos rfl,c y,<- h.v i y hi hy]
   by_cases e2:j=y
   .rw[if_pos e2,if_pos ⟨rfl,e2⟩];rfl
   .rw[if_neg e2,if_neg (λz=>e2 z.2)];rfl
  .rw[if_neg e,if_neg (λz=>e z.1),h.v x y hx hy,Rat.add_zero]
theorem Mx.put (m:Mx K H D as M)(ha:as[i]?=some a)(hi:i < M.length)(s:SX [a] H H')(e:H' a=some (.lst xs'))(f:Fqs K H' xs' qs):Mx K H' D as (M.set i qs):=by
 have ma:=mem_of_getElem? ha;have ls:Di [a] H:=λb hb=>by
  rw[mem_singleton.mp hb];exact m.lsts a ma
 exists s _ _ m.d (λz=>m.nd (by rw[mem_singleton.mp z];exact ma)),m.n,m.nd,by rw[length_set];exact m.la,λk b ps h1 h2=>?_;rw[getElem?_set] at h2
 by_cases c:i=k
 .subst c;rw[if_pos rfl,if_pos hi] at h2;rw[ha] at h1
  cases h1;cases h2
  exists xs',e,f
 .rw[if_neg c] at h2;obtain⟨xs,h,g⟩:=m.r k b ps h1 h2;exists xs,s _ _ h (λz=>?_),SX.fqs ls s g;have hb:=mem_singleton.mp z;subst hb;obtain⟨k1,e1⟩:=wq.mp h1;obtain⟨k2,e2⟩:=wq.mp ha;exact c ((getElem_inj (h₀:=k2) (h₁:=k1) m.n).mp (e2.trans e1.symm))
structure SEq (K:Frag) (H0 H:Hp) (D R:Addr) (as:List Addr) (M:List (List Q2)) (rs:List Q2) (W n:Nat) (v:Nat->Nat->Rat) (u:Nat->Rat):Prop where
 s:aX H0 H
 m:Mx K H D as M
 e:EqX W n M v
 na:∀a∈as,H0 a=none
 nD:H0 D=none
 nR:H0 R=none
 ra:R∉as
 rD:R≠D
 r:∃zr,H R=some (.lst zr)/\Fqs K H zr rs
 l:LnR rs W n
 u:∀x,x < W->Mq.val (rs.getD x (0,1))=u x
theorem SEq.lsts {u:Nat->Rat}(h:SEq K H0 H D R as M rs W n v u):Di (R :: as) H:=λa ha=>by
 rcases mem_cons.mp ha with z | z
 .obtain⟨zr,e,_⟩:=h.r;rw[z];exists zr,e
 .exact h.m.lsts a z
theorem SEq.same {u:Nat->Rat}(h:SEq K H0 H D R as M rs W n v u)(s:aX H H'):SEq K H0 H' D R as M rs W n v u:=by
 obtain⟨zr,e,f⟩:=h.r;exists h.s.trans s,h.m.same s,h.e,h.na,h.nD,h.nR,h.ra,h.rD,⟨zr,s _ _ e,f.same s⟩,h.l,h.u
theorem SEq.mono {u u':Nat->Rat}(h:SEq K H0 H D R as M rs W n v u)(le:n<=n')(hv:∀x y,x < W->y < W->v x y=v' x y)(hu:∀x,x < W->u x=u' x):SEq K H0 H D R as M rs W n' v' u':=
 ⟨h.s,h.m,⟨h.e.l,λr hr=>(h.e.r r hr).mono le,λx y hx hy=>(h.e.v x y hx hy).trans (hv x y hx hy)⟩,h.na,h.nD,h.nR,h.ra,h.rD,h.r,h.l.mono le,λx hx=>(h.u x hx).trans (hu x hx)⟩
theorem SEq.gM {u:Nat->Rat}(h:SEq K H0 H D R as M rs W n v u)(ha:as[i]?=some a)(hi:i < W):∃xs,H a=some (.lst xs)/\Fqs K H xs (M.getD i [])/\(M.getD i []).length=W/\∀j,j < W->Bd n ((M.getD i []).getD j (0,1)):=by
 have hl:=h.e.l;have gi:=qr8 (M:=M) (i:=i) ();obtain⟨xs,hx,fx⟩:=h.m.r i a _ ha gi;have hr:=h.e.r _ (mem_of_getElem? gi);exists xs,hx,fx,hr.w,λj hj=>(hr.at hj).2.2
theorem SEq.doM {u:Nat->Rat}(h:SEq K H0 H D R as M rs W n v u)(ha:as[i]?=some a)(hi:i < W)(hj:j < W)(hb:1<=b)(bt:Mq.B 30 t)(bb:Mq.B 30 b)(hx:H a=some (.lst xs))(s:SX [a] H H')(e:H' a=some (.lst xs'))(f:Fqs K H' xs' (mrl (M.getD i []) j t b)):SX (R :: as) H H'/\SEq K H0 H' D R as (M.set i (mrl (M.getD i []) j t b)) rs W (n+31) (λx y=>v x y+if i=x/\j=y then (t:Rat) / (b:Rat) else 0) u:=by
 have hl:=h.e.l;have ma:=mem_of_getElem? ha;have ls:Di [a] H:=λc hc=>by rw[mem_singleton.mp hc];exists xs,hx
 have ne:R≠a:=λz=>h.ra (by rw[z];exact ma);obtain⟨zr,er,fr⟩:=h.r;exists s.mono λc hc=>by rw[mem_singleton.mp hc];exact mem_cons_of_mem _ ma,⟨s.same h.s λc hc=>by rw[mem_singleton.mp hc];exact h.na a ma,Mx.put h.m ha () s e f,(h.e.more hi hj hb bt bb).mono (),h.na,h.nD,h.nR,h.ra,h.rD,⟨zr,s _ _ er (λz=>ne (mem_singleton.mp z)),SX.fqs ls s fr⟩,h.l.mono (),h.u⟩
theorem SEq.doR {u:Nat->Rat}(h:SEq K H0 H D R as M rs W n v u)(hj:j < W)(hb:1<=b)(bt:Mq.B 30 t)(bb:Mq.B 30 b)(er:H R=some (.lst xs))(s:SX [R] H H')(e:H' R=some (.lst xs'))(f:Fqs K H' xs' (mrl rs j t b)):SX (R :: as) H H'/\SEq K H0 H' D R as M (mrl rs j t b) W (n+31) v (λx=>u x+if j=x then (t:Rat) / (b:Rat) else 0):=by
 obtain⟨a1,a2⟩:=Dm h.l hj hb bt bb;have ls:Di [R] H:=λc hc=>by rw[mem_singleton.mp hc];exists xs,er
 exists s.mono λc hc=>by rw[mem_singleton.mp hc];exact mem_cons_self ..,⟨s.same h.s λc hc=>by rw[mem_singleton.mp hc];exact h.nR,?_,h.e.mono (),h.na,h.nD,h.nR,h.ra,h.rD,⟨xs',e,f⟩,a1.mono (),λx hx=>by rw[a2 x,h.u x hx]⟩;exists s _ _ h.m.d (λz=>h.rD (mem_singleton.mp z).symm),h.m.n,h.m.nd,h.m.la,λk b ps h1 h2=>?_;obtain⟨xs,hx,g⟩:=h.m.r k b ps h1 h2;exists xs,s _ _ hx (λz=>h.ra (by rw[<- mem_singleton.mp z];exact mem_of_getElem? h1)),SX.fqs ls s g
theorem SEq.setR {u:Nat->Rat}(h:SEq K H0 H D R as M rs W n v u)(hj:j < W)(er:H R=some (.lst zr))(fr:Fqs K H zr rs)(fz:Fq K H z p)(lp:1<=p.2)(bp:Bd n p):SEq K H0 (upd H R (.lst (zr.set j (.ref z)))) D R as M (rs.set j p) W n v (λx=>if j=x then Mq.val p else u x):=by
 exists h.s.change h.nR,Mx.other h.m er h.rD h.ra,h.e,h.na,h.nD,h.nR,h.ra,h.rD,⟨_,aB,(Fqs.set fz j fr).upd er⟩,⟨by rw[length_set];exact h.l.w,λq hq=>?_⟩,λx hx=>?_
 .rcases mem_or_eq_of_mem_set hq with y | y
  .exact h.l.l q y
  .rw[y];exists lp,bp
 .rw[oZ (by rw[h.l.w];exact hj)];split
  .rfl
  .exact h.u x hx
def vs3 {α:Type}(a b c:α):Nat->α
 |0=>a
 |1=>b
 |_=>c
theorem qj9 (p1:0 < p.1)(p2:1<=p.2)(v:Nat->Nat->Rat)(x y:Nat):(((v x y+if s=x/\s=y then (p.2:Rat) / (p.1:Rat) else 0)+if s=x/\g=y then ((0 - p.2:Int):Rat) / (p.1:Rat) else 0)+if g=x/\g=y then (p.2:Rat) / (p.1:Rat) else 0)+(if g=x/\s=y then ((0 - p.2:Int):Rat) / (p.1:Rat) else 0)=v x y+cM (.pc,(s:Int),(g:Int),p) h x y:=by
 have n1:(p.1:Rat)≠0:=by exact_mod_cast (show p.1≠0 by lia)
 have n2:(p.2:Rat)≠0:=by exact_mod_cast (show p.2≠0 by lia)
 have e1:(p.2:Rat) / (p.1:Rat)=1 / Mq.val p:=by unfold Mq.val;grind
 have e2:((0 - p.2:Int):Rat) / (p.1:Rat)=- (1 / Mq.val p):=by rw[<- e1,Rat.intCast_sub];grind
 rw[e1,e2];show _=_+dl s g x*dl s g y*(1 / Mq.val p)
 generalize 1 / Mq.val p=q;unfold dl
 by_cases a:s=x<;>by_cases b:g=x<;>by_cases c:s=y<;>by_cases d:g=y<;>simp only[a,b,c,d,true_and,and_true,false_and,and_false,and_self,if_true,if_false]<;>grind
theorem qi0 (v:Nat->Nat->Rat)(x y:Nat):(((v x y+if s=x/\h=y then ((1:Int):Rat) / ((1:Int):Rat) else 0)+if h=x/\s=y then ((1:Int):Rat) / ((1:Int):Rat) else 0)+if g=x/\h=y then ((-1:Int):Rat) / ((1:Int):Rat) else 0)+(if h=x/\g=y then ((-1:Int):Rat) / ((1:Int):Rat) else 0)=v x y+cM (.ho,(s:Int),(g:Int),p) h x y:=by
 have e1:((1:Int):Rat) / ((1:Int):Rat)=1:=by decide +kernel
 have e2:((-1:Int):Rat) / ((1:Int):Rat)=-1:=by decide +kernel
 rw[e1,e2];show _=_+(dl s g x*(if h=y then 1 else 0)+(if h=x then 1 else 0)*dl s g y)
 unfold dl
 by_cases a:s=x<;>by_cases b:g=x<;>by_cases c:s=y<;>by_cases d:g=y<;>by_cases e:h=x<;>by_cases f:h=y<;>simp only[a,b,c,d,e,f,true_and,and_true,false_and,and_false,and_self,if_true,if_false]<;>grind
theorem qc6 (u:Nat->Rat)(x:Nat):(u x+if g=x then (p.1:Rat) / (p.2:Rat) else 0)+(if s=x then ((0 - p.1:Int):Rat) / (p.2:Rat) else 0)=u x+cR (.pu,(s:Int),(g:Int),p) h x:=by
 have e2:((0 - p.1:Int):Rat) / (p.2:Rat)=- Mq.val p:=by unfold Mq.val;rw[Rat.intCast_sub];grind
 rw[e2];show (u x+if g=x then Mq.val p else 0)+_=_+(- dl s g x*Mq.val p)
 unfold dl
 by_cases a:s=x<;>by_cases b:g=x<;>simp only[a,b,if_true,if_false]<;>grind
theorem Kv:(["_law_row"]:List Str).Nodup:=by decide +kernel
theorem yZ:(["_law_k","_law_size_of"]:List Str).Nodup:=by decide +kernel
structure Zt (m:Nat) (ds:List RD) (N:Nat) (X:List (List Q2)) (Y:List Q2):Prop where
 l:X.length=m - 1+bZ ds
 r:∀row∈X,LnR row (m - 1+bZ ds) N
 y:LnR Y (m - 1+bZ ds) N
 vx:∀i j,i < m - 1+bZ ds->j < m - 1+bZ ds->Mq.val (iY X i j)=eqM m ds (i+1) (j+1)
 vy:∀i,i < m - 1+bZ ds->Mq.val (Y.getD i (0,1))=eqR m ds (i+1)
inductive Rg (K:Frag) (vs:wk) (H:Hp) (Q:VK) (E:XK):Prop where
 |mk (a:Addr) (xs:wk) (m:Nat) (ds:List RD):vs=[.int (m:Int),.ref a]->SqL K H a xs->Rts K H xs ds->(∀d∈ds,qM (m:Int) d/\Bd 30 d.2.2.2)->1<=m->m<=4->ds.length<=20->(∀t p r us ys X Y H',aX H H'->SqT K H' t [.ref p,.ref r]->SqL K H' p us->SqL K H' r ys->LnH K H' us X->Fqs K H' ys Y->Zt m ds (124*ds.length+1) X Y->Q (.ref t) H')->Rg K vs H Q E
theorem Ex (h:Mq.B n i):Mq.B n (0 - i):=by unfold Mq.B at h ⊢;lia
def qh2 (p:Q2)(s g:Nat)(v:Nat->Nat->Rat):Nat->Nat->Rat:=λx y=>(v x y+if s=x/\s=y then (p.2:Rat) / (p.1:Rat) else 0)+if s=x/\g=y then ((0 - p.2:Int):Rat) / (p.1:Rat) else 0
def tZ (sg:Int)(h c:Nat)(v:Nat->Nat->Rat):Nat->Nat->Rat:=λx y=>(v x y+if h=x/\c=y then (sg:Rat) / ((1:Int):Rat) else 0)+if c=x/\h=y then (sg:Rat) / ((1:Int):Rat) else 0
theorem Px (W:Nat):EqX W 1 (replicate W (replicate W (0,1))) (λ_ _=>0):=
 ⟨length_replicate,λrow hr=>by
  rw[eq_of_mem_replicate hr];exact⟨length_replicate,λp hp=>by
   rw[eq_of_mem_replicate hp];exact⟨∅,⟨show (0:Nat) < 2 ^ 1 by decide,show (1:Nat) < 2 ^ 1 by decide⟩⟩⟩,λx y _ _=>by rw[Fw,rM]⟩
theorem Rr (W:Nat):LnR (replicate W (0,1)) W 1:=⟨length_replicate,λp hp=>by
 rw[eq_of_mem_replicate hp];exact⟨∅,⟨show (0:Nat) < 2 ^ 1 by decide,show (1:Nat) < 2 ^ 1 by decide⟩⟩⟩
abbrev sEq:Stmt:=top 87
theorem rG:aS ["_law_many","_law_rows_here","_law_size_of","_law_matrix","_law_right","_law_at","_law_word","_law_start","_law_goal","_law_size_here","_law_here","_law_there","_law_sign"] ["_law_many","_law_rows_here"] (aH sEq):=sK9
theorem qa4 {P:Nat->Prop}:∀n,P n->∃k,P k/\∀q,q < k->¬P q:=by
 intro n
 induction n using Nat.strongRecOn with
 |_ n ih=>
  intro h
  by_cases c:∃q,q < n/\P q
  .obtain⟨q,hq,pq⟩:=c;exact ih q hq pq
  .exists n,h,λq hq pq=>c ⟨q,hq,pq⟩
open Classical in
noncomputable def cnt (P:Nat->Prop)(m:Nat):Nat:=match m with
 |0=>0
 |m+1=>cnt P m+if P m then 1 else 0
open Classical in
theorem Ra (h:∀p,P' p->P p):∀m,cnt P' m<=cnt P m
 |0=>Nat.le_refl _
 |m+1=>by
  have:=Ra h m;show cnt P' m+(if P' m then 1 else 0)<=cnt P m+(if P m then 1 else 0)
  by_cases c:P' m
  .rw[if_pos c,if_pos (h m c)];lia
  .rw[if_neg c];lia
open Classical in
theorem Uf (h:∀p,P' p->P p)(a:P k)(b:¬P' k):∀m,k < m->cnt P' m+1<=cnt P m
 |m+1,hk=>by
  show cnt P' m+(if P' m then 1 else 0)+1<=cnt P m+(if P m then 1 else 0)
  by_cases e:k=m
  .subst e;have:=Ra h k;rw[if_neg b,if_pos a];lia
  .have:=Uf h a b m ()
   by_cases c:P' m
   .rw[if_pos c,if_pos (h m c)];lia
   .rw[if_neg c];lia
open Classical in
theorem My (P:Nat->Prop):∀m,cnt P m<=m
 |0=>Nat.le_refl _
 |m+1=>by
  have:=My P m;show cnt P m+(if P m then 1 else 0)<=m+1;split<;>lia
open Classical in
theorem Kg (h:P 0):∀m,1<=m->1<=cnt P m
 |1,_=>by show 1<=0+(if P 0 then 1 else 0);rw[if_pos h];exact Nat.le_refl _
 |m+2,_=>by
  have:=Kg h (m+1) ();show 1<=cnt P (m+1)+_;lia
def Pi (A:List RD)(p:Nat):Prop:=∀q,q < p->¬Cn A q p
theorem Ac {m:Nat}:∀(n:Nat) (A:List RD),A.length=n->(∀d∈A,dL (m:Int) d.2.1 d.2.2.1/\d.1≠.pu)->(∀A1 B d,A=A1++d :: B->¬Cn A1 d.2.1.toNat d.2.2.1.toNat)->A.length+cnt (Pi A) m<=m
 |0,A,hl,_,_=>by rw[hl,Nat.zero_add];exact My _ _
 |n+1,A,hl,pt,fr=>by
  obtain⟨es,d,rfl⟩:∃es d,A=es++[d]:=⟨A.dropLast,A.getLast (by intro z;rw[z] at hl;cases hl),(dropLast_concat_getLast _).symm⟩
  have le:es.length=n:=by rw[xj] at hl;simpa using hl
  have ih:=Ac n es le (λx hx=>pt x (mem_append_left _ hx)) λA1 B x e=>fr A1 (B++[d]) x (by rw[e];simp);have nc:=fr es [] d rfl;obtain⟨⟨i0,i1,j0,j1⟩,hk⟩:=pt d ⋯;have row:Cn (es++[d]) d.2.1.toNat d.2.2.1.toNat:=.row ⋯ hk;have up:∀{p q:Nat},Cn es p q->Cn (es++[d]) p q:=λc=>c.mono λx hx=>mem_append_left _ hx;have sm:d.2.1.toNat < m:=by lia
  have gm:d.2.2.1.toNat < m:=by lia
  generalize d.2.1.toNat=s at *
  generalize d.2.2.1.toNat=g at *
  have mono:∀p,Pi (es++[d]) p->Pi es p:=λp h q hq c=>h q hq (up c);have two:∀s g:Nat,s < m->g < m->¬Cn es s g->Cn (es++[d]) s g->∃k,k < m/\Pi es k/\¬Pi (es++[d]) k:=by
   intro s g sm gm nc row;obtain⟨a,ca,la⟩:=qa4 (P:=λq=>Cn es q s) s (.refl s);obtain⟨b,cb,lb⟩:=qa4 (P:=λq=>Cn es q g) g (.refl g);have as:a<=s:=Nat.le_of_not_lt λz=>la s z (.refl s);have bg:b<=g:=Nat.le_of_not_lt λz=>lb g z (.refl g);have ab:Cn (es++[d]) a b:=.trans (up ca) (.trans row (.symm (up cb)));rcases Nat.lt_trichotomy a b with z | z | z
   .exists b,(),λq hq c=>lb q hq (.trans c cb),λh=>h a z ab
   .exact absurd (Cn.trans (.symm ca) (by rw[z];exact cb)) nc
   .exists a,(),λq hq c=>la q hq (.trans c ca),λh=>h b z (.symm ab)
  obtain⟨k,km,l1,l2⟩:=two s g sm gm nc row;have:=Uf mono l1 l2 m km;rw[xj];show es.length+1+_<=m;lia
theorem Mi {m:Nat}(m1:1<=m)(pt:∀d∈ds,dL (m:Int) d.2.1 d.2.2.1)(fr:Frs ds):bZ ds<=m - 1:=by
 have:=Ac (m:=m) _ (jM .ho ds) rfl (λd hd=>by
  unfold jM at hd;obtain⟨h1,h2⟩:=mem_filter.mp hd;exact⟨pt d h1,by rw[of_decide_eq_true h2];decide⟩) (Yc.mp fr)
 have:=Kg (P:=Pi (jM .ho ds)) (λq hq=>absurd hq (Nat.not_lt_zero _)) m m1;unfold bZ;lia
theorem yV (lv hs:List Q2):∀(ds:List RD) (t i:Nat) (d:RD) (q:Q2),ds[i]?=some d->(kI lv hs t ds)[i]?=some q->q=jT lv hs (t+bZ (ds.take i)) d
 |e :: r,t,0,d,q,h,g=>by
  have h:e=d:=Option.some.inj h;have g:jT lv hs t e=q:=Option.some.inj g;rw[<- g,h];rfl
 |e :: r,t,i+1,d,q,h,g=>by
  have:=yV lv hs r (t+cF e.1) i d q h g;rw[this,take_succ_cons,gB,Nat.add_assoc]
theorem Ru {m:Nat}(hx:m<=x):∀(ds:List RD) (h:Nat),(∀d∈ds,dL (m:Int) d.2.1 d.2.2.1)->x < h->eqR h ds x=0
 | [],_,_,_=>rfl
 |d :: r,h,pt,hh=>by
  show cR d h x+eqR (h+cF d.1) r x=0;rw[Ru hx r _ (λe he=>pt e (mem_cons_of_mem _ he)) (),Rat.add_zero];obtain⟨i0,i1,j0,j1⟩:=pt d ⋯;unfold cR
  cases e:d.1 with
  |pc=>rfl
  |pu=>
   show - dl _ _ x*_=0;unfold dl;rw[if_neg (),if_neg ()];grind
  |ho=>exact if_neg ()
def HoU (u:Nat->Rat)(ds:List RD):Prop:=∀d∈ds,d.1=.ho->Mq.val d.2.2.2=u d.2.1.toNat - u d.2.2.1.toNat
theorem Zm:∀(ds:List RD) (h:Nat),m<=h->(∀d∈ds,dL (m:Int) d.2.1 d.2.2.1)->(∀y,h<=y->y < h+bZ ds->hw u h ds y=eqR h ds y)->HoU u ds
 | [],_,_,_,_=>λd hd=>by cases hd
 |e :: r,h,hm,pt,H=>by
  have ptr:=λx hx=>pt x (mem_cons_of_mem _ hx);obtain⟨i0,i1,j0,j1⟩:=pt e ⋯;have hc:=gB e r;have head:e.1=.ho->Mq.val e.2.2.2=u e.2.1.toNat - u e.2.2.1.toNat:=λhk=>by
   have h1:cF e.1=1:=if_pos hk;have:=H h (Nat.le_refl _) ()
   change (if e.1=.ho/\h=h then u e.2.1.toNat - u e.2.2.1.toNat else 0)+hw u (h+cF e.1) r h=cR e h h+eqR (h+cF e.1) r h at this
   rw[if_pos ⟨hk,rfl⟩,Fm r _ (),Ru hm r _ ptr ()] at this;have c:cR e h h=Mq.val e.2.2.2:=by unfold cR;rw[hk];exact if_pos rfl
   rw[c,Rat.add_zero,Rat.add_zero] at this;exact this.symm
  have tail:=Zm r (h+cF e.1) () ptr λy y1 y2=>by
   have:=H y () ()
   change (if e.1=.ho/\h=y then u e.2.1.toNat - u e.2.2.1.toNat else 0)+hw u (h+cF e.1) r y=cR e h y+eqR (h+cF e.1) r y at this
   have a:(if e.1=.ho/\h=y then u e.2.1.toNat - u e.2.2.1.toNat else 0)=0:=if_neg λz=>by
    have:cF e.1=1:=if_pos z.1;lia
   have b:cR e h y=0:=by
    unfold cR
    cases hk:e.1 with
    |pc=>rfl
    |pu=>
     show - dl _ _ y*_=0;unfold dl;rw[if_neg (),if_neg ()];grind
    |ho=>
     have:cF e.1=1:=if_pos hk;exact if_neg ()
   rw[a,b,Rat.zero_add,Rat.zero_add] at this;exact this
  exact λd hd hk=>by
   rcases mem_cons.mp hd with z | z
   .rw[z] at hk ⊢;exact head hk
   .exact tail d z hk
theorem Me:∀(ds:List RD) (t:Nat),(∀d∈ds,d.1=.pc->Mq.val (mP (flF lv d) d.2.2.2)=(u d.2.1.toNat - u d.2.2.1.toNat)*(1 / Mq.val d.2.2.2))->HoU u ds->(∀t,u (m+t)=Mq.val (hs.getD t Mq.z0))->Fws u (m+t) (ds.zip (kI lv hs t ds))
 | [],_,_,_,_=>trivial
 |e :: r,t,a,b,c=>by
  refine⟨?_,by rw[Nat.add_assoc];exact Me r _ (λd hd=>a d (mem_cons_of_mem _ hd)) (λd hd=>b d (mem_cons_of_mem _ hd)) c⟩;unfold qa9
  cases hk:e.1 with
  |pc=>
   have:=a e ⋯ hk;show Mq.val (jT lv hs t e)=_;rw[show jT lv hs t e=mP (flF lv e) e.2.2.2 by unfold jT pK;rw[hk]];exact this
  |pu=>show Mq.val (jT lv hs t e)=_;rw[show jT lv hs t e=e.2.2.2 by unfold jT pK;rw[hk]]
  |ho=>
   exists ?_,b e ⋯ hk;rw[c t];show Mq.val (jT lv hs t e)=_;rw[show jT lv hs t e=hs.getD t Mq.z0 by unfold jT pK;rw[hk];exact if_pos rfl]
structure ql9 (m:Nat) (ds:List RD) (lv fl:List Q2):Prop where
 lnl:lv.length=m
 ll:gK lv
 l0:lv.getD 0 (0,1)=(0,1)
 lnf:fl.length=ds.length
 fa:gK fl
 row:∀(i:Nat) (d:RD) (q:Q2),ds[i]?=some d->fl[i]?=some q->(d.1=.pc->Mq.val q*Mq.val d.2.2.2=Mq.val (lv.getD d.2.1.toNat (0,1)) - Mq.val (lv.getD d.2.2.1.toNat (0,1)))/\(d.1=.pu->q=d.2.2.2)/\(d.1=.ho->Mq.val d.2.2.2=Mq.val (lv.getD d.2.1.toNat (0,1)) - Mq.val (lv.getD d.2.2.1.toNat (0,1)))
 net:∀x,x < m->ouR x (ds.zip fl)=0
theorem Ze {m:Nat}:∀D:List Pr2,(∀e∈D,dL (m:Int) e.1.2.1 e.1.2.2.1)->Mq.rs m (λx=>ouR x D)=0
 | [],_=>by show Mq.rs m (λ_=>(0:Rat))=0;exact eZ _
 |e :: D,pt=>by
  obtain⟨i0,i1,j0,j1⟩:=pt e ⋯;have a:=Gp (λ_=>Mq.val e.2) (n:=m) (s:=e.1.2.1.toNat) (g:=e.1.2.2.1.toNat) () ();have b:=Ze D λx hx=>pt x (mem_cons_of_mem _ hx);show Mq.rs m (λx=>dl e.1.2.1.toNat e.1.2.2.1.toNat x*Mq.val e.2+ouR x D)=0;rw[gC,b,aR λx _=>Rat.mul_comm (dl e.1.2.1.toNat e.1.2.2.1.toNat x) (Mq.val e.2),a];grind
theorem Ko:∀(n:Nat) (F:Nat->Rat),(∀x,1<=x->x < n+1->F x=0)->Mq.rs (n+1) F=F 0
 |0,F,_=>by show (0:Rat)+F 0=F 0;grind
 |n+1,F,h=>by
  show Mq.rs (n+1) F+F (n+1)=F 0;rw[Ko n F λx a b=>h x a (),h (n+1) () (),Rat.add_zero]
theorem qo4 {m:Nat}(m1:1<=m)(ok:∀d∈ds,qM (m:Int) d)(lp:ps.length=wd m ds)(al:gK ps)(sv:Sv m ds (eqR m ds) (uP ps)):ql9 m ds (lvS m ps) (kI (lvS m ps) (ps.drop (m - 1)) 0 ds):=by
 have pt:∀d∈ds,dL (m:Int) d.2.1 d.2.2.1:=λd hd=>⟨(ok d hd).1,(ok d hd).2.1,(ok d hd).2.2.1,(ok d hd).2.2.2.1⟩
 have lw:m - 1<=ps.length:=by rw[lp];exact Nat.le_add_right ..
 have ll:=qZ (m:=m) al;have len:=Lx m1 lw;have hv:∀{p:Nat},p < m->Mq.val ((lvS m ps).getD p (0,1))=uP ps p:=λhp=>Xz lw hp;have lat:∀{p:Nat},p < m->Low ((lvS m ps).getD p (0,1)):=λhp=>ll _ (mem_of_getElem? (sK (by rw[len];exact hp)));have fv:∀d∈ds,Low (flF (lvS m ps) d)/\Mq.val (flF (lvS m ps) d)=uP ps d.2.1.toNat - uP ps d.2.2.1.toNat:=λd hd=>by
  obtain⟨a,b,c,e⟩:=pt d hd;have l1:=(lat (p:=d.2.1.toNat) ()).pos;have l2:=(lat (p:=d.2.2.1.toNat) ()).pos;exists mB l1 l2,by unfold flF;rw[rZ l1 l2,hv (),hv ()]
 have pcv:∀d∈ds,d.1=.pc->Low (mP (flF (lvS m ps) d) d.2.2.2)/\Mq.val (mP (flF (lvS m ps) d) d.2.2.2)=(uP ps d.2.1.toNat - uP ps d.2.2.1.toNat)*(1 / Mq.val d.2.2.2):=λd hd hk=>by
  have p0:=(ok d hd).2.2.2.2.2.1 hk;have l:=(ok d hd).2.2.2.2.1;obtain⟨a,b⟩:=fv d hd;exists Fj a.pos (),by rw[Eh a.pos l.pos (),b,Rat.div_def,Rat.div_def,Rat.one_mul]
 have u0:uP ps 0=0:=sv.z;have E:∀y,1<=y->y < m+bZ ds->nt (uP ps) m ds y+hw (uP ps) m ds y=eqR m ds y:=λy y1 yw=>by
  have:=sv.e (y - 1) (by show y - 1 < m - 1+bZ ds;lia);rw[show y - 1+1=y by lia] at this;rw[<- this,<- Ij (m:=m) (u:=uP ps) u0 () y ds m pt m1 (show m+bZ ds<=wd m ds+1 by show _<=m - 1+bZ ds+1;lia)];refine aR λj _=>?_;rw[Dy,Rat.mul_comm]
 have ho:HoU (uP ps) ds:=Zm (m:=m) ds m (Nat.le_refl _) pt λy y1 y2=>by
  have:=E y () y2;rw[Je (m:=m) _ _ pt y1] at this;grind
 have tl:∀t,uP ps (m+t)=Mq.val ((ps.drop (m - 1)).getD t Mq.z0):=λt=>by
  unfold uP;rw[if_neg (),getD_eq_getElem?_getD (l:=ps.drop (m - 1)),getElem?_drop,<- getD_eq_getElem?_getD,show m+t - 1=m - 1+t by lia]
 have F:=Me (m:=m) (u:=uP ps) (lv:=lvS m ps) (hs:=ps.drop (m - 1)) ds 0 (λd hd hk=>(pcv d hd hk).2) ho tl;have lz:=rP (lvS m ps) (ps.drop (m - 1)) ds 0;have mz:(ds.zip (kI (lvS m ps) (ps.drop (m - 1)) 0 ds)).map (·.1)=ds:=map_fst_zip ();have N:∀x,1<=x->x < m->ouR x (ds.zip (kI (lvS m ps) (ps.drop (m - 1)) 0 ds))=0:=λx x1 xm=>by
  have a:=Yz (m:=m) (u:=uP ps) xm _ m F (Nat.le_refl _);rw[mz] at a;have b:=E x x1 ();rw[Fm _ _ xm] at b;rw[<- a];grind
 have one:∀(i:Nat) (d:RD) (q:Q2),ds[i]?=some d->(kI (lvS m ps) (ps.drop (m - 1)) 0 ds)[i]?=some q->Low q/\(d.1=.pc->Mq.val q*Mq.val d.2.2.2=uP ps d.2.1.toNat - uP ps d.2.2.1.toNat)/\(d.1=.pu->q=d.2.2.2):=λi d q h g=>by
  have hd:=mem_of_getElem? h;have e:=yV _ _ ds 0 i d q h g;have l:=(ok d hd).2.2.2.2.1
  cases hk:d.1 with
  |pc=>
   have eq:q=mP (flF (lvS m ps) d) d.2.2.2:=by rw[e];unfold jT pK;rw[hk]
   obtain⟨a,b⟩:=pcv d hd hk;rw[eq];refine⟨a,λ_=>?_,λz=>by cases z⟩;have p0:=(ok d hd).2.2.2.2.2.1 hk;have n1:(d.2.2.2.1:Rat)≠0:=by exact_mod_cast (show d.2.2.2.1≠0 by lia)
   have n2:(d.2.2.2.2:Rat)≠0:=by exact_mod_cast (show d.2.2.2.2≠0 by have:=l.pos;lia)
   rw[b];unfold Mq.val;grind
  |pu=>
   have eq:q=d.2.2.2:=by rw[e];unfold jT pK;rw[hk]
   exists by rw[eq];exact l,(λz=>by cases z),λ_=>eq
  |ho=>
   have eq:q=(ps.drop (m - 1)).getD (0+bZ (ds.take i)) Mq.z0:=by rw[e];unfold jT pK;rw[hk];exact if_pos rfl
   exists ?_,(λz=>by cases z),(λz=>by cases z);rw[eq,getD_eq_getElem?_getD]
   cases c:(ps.drop (m - 1))[0+bZ (ds.take i)]? with
   |none=>exact⟨∅,∅⟩
   |some p=>exact al _ (mem_of_mem_drop (mem_of_getElem? c))
 exists len,ll,rfl,lz,λq hq=>?_,λi d q h g=>?_,λx xm=>?_
 .obtain⟨i,hi⟩:=getElem?_of_mem hq;have il:=(wq.mp hi).1;exact(one i ds[i] q (getElem?_eq_getElem ()) hi).1
 .obtain⟨_,a,b⟩:=one i d q h g;have hd:=mem_of_getElem? h;obtain⟨i0,i1,j0,j1⟩:=pt d hd;rw[hv (),hv ()];exists a,b,ho d hd
 .by_cases x0:1<=x
  .exact N x x0 xm
  .have:x=0:=by lia
   subst this;have:=Ze (m:=m) (ds.zip (kI (lvS m ps) (ps.drop (m - 1)) 0 ds)) λe he=>pt _ (of_mem_zip he).1;obtain⟨k,rfl⟩:∃k,m=k+1:=⟨m - 1,()⟩
   rw[Ko k _ λx a b=>N x a b] at this;exact this
section
variable {K:Frag} {m:Nat} {fr:Bool} {ds:List RD}
def Nk (d:RD):Int:=if d.1=.pc then d.2.2.2.1 else d.2.2.2.2
theorem Sq (u:Nat):∀n,mV (λ_=>u) n=(4*u+20)*n
 |0=>rfl
 |n+1=>by show mV _ n+(4*u+20)=_;rw[Sq u n,Nat.mul_succ]
theorem qd9 (fr:Bool):2<=2 ^ eP fr:=by cases fr<;>decide
theorem DrB.pt (h:DrB fr m d):dL (m:Int) d.2.1 d.2.2.1:=⟨h.ok.1,h.ok.2.1,h.ok.2.2.1,h.ok.2.2.2.1⟩
theorem Wm (k:Kd):wHo k=true↔k=.ho:=by
 cases k
 .exists λh=>absurd h ∅,λh=>by cases h
 .exists λh=>absurd h ∅,λh=>by cases h
 .exists λ_=>rfl,λ_=>by decide +kernel
theorem qr1 (m1:1<=m)(m4:m<=4)(D:∀d∈ds,DrB fr m d)(hR:rgH ds=[])(hF:jJ m ds=[]):Nof m ds:=by
 have pt:∀d∈ds,dL (m:Int) d.2.1 d.2.2.1:=λd hd=>(D d hd).pt;exact⟨m1,pt,λd hd k=>by
   have p0:=(D d hd).ok.2.2.2.2.2.1 k;have p1:=(D d hd).ok.2.2.2.2.1.pos;unfold Mq.val;rw[Rat.div_def];exact Rat.mul_pos (by exact_mod_cast (show 0 < d.2.2.2.1 by lia)) (Rat.inv_pos.mpr (by exact_mod_cast (show 0 < d.2.2.2.2 by lia))),
  λp pm=>by
   unfold jJ at hF;have:=filter_eq_nil_iff.mp (map_eq_nil_iff.mp hF) p (mem_range.mpr pm);have e:mk m ds p=mk m ds 0:=by
    by_cases c:mk m ds p=mk m ds 0
    .exact c
    .exact absurd (decide_eq_true c) this
   exact((Zp pt pm ()).mp e).symm,
  qh1 Wm pt () hR⟩
theorem qh9 (m1:1<=m)(m4:m<=4)(far:fr=true->m<=2)(len:ds.length<=m - 1+10)(D:∀d∈ds,DrB fr m d)(nt:fK CN K H n l (m:Int) ds)(hR:rgH ds=[])(hF:jJ m ds=[]):∃(b:Nat) (kb:Nat->Nat) (L:Int),qm6 CN K H n l m b kb L ds/\bw b (wd m ds)<=3900/\∀i,∃a:Int,Mq.B b a/\eqR m ds (i+1)=(a:Rat) / (L:Rat):=by
 have o:=qr1 m1 m4 D hR hF;have pt:=o.pt;have hh:=Mi m1 pt o.fr;have u2:=qd9 fr;have c1:∀a∈ds.map Nk,1<=a/\Mq.B (eP fr) a:=λa ha=>by
  obtain⟨d,hd,rfl⟩:=mem_map.mp ha;have h:=D d hd;unfold Nk;split
  .next k=>exact⟨h.ok.2.2.2.2.2.1 k,h.bd.a⟩
  .exists h.ok.2.2.2.2.1.pos,h.bd.b
 obtain⟨L,eL⟩:∃L,L=Mq.prB (ds.map Nk):=⟨_,rfl⟩
 have L1:1<=L:=by rw[eL];exact Mq.La λa ha=>(c1 a ha).1
 have LB:Mq.B (eP fr*ds.length+1) L:=by
  have:=Mq.Zo λa ha=>(c1 a ha).2;rw[length_map] at this;rw[eL];exact this
 have one:=Mq.Fr.one L1;have dv:∀d∈ds,Nk d ∣ L:=λd hd=>by rw[eL];exact Mq.Ls (mem_map.mpr ⟨d,hd,rfl⟩)
 have big:ds.length*2 ^ eP fr < 2 ^ (eP fr+6):=by
  rw[Nat.pow_add,Nat.mul_comm (2 ^ eP fr)];exact Nat.mul_lt_mul_of_pos_right (show ds.length < 2 ^ 6 by show _ < 64;lia) (Nat.two_pow_pos _)
 have eM:∀i j,∃a:Int,Mq.B (eP fr*ds.length+eP fr+8) a/\eqM m ds (i+1) (j+1)=(a:Rat) / (L:Rat):=λi j=>by
  have c:∀d∈ds,∀k,Mq.Fr L (2 ^ eP fr) (cM d k (i+1) (j+1)):=λd hd k=>by
   have h:=D d hd;have p1:=h.ok.2.2.2.2.1.pos;unfold cM
   cases hk:d.1 with
   |pu=>exact Mq.Fr.zero.mono (Nat.zero_le _)
   |ho=>
    dsimp only;refine(Mq.Fr.add (Fz (Tg one) _ _ _) (N:=1) ?_).mono u2;rw[Rat.mul_comm];exact Fz (Tg one) _ _ _
   |pc=>
    have t1:1<=d.2.2.2.1:=h.ok.2.2.2.2.2.1 hk;dsimp only;rw[Rat.mul_assoc];have:1 / Mq.val d.2.2.2=((d.2.2.2.2:Int):Rat) / ((d.2.2.2.1:Int):Rat):=by
     have:=Mq.zR p1;have:=Mq.zR t1;unfold Mq.val;grind
    rw[this];have dd:=dv d hd;rw[show Nk d=d.2.2.2.1 from if_pos hk] at dd;exact Fz (Fz (Mq.Fr.of L1 t1 dd (Nat.le_of_lt h.bd.b)) _ _ _) _ _ _
  exact Mq.Fr.get (Vj m c) big LB ()
 have eR:∀i,∃a:Int,Mq.B (eP fr*ds.length+eP fr+8) a/\eqR m ds (i+1)=(a:Rat) / (L:Rat):=λi=>by
  have c:∀d∈ds,∀k,Mq.Fr L (2 ^ eP fr) (cR d k (i+1)):=λd hd k=>by
   have h:=D d hd;have p1:=h.ok.2.2.2.2.1.pos;have f:d.1≠.pc->Mq.Fr L (2 ^ eP fr) (Mq.val d.2.2.2):=λhk=>by
    have dd:=dv d hd;rw[show Nk d=d.2.2.2.2 from if_neg hk] at dd;exact Mq.Fr.of L1 p1 dd (Nat.le_of_lt h.bd.a)
   unfold cR
   cases hk:d.1 with
   |pc=>exact Mq.Fr.zero.mono (Nat.zero_le _)
   |pu=>
    dsimp only;have e:-dl d.2.1.toNat d.2.2.1.toNat (i+1)*Mq.val d.2.2.2=-(dl d.2.1.toNat d.2.2.1.toNat (i+1)*Mq.val d.2.2.2):=by grind
    rw[e];exact(Fz (f (by rw[hk];decide)) _ _ _).neg
   |ho=>
    dsimp only;split
    .exact f (by rw[hk];decide)
    .exact Mq.Fr.zero.mono (Nat.zero_le _)
  exact Mq.Fr.get (Uy m c) big LB ()
 have lim:(eP fr=30/\m<=2)\/eP fr=4:=by
  cases fr with
  |true=>exact .inl ⟨rfl,far rfl⟩
  |false=>exact .inr rfl
 have hok:∀(i:Nat) (d:RD),ds[i]?=some d->qM (m:Int) d/\Bd (eP fr) d.2.2.2:=λi d hd=>by
  have h:=D d (mem_of_getElem? hd);exists h.ok,h.bd
 exists eP fr*ds.length+eP fr+8,λ_=>eP fr,L,⟨nt,hok,(),(),?_,⟨o,?_,(),?_,?_,L1,LB.mono (),eM⟩⟩,?_,eR
 .rw[Sq];rcases lim with ⟨e,_⟩ | e<;>rw[e]<;>lia
 .show m - 1+bZ ds<=26;lia
 .show 10+(eP fr*ds.length+eP fr+8)+(eP fr*ds.length+eP fr+8)*(m - 1+bZ ds+1)<=8000;have w:m - 1+bZ ds+1<=2*m - 1:=by lia
  refine Nat.le_trans (Nat.add_le_add_left (Nat.mul_le_mul_left _ w) _) ?_;rcases lim with ⟨e,c⟩ | e
  .rw[e];refine Nat.le_trans (Nat.add_le_add_left (Nat.mul_le_mul_left _ (show 2*m - 1<=3 by lia)) _) ?_;lia
  .rw[e];refine Nat.le_trans (Nat.add_le_add_left (Nat.mul_le_mul_left _ (show 2*m - 1<=7 by lia)) _) ?_;lia
 .show (eP fr*ds.length+eP fr+8+5)*(m - 1+bZ ds+1)+8<=4000;have w:m - 1+bZ ds+1<=2*m - 1:=by lia
  refine Nat.le_trans (Nat.add_le_add_right (Nat.mul_le_mul_left _ w) _) ?_;rcases lim with ⟨e,c⟩ | e
  .rw[e];refine Nat.le_trans (Nat.add_le_add_right (Nat.mul_le_mul_left _ (show 2*m - 1<=3 by lia)) _) ?_;lia
  .rw[e];refine Nat.le_trans (Nat.add_le_add_right (Nat.mul_le_mul_left _ (show 2*m - 1<=7 by lia)) _) ?_;lia
 .show (eP fr*ds.length+eP fr+8+5)*(m - 1+bZ ds+1)+8<=3900;have w:m - 1+bZ ds+1<=2*m - 1:=by lia
  refine Nat.le_trans (Nat.add_le_add_right (Nat.mul_le_mul_left _ w) _) ?_;rcases lim with ⟨e,c⟩ | e
  .rw[e];refine Nat.le_trans (Nat.add_le_add_right (Nat.mul_le_mul_left _ (show 2*m - 1<=3 by lia)) _) ?_;lia
  .rw[e];refine Nat.le_trans (Nat.add_le_add_right (Nat.mul_le_mul_left _ (show 2*m - 1<=7 by lia)) _) ?_;lia
end
inductive qe9 (K:Frag) (vs:wk) (H:Hp) (Q:VK) (E:XK):Prop where
 |mk (a b r:Addr) (xs ys us:wk) (m:Nat) (ds:List RD) (lv fl:List Q2):vs=[.ref a,.ref b,.int (m:Int),.ref r]->SqL K H a xs->Fqs K H xs lv->SqL K H b ys->Fqs K H ys fl->SqL K H r us->Rts K H us ds->(∀d∈ds,qM (m:Int) d/\Bd 30 d.2.2.2)->ql9 m ds lv fl->(∀p∈lv,Bd 3900 p)->(∀q∈fl,Bd 8000 q)->1<=m->m<=4->ds.length<=20->(∀H',aX H H'->Q (.bl true) H')->qe9 K vs H Q E
theorem Ph (hp:1<=p.2)(hq:1<=q.2)(hd:1<=d.2)(h:Mq.val p - Mq.val q=Mq.val d):Mq.N (zipWith Mq.pp [p,(0 - q.1,q.2)] [(1,1),(1,1)])*d.2=d.1*Mq.D (zipWith Mq.pp [p,(0 - q.1,q.2)] [(1,1),(1,1)]):=by
 have e1:Mq.N (zipWith Mq.pp [p,(0 - q.1,q.2)] [(1,1),(1,1)])=p.1*q.2 - q.1*p.2:=by
  simp only[zipWith,Mq.pp,Mq.N,Mq.D];grind
 have e2:Mq.D (zipWith Mq.pp [p,(0 - q.1,q.2)] [(1,1),(1,1)])=p.2*q.2:=by
  simp only[zipWith,Mq.pp,Mq.D];grind
 rw[e1,e2];unfold Mq.val at h;have n1:(p.2:Rat)≠0:=by exact_mod_cast (show p.2≠0 by lia)
 have n2:(q.2:Rat)≠0:=by exact_mod_cast (show q.2≠0 by lia)
 have n3:(d.2:Rat)≠0:=by exact_mod_cast (show d.2≠0 by lia)
 have:((p.1:Rat)*q.2 - q.1*p.2)*d.2=d.1*(p.2*q.2):=by grind
 exact_mod_cast this
abbrev sWk:Stmt:=top 88
theorem xE:aS ["_law_heights","_law_streams","_law_many","_law_rows_here","_law_left","_law_row","_law_flow","_law_word","_law_start","_law_goal","_law_size_here","_law_ends","_law_fall"] ["_law_heights","_law_streams","_law_many","_law_rows_here"] (aH sWk):=sK9
theorem Rz:(["_law_row","_law_j"]:List Str).Nodup:=by decide +kernel
inductive qi4 (K:Frag) (vs:wk) (H:Hp) (Q:VK) (E:XK):Prop where
 |mk (a u r:Addr) (zs ys us:wk) (m:Nat) (ds:List RD) (M:List (List Q2)) (un:List Q2) (w:Nat->Rat):vs=[.ref a,.ref u,.int (m:Int),.ref r]->SqL K H a zs->LnH K H zs M->Vm m ds M->(∀row∈M,∀p∈row,Bd 9000 p)->SqL K H u ys->Fqs K H ys un->un.length=wd m ds->gK un->(∀p∈un,Bd 9000 p)->Sv m ds (eqR m ds) w->(∀j,j < wd m ds->Mq.val (un.getD j Mq.z0)=w (j+1))->wd m ds<=10->SqL K H r us->Rts K H us ds->(∀d∈ds,qM (m:Int) d/\Bd 30 d.2.2.2)->1<=m->m<=4->ds.length<=20->(∀H',aX H H'->Q (.bl true) H')->qi4 K vs H Q E
theorem Nu {w:Nat->Rat}(h:Vm m ds M)(e:Zt m ds N X Y)(sv:Sv m ds (eqR m ds) w)(hk:k < wd m ds):(Mq.rs (wd m ds) λj=>Mq.val ((M.getD k []).getD j Mq.z0)*Mq.val (Y.getD j Mq.z0))=w (k+1):=by
 have a:(Mq.rs (wd m ds) λj=>Mq.val ((M.getD k []).getD j Mq.z0)*Mq.val (Y.getD j Mq.z0))=Mq.rs (wd m ds) λj=>Mq.rs (wd m ds) λx=>(Mq.val ((M.getD k []).getD j Mq.z0)*eqM m ds (j+1) (x+1))*w (x+1):=aR λj hj=>by
  have y:Mq.val (Y.getD j Mq.z0)=eqR m ds (j+1):=e.vy j hj;rw[y,<- sv.e j hj,<- fM];exact aR λx _=>by rw[Rat.mul_assoc]
 rw[a,Mq.Kw];have b:(Mq.rs (wd m ds) λx=>Mq.rs (wd m ds) λj=>(Mq.val ((M.getD k []).getD j Mq.z0)*eqM m ds (j+1) (x+1))*w (x+1))=Mq.rs (wd m ds) λx=>if k=x then w (x+1) else 0:=aR λx hx=>by
  rw[aR λj _=>Rat.mul_comm (Mq.val ((M.getD k []).getD j Mq.z0)*eqM m ds (j+1) (x+1)) (w (x+1)),fM,h.inv k x hk hx];split
  .rw[Rat.mul_one]
  .rw[Rat.mul_zero]
 rw[b,Cj,if_pos hk]
abbrev sPd:Stmt:=top 89
theorem Re:aS ["_law_paper","_law_unknown","_law_many","_law_rows_here","_law_matrix","_law_right","_law_k","_law_j"] ["_law_paper","_law_unknown","_law_many","_law_rows_here"] (aH sPd):=sK9
theorem iK:(["_law_number","_law_way","_law_rows_here"]:List Str).Nodup:=by decide +kernel
theorem pT:(["_law_number","_law_way"]:List Str).Nodup:=by decide +kernel
inductive Sz (K:Frag) (vs:wk) (H:Hp) (Q:VK) (E:XK):Prop where
 |mk (x tt r F:Addr) (k:Nat) (xs us:wk) (ds:List RD) (ks:List Nat) (ring:List Stp):vs=[.ref x,.ref tt,.int (k:Int),.ref r,.ref F]->SqL K H x xs->Sts K H xs ring->Fq K H tt (tot (ring.map (iR ds)))->SqL K H r us->Rts K H us ds->(∀d∈ds,Low d.2.2.2/\Bd 30 d.2.2.2)->H F=some (.dK (rch ks))->qe3 ds ks k ring->ring.length<=10->(∀s∈ring,s.1 < ds.length/\(s.2=1\/s.2=-1))->(∀H',aX H H'->Q (.bl true) H')->Sz K vs H Q E
def szs (ds:List RD)(ring:List Stp):List Q2:=ring.map λs=>(ds.getD s.1 (.pc,0,0,(0,1))).2.2.2
def wys (ring:List Stp):List Q2:=ring.map λs=>(s.2,1)
theorem Iz (hK:∀d∈ds,Low d.2.2.2/\Bd 30 d.2.2.2)(h:∀s∈ring,s.1 < ds.length/\(s.2=1\/s.2=-1)):(∀p∈szs ds ring,1<=p.2/\Bd 30 p)/\(∀p∈wys ring,1<=p.2/\Bd 1 p)/\Mq.N (zipWith Mq.pp (szs ds ring) (wys ring))*(tot (ring.map (iR ds))).2=(tot (ring.map (iR ds))).1*Mq.D (zipWith Mq.pp (szs ds ring) (wys ring)):=by
 have a:∀p∈szs ds ring,1<=p.2/\Bd 30 p:=λp hp=>by
  obtain⟨s,hs,rfl⟩:=mem_map.mp hp;have hlt:=(h s hs).1;have hd:ds[s.1]?=some ds[s.1]:=getElem?_eq_getElem hlt;have eg:ds.getD s.1 (.pc,0,0,(0,1))=ds[s.1]:=by rw[getD_eq_getElem?_getD,hd];rfl
  rw[eg];obtain⟨l,b⟩:=hK _ (mem_of_getElem? hd);exists l.pos,b
 have b:∀p∈wys ring,1<=p.2/\Bd 1 p:=λp hp=>by
  obtain⟨s,hs,rfl⟩:=mem_map.mp hp;exists show (1:Int)<=1 by decide,(Kq (h s hs).2).2.2
 exists a,b,?_;have tp:=tE hK h;refine yI (λp hp=>(a p hp).1) (λp hp=>(b p hp).1) (by unfold szs wys;rw[length_map,length_map]) (vJ tp) ?_;rw[Mq.Ln tp,Mq.yO];unfold szs;rw[length_map,length_map,length_map];refine aR λj hj=>?_;have hs:=h ring[j] (getElem_mem hj);have hlt:=hs.1;have hd:ds[ring[j].1]?=some ds[ring[j].1]:=getElem?_eq_getElem hs.1;have eg:ds.getD ring[j].1 (.pc,0,0,(0,1))=ds[ring[j].1]:=by rw[getD_eq_getElem?_getD,hd];rfl
 obtain⟨l2,b2⟩:=hK _ (mem_of_getElem? hd);obtain⟨e,l,_⟩:=Kq hs.2;have e1:(ring.map λs=>(ds.getD s.1 (.pc,0,0,(0,1))).2.2.2).getD j Mq.z0=ds[ring[j].1].2.2.2:=by
  rw[getD_eq_getElem?_getD,getElem?_map,getElem?_eq_getElem hj,<- eg];rfl
 have e2:(wys ring).getD j Mq.z0=(ring[j].2,1):=by
  unfold wys;rw[getD_eq_getElem?_getD,getElem?_map,getElem?_eq_getElem hj];rfl
 have e3:((ring.map (iR ds)).map Mq.val).getD j 0=Mq.val (ring[j].2,1)*Mq.val ds[ring[j].1].2.2.2:=by
  rw[getD_eq_getElem?_getD,getElem?_map,getElem?_map,getElem?_eq_getElem hj];show Mq.val (iR ds ring[j])=_;unfold iR;rw[e,eg,Mq.Nf l.pos l2.pos]
 rw[e1,e2,e3,Rat.mul_comm]
abbrev qk6:Stmt:=top 90
theorem Zd:aS ["_law_ring_here","_law_shown","_law_closer","_law_rows_here","_law_forest","_law_sizes"] ["_law_ring_here","_law_shown","_law_closer","_law_rows_here","_law_forest"] (aH qk6):=sK9
theorem mI:(["_law_k","_law_streams","_law_rows_here"]:List Str).Nodup:=by decide +kernel
abbrev oA (m:Nat)(ds:List RD)(ps:List Q2):List Q2:=kI (lvS m ps) (ps.drop (m - 1)) 0 ds
inductive Sf (CN CA:Addr) (K:Frag) (vs:wk) (H:Hp) (Q:VK) (E:XK):Prop where
 |mk (n l a r:Addr) (us:wk) (m b:Nat) (L:Int) (ds:List RD) (ps:List Q2) (c:Bool):vs=[.ref n,.ref a,.int (m:Int),.ref r,.bl c]->fK CN K H n l (m:Int) ds->sI l CA K H a (lvS m ps) (oA m ds ps)->LnX [l] CA K H a m ds->a≠l->EqB m b L ds->ps.length=wd m ds->gK ps->(∀p∈lvS m ps,Bd 3900 p)->(∀p∈ps,Bd 9000 p)->(∀q∈oA m ds ps,Bd 8000 q)->Sv m ds (eqR m ds) (uP ps)->wd m ds<=10->SqL K H r us->r≠l->Rts K H us ds->(∀d∈ds,qM (m:Int) d/\Bd 30 d.2.2.2)->1<=m->m<=4->ds.length<=20->(∀H',Q (.bl true) H')->Sf CN CA K vs H Q E
theorem Mv (F:Fmd K H0 D H us X):LnH K H us X:=⟨F.length,λi x ps h1 h2=>by
 obtain⟨u,ys,ps',rfl,e,_,_,h,f⟩:=Fmd.get F h1;rw[h2] at e;cases e;exact⟨u,ys,rfl,h,f⟩⟩
theorem Mr (lv hs:List Q2):∀(ds:List RD) (t:Nat),t+bZ ds<=hs.length->hdF (ds.zip (kI lv hs t ds))=(hs.drop t).take (bZ ds)
 | [],t,_=>by show []=(hs.drop t).take 0;rw[take_zero]
 |d :: r,t,h=>by
  rw[gB] at h;have ih:=Mr lv hs r (t+cF d.1) ();show (if d.1=.ho then jT lv hs t d :: hdF (r.zip (kI lv hs (t+cF d.1) r)) else hdF (r.zip (kI lv hs (t+cF d.1) r)))=_;rw[ih,gB]
  by_cases k:d.1=.ho
  .have h1:cF d.1=1:=if_pos k;rw[if_pos k,h1];have e:jT lv hs t d=hs.getD t Mq.z0:=by unfold jT pK;rw[k];exact if_pos rfl
   have hl:t < hs.length:=by lia
   rw[e,Nat.add_comm 1,drop_eq_getElem_cons hl,take_succ_cons,getD_eq_getElem?_getD,getElem?_eq_getElem hl];rfl
  .rw[if_neg k,show cF d.1=0 from if_neg k,Nat.add_zero,Nat.zero_add]
abbrev sAd:Stmt:=top 91
theorem Ol:aS ["_law_net_here","_law_answer","_law_many","_law_rows_here","_law_change","_law_heights","_law_streams","_law_unknown","_law_paper","_law_row"] ["_law_net_here","_law_answer","_law_many","_law_rows_here","_law_change"] (aH sAd):=sK9
structure RgC (K:Frag) (mg:Str->Option Value) (CG CF:Addr):Prop where
 mG:mg "Ring"=some (.ref CG)
 mF:mg "Floats"=some (.ref CF)
 xG:Qt K CG
 xF:Qt K CF
 dG:W.hasDictIn K CG=true
 dF:W.hasDictIn K CF=true
 nR:W.findIn K (.ref CG) "ring"=some none
 nT:W.findIn K (.ref CG) "total"=some none
 nF:W.findIn K (.ref CF) "points"=some none
 eG:W.exmOne K (.ref CG) (.ref CG)=some true
 eFG:W.exmOne K (.ref CF) (.ref CG)=some false
 eF:W.exmOne K (.ref CF) (.ref CF)=some true
theorem qi6 {m n:Nat}(ov:Ovr n ps)(al:gK ps)(hn:n<=3900)(ok:∀d∈ds,qM (m:Int) d/\Bd 30 d.2.2.2)(lw:m - 1<=ps.length):∀q∈oA m ds ps,Bd 8000 q:=λq hq=>by
 obtain⟨i,hi⟩:=getElem?_of_mem hq;have il:=(wq.mp hi).1;have il:i < (kI (lvS m ps) (ps.drop (m - 1)) 0 ds).length:=il;rw[rP] at il;have hd:ds[i]?=some ds[i]:=getElem?_eq_getElem il;have e:=yV _ _ ds 0 i ds[i] q hd hi;obtain⟨⟨i0,i1,j0,j1,lp,pp,_⟩,bp⟩:=ok _ (mem_of_getElem? hd);have m1:1<=m:=by lia
 have ll:=Lx m1 lw;have b:=Cd ov al hn
 cases hk:ds[i].1 with
 |pc=>
  have eq:q=mP (flF (lvS m ps) ds[i]) ds[i].2.2.2:=by rw[e];unfold jT pK;rw[hk]
  have a1:=mem_of_getElem? (jS (ps:=lvS m ps) (j:=ds[i].2.1.toNat) ());have a2:=mem_of_getElem? (jS (ps:=lvS m ps) (j:=ds[i].2.2.1.toNat) ());have mb:=(Ovr.minus (Ua ov) (qZ al) a1 a2).1;have l1:=(qZ al _ a1).pos;have l2:=(qZ al _ a2).pos;rw[eq];exact(Ml mb bp (mB l1 l2).pos (by have:=pp hk;lia)).mono ()
 |pu=>
  have eq:q=ds[i].2.2.2:=by rw[e];unfold jT pK;rw[hk]
  rw[eq];exact bp.mono ()
 |ho=>
  have eq:q=(ps.drop (m - 1)).getD (0+bZ (ds.take i)) Mq.z0:=by rw[e];unfold jT pK;rw[hk];exact if_pos rfl
  rw[eq,getD_eq_getElem?_getD]
  cases c:(ps.drop (m - 1))[0+bZ (ds.take i)]? with
  |none=>exact(show Bd 1 ((0,1):Q2) from ⟨show (0:Nat) < 2 ^ 1 by decide,show (1:Nat) < 2 ^ 1 by decide⟩).mono ()
  |some p=>exact(b _ (mem_of_mem_drop (mem_of_getElem? c))).2.mono ()
inductive Fy (K:Frag) (vs:wk) (H:Hp) (Q:VK) (E:XK):Prop where
 |mk (a:Addr) (ns:List Int):vs=[.ref a]->SqL K H a (ns.map V.int)->ns.length<=63->(∀H',Q (.bl true) H')->Fy K vs H Q E
abbrev Av:Stmt:=top 92
theorem iZ:aS ["_law_script","_law_many","_law_far","_law_rows_here","_law_net_here","_law_answer","_law_ring_here","_law_shown","_law_floats","e","_law_forest","_law_closers_here","_law_due"] ["_law_script"] (aH Av):=sK9
instance:Inhabited World:=⟨⟨λ_ _=>0,{strHash:=λ_=>0,shareClass:=id,mergeTok:=id,idOf:=λ_=>0,idOfShared:=λ_ _=>0,followText:=λ_=>true,idOfImm:=λ_=>0}⟩⟩
set_option genInjectivity false in
structure CZ where
 P:Program
 w:World
 K:Frag
 mg:Str->Option Value
 (c_Row c_Piece c_Push c_Hold c_Net c_Answer c_OhmError c_Ring c_Floats f1 f2 f3 f4 f5 f6 f7 f8 f9 f10 f11 f12 f13 f14 f15 f16 f17 f18 f19 f20 f21 f22 f23 f24 f25 f26 f27 f28 f29 f30 f31 f32 f33 f34 f35 f36 f37 f38 f39 f40 f41 f42 f43 f44 f45 f46 f47 f48 f49 f50 f51 f52 f53 f54 f55 f56 f57 f58 f59 f60 f61 f62 f63 f64 f65 f66 f67 f68 f69 f70 f71 f72 f73 f74 f75 f76 f77 f78 f79 f80 f81 f82 f83 f84 f85:Addr)
 (d1 d2 d3 d4 d5 d7 d8 d9 d10 d11 d12 d13 d14 d15 d16 d17 d18 d19 d20 d21 d22 d23 d24 d25 d26 d27 d28 d29 d30 d31 d32 d33 d34 d35 d36 d37 d38 d39 d40 d41 d43 d44 d45 d46 d47 d48 d49 d50 d51 d52 d53 d54 d55 d56 d57 d58 d59 d60 d61 d62 d63 d64 d65 d66 d67 d68 d69 d70 d71 d72 d73 d74 d75 d76 d77 d78 d79 d80 d81 d82 d83 d84:FuncData)
 (od6 an6:Option Addr)
 sl6:Array (Option Value)
 (oc6 kV6 dc6 pm6 cd6 ct6:Value)
 T6:Addr
 oT6:Value
 dT6:Option Addr
 nT6:Nat
 sT6:Array (Option Value)
 tk6:Tok
 (od42 an42:Option Addr)
 sl42:Array (Option Value)
 (oc42 kV42 dc42 pm42 cd42 ct42:Value)
 T42:Addr
 oT42:Value
 dT42:Option Addr
 nT42:Nat
 sT42:Array (Option Value)
 (od85 an85:Option Addr)
 sl85:Array (Option Value)
 (oc85 kV85 dc85 pm85 cd85 ct85:Value)
 (aO aN aJ:Addr)
 dJ:Option Addr
 nJ:Nat
 sJ:Array (Option Value)
 (tj0 tj1 tM tR:Tok)
 (nE qE:Str)
 NE:Addr
 bsE:List Value
 snE:List Str
 suE:List Value
 abE:Bool
 coE:Option Bool
 ddE:Option Addr
 (k0E k1E k2E k3E k5E:Option Value)
 hdE:Bool
noncomputable instance:Inhabited CZ:=⟨by constructor<;>exact default⟩
class GZ (c:outParam CZ):Prop where
 mc_OhmError:mI9 c.mg "OhmError" c.c_OhmError
 mc_Ring:mI9 c.mg "Ring" c.c_Ring
 mc_Floats:mI9 c.mg "Floats" c.c_Floats
 i1:W.isFn c.K (.ref c.f1)=true
 F1:aZ c.K "__init__" "Floats.__init__" Hj .none c.f1 c.d1
 F2:aZ c.K "__init__" "Ring.__init__" Bg .none c.f2 c.d2
 m3:mI9 c.mg "is_whole" c.f3
 F3:aZ c.K "is_whole" "is_whole" Ib .none c.f3 c.d3
 m4:mI9 c.mg "greatest_common" c.f4
 F4:aZ c.K "greatest_common" "greatest_common" sGc .none c.f4 c.d4
 m5:mI9 c.mg "under" c.f5
 F5:aZ c.K "under" "under" Jf .none c.f5 c.d5
 m6:mI9 c.mg "fraction" c.f6
 l6:c.K.lookup c.f6=some ⟨c.oc6,c.od6,.func (W.fnOf "fraction" "fraction" (fI nU) (eV nU) (aH nU) (.ref c.T6) c.kV6 c.dc6 c.pm6 c.an6 c.cd6 c.ct6),c.sl6⟩
 c6:W.codeIn c.K c.cd6 "fraction"=true
 k6:kI9 c.K c.f6
 lt6:c.K.lookup c.T6=some ⟨c.oT6,c.dT6,.seq #[.int 1 c.tk6] c.nT6,c.sT6⟩
 m7:mI9 c.mg "minus" c.f7
 F7:aZ c.K "minus" "minus" Jm .none c.f7 c.d7
 m8:mI9 c.mg "plus" c.f8
 F8:aZ c.K "plus" "plus" Rk .none c.f8 c.d8
 F9:aZ c.K "__init__" "Row.__init__" Ii .none c.f9 c.d9
 m10:mI9 c.mg "times" c.f10
 F10:aZ c.K "times" "times" Hm .none c.f10 c.d10
 m11:mI9 c.mg "over" c.f11
 F11:aZ c.K "over" "over" Uo .none c.f11 c.d11
 m12:mI9 c.mg "total" c.f12
 F12:aZ c.K "total" "total" Ia .none c.f12 c.d12
 m13:mI9 c.mg "is_fraction" c.f13
 F13:aZ c.K "is_fraction" "is_fraction" qj7 .none c.f13 c.d13
 a14_0:W.findIn c.K (.ref c.c_Piece) "word"=some (some (.ref c.f14))
 i14:W.isFn c.K (.ref c.f14)=true
 F14:aZ c.K "word" "Piece.word" xO .none c.f14 c.d14
 a15_0:W.findIn c.K (.ref c.c_Push) "word"=some (some (.ref c.f15))
 i15:W.isFn c.K (.ref c.f15)=true
 F15:aZ c.K "word" "Push.word" vY .none c.f15 c.d15
 a16_0:W.findIn c.K (.ref c.c_Hold) "word"=some (some (.ref c.f16))
 i16:W.isFn c.K (.ref c.f16)=true
 F16:aZ c.K "word" "Hold.word" xV .none c.f16 c.d16
 a17_0:W.findIn c.K (.ref c.c_Piece) "joins"=some (some (.ref c.f17))
 i17:W.isFn c.K (.ref c.f17)=true
 F17:aZ c.K "joins" "Piece.joins" sE .none c.f17 c.d17
 a18_0:W.findIn c.K (.ref c.c_Push) "joins"=some (some (.ref c.f18))
 i18:W.isFn c.K (.ref c.f18)=true
 F18:aZ c.K "joins" "Push.joins" tI .none c.f18 c.d18
 a19_0:W.findIn c.K (.ref c.c_Hold) "joins"=some (some (.ref c.f19))
 i19:W.isFn c.K (.ref c.f19)=true
 F19:aZ c.K "joins" "Hold.joins" tX .none c.f19 c.d19
 a20_0:W.findIn c.K (.ref c.c_Piece) "told"=some (some (.ref c.f20))
 a20_1:W.findIn c.K (.ref c.c_Push) "told"=some (some (.ref c.f20))
 a20_2:W.findIn c.K (.ref c.c_Hold) "told"=some (some (.ref c.f20))
 i20:W.isFn c.K (.ref c.f20)=true
 F20:aZ c.K "told" "Row.told" Ie .none c.f20 c.d20
 m21:mI9 c.mg "row_of" c.f21
 F21:aZ c.K "row_of" "row_of" Ha .none c.f21 c.d21
 a22_0:W.findIn c.K (.ref c.c_Piece) "stream"=some (some (.ref c.f22))
 i22:W.isFn c.K (.ref c.f22)=true
 F22:aZ c.K "stream" "Piece.stream" qA .none c.f22 c.d22
 a23_0:W.findIn c.K (.ref c.c_Push) "stream"=some (some (.ref c.f23))
 i23:W.isFn c.K (.ref c.f23)=true
 F23:aZ c.K "stream" "Push.stream" pY .none c.f23 c.d23
 a24_0:W.findIn c.K (.ref c.c_Hold) "stream"=some (some (.ref c.f24))
 i24:W.isFn c.K (.ref c.f24)=true
 F24:aZ c.K "stream" "Hold.stream" qD .none c.f24 c.d24
 m25:mI9 c.mg "is_piece_size" c.f25
 F25:aZ c.K "is_piece_size" "is_piece_size" sPS .none c.f25 c.d25
 m26:mI9 c.mg "is_number_below" c.f26
 F26:aZ c.K "is_number_below" "is_number_below" sNB .none c.f26 c.d26
 m27:mI9 c.mg "refuse_size" c.f27
 F27:aZ c.K "refuse_size" "refuse_size" sRS .none c.f27 c.d27
 m28:mI9 c.mg "refuse_points" c.f28
 F28:aZ c.K "refuse_points" "refuse_points" sRP .none c.f28 c.d28
 m29:mI9 c.mg "refuse_number" c.f29
 F29:aZ c.K "refuse_number" "refuse_number" sRN .none c.f29 c.d29
 F30:aZ c.K "__init__" "Net.__init__" Hv .none c.f30 c.d30
 a31_0:W.findIn c.K (.ref c.c_Net) "many"=some (some (.ref c.f31))
 i31:W.isFn c.K (.ref c.f31)=true
 F31:aZ c.K "many" "Net.many" Ux .none c.f31 c.d31
 a32_0:W.findIn c.K (.ref c.c_Net) "told"=some (some (.ref c.f32))
 i32:W.isFn c.K (.ref c.f32)=true
 F32:aZ c.K "told" "Net.told" Hr .none c.f32 c.d32
 a33_0:W.findIn c.K (.ref c.c_Net) "add"=some (some (.ref c.f33))
 i33:W.isFn c.K (.ref c.f33)=true
 F33:aZ c.K "add" "Net.add" qi2 .none c.f33 c.d33
 a34_0:W.findIn c.K (.ref c.c_Net) "change"=some (some (.ref c.f34))
 i34:W.isFn c.K (.ref c.f34)=true
 F34:aZ c.K "change" "Net.change" Dt .none c.f34 c.d34
 a35_0:W.findIn c.K (.ref c.c_Net) "rows"=some (some (.ref c.f35))
 i35:W.isFn c.K (.ref c.f35)=true
 F35:aZ c.K "rows" "Net.rows" Sn .none c.f35 c.d35
 m36:mI9 c.mg "fall_of" c.f36
 F36:aZ c.K "fall_of" "fall_of" Sw .none c.f36 c.d36
 m37:mI9 c.mg "joined" c.f37
 F37:aZ c.K "joined" "joined" Bc .none c.f37 c.d37
 m38:mI9 c.mg "marks_of" c.f38
 F38:aZ c.K "marks_of" "marks_of" Ke .none c.f38 c.d38
 m39:mI9 c.mg "floating" c.f39
 F39:aZ c.K "floating" "floating" Jr .none c.f39 c.d39
 m40:mI9 c.mg "steps_from" c.f40
 F40:aZ c.K "steps_from" "steps_from" Gs .none c.f40 c.d40
 m41:mI9 c.mg "way_along" c.f41
 F41:aZ c.K "way_along" "way_along" qk0 .none c.f41 c.d41
 m42:mI9 c.mg "rings" c.f42
 l42:c.K.lookup c.f42=some ⟨c.oc42,c.od42,.func (W.fnOf "rings" "rings" (fI jQ) (eV jQ) (aH jQ) (.ref c.T42) c.kV42 c.dc42 c.pm42 c.an42 c.cd42 c.ct42),c.sl42⟩
 c42:W.codeIn c.K c.cd42 "rings"=true
 k42:kI9 c.K c.f42
 lt42:c.K.lookup c.T42=some ⟨c.oT42,c.dT42,.seq #[.none] c.nT42,c.sT42⟩
 m43:mI9 c.mg "ring_sum" c.f43
 F43:aZ c.K "ring_sum" "ring_sum" Qu .none c.f43 c.d43
 m44:mI9 c.mg "raise_at" c.f44
 F44:aZ c.K "raise_at" "raise_at" Gz .none c.f44 c.d44
 m45:mI9 c.mg "enter_stream" c.f45
 F45:aZ c.K "enter_stream" "enter_stream" Jh .none c.f45 c.d45
 m46:mI9 c.mg "enter_piece" c.f46
 F46:aZ c.K "enter_piece" "enter_piece" Bp .none c.f46 c.d46
 m47:mI9 c.mg "enter_push" c.f47
 F47:aZ c.K "enter_push" "enter_push" Au .none c.f47 c.d47
 m48:mI9 c.mg "enter_hold" c.f48
 F48:aZ c.K "enter_hold" "enter_hold" Cu .none c.f48 c.d48
 m49:mI9 c.mg "equations" c.f49
 F49:aZ c.K "equations" "equations" qd1 .none c.f49 c.d49
 m50:mI9 c.mg "in_wholes" c.f50
 F50:aZ c.K "in_wholes" "in_wholes" sIW .none c.f50 c.d50
 m51:mI9 c.mg "pivot_place" c.f51
 F51:aZ c.K "pivot_place" "pivot_place" qe5 .none c.f51 c.d51
 m52:mI9 c.mg "cleared" c.f52
 F52:aZ c.K "cleared" "cleared" qc8 .none c.f52 c.d52
 m53:mI9 c.mg "cleared_rows" c.f53
 F53:aZ c.K "cleared_rows" "cleared_rows" yE .none c.f53 c.d53
 m54:mI9 c.mg "eliminated" c.f54
 F54:aZ c.K "eliminated" "eliminated" Uk .none c.f54 c.d54
 m55:mI9 c.mg "solved" c.f55
 F55:aZ c.K "solved" "solved" Ce .none c.f55 c.d55
 m56:mI9 c.mg "refuse_unanswered" c.f56
 F56:aZ c.K "refuse_unanswered" "refuse_unanswered" qf3 .none c.f56 c.d56
 m57:mI9 c.mg "flows_of" c.f57
 F57:aZ c.K "flows_of" "flows_of" Ic .none c.f57 c.d57
 F58:aZ c.K "__init__" "Answer.__init__" Ip .none c.f58 c.d58
 m59:mI9 c.mg "beside_unit" c.f59
 F59:aZ c.K "beside_unit" "beside_unit" Tu .none c.f59 c.d59
 m60:mI9 c.mg "over_pivot" c.f60
 F60:aZ c.K "over_pivot" "over_pivot" Io .none c.f60 c.d60
 m61:mI9 c.mg "multiples" c.f61
 F61:aZ c.K "multiples" "multiples" Qg .none c.f61 c.d61
 a62_0:W.findIn c.K (.ref c.c_Answer) "heights"=some (some (.ref c.f62))
 i62:W.isFn c.K (.ref c.f62)=true
 F62:aZ c.K "heights" "Answer.heights" Uu .none c.f62 c.d62
 a63_0:W.findIn c.K (.ref c.c_Answer) "streams"=some (some (.ref c.f63))
 i63:W.isFn c.K (.ref c.f63)=true
 F63:aZ c.K "streams" "Answer.streams" Pw .none c.f63 c.d63
 a64_0:W.findIn c.K (.ref c.c_Answer) "paper"=some (some (.ref c.f64))
 i64:W.isFn c.K (.ref c.f64)=true
 F64:aZ c.K "paper" "Answer.paper" Ry .none c.f64 c.d64
 m65:mI9 c.mg "_law_nth" c.f65
 F65:aZ c.K "_law_nth" "_law_nth" qf4 .none c.f65 c.d65
 m66:mI9 c.mg "_law_divisor" c.f66
 F66:aZ c.K "_law_divisor" "_law_divisor" qa6 .none c.f66 c.d66
 m67:mI9 c.mg "_law_lowest" c.f67
 F67:aZ c.K "_law_lowest" "_law_lowest" Ay .none c.f67 c.d67
 m68:mI9 c.mg "_law_is" c.f68
 F68:aZ c.K "_law_is" "_law_is" sIs .none c.f68 c.d68
 m69:mI9 c.mg "_law_list" c.f69
 F69:aZ c.K "_law_list" "_law_list" Hu .none c.f69 c.d69
 m70:mI9 c.mg "_law_meets" c.f70
 F70:aZ c.K "_law_meets" "_law_meets" Gw .none c.f70 c.d70
 m71:mI9 c.mg "_law_an_int" c.f71
 F71:aZ c.K "_law_an_int" "_law_an_int" Ig .none c.f71 c.d71
 m72:mI9 c.mg "_law_net" c.f72
 F72:aZ c.K "_law_net" "_law_net" Jl .none c.f72 c.d72
 m73:mI9 c.mg "_law_size" c.f73
 F73:aZ c.K "_law_size" "_law_size" Tv .none c.f73 c.d73
 m74:mI9 c.mg "_law_amount" c.f74
 F74:aZ c.K "_law_amount" "_law_amount" Bi .none c.f74 c.d74
 m75:mI9 c.mg "_law_closers" c.f75
 F75:aZ c.K "_law_closers" "_law_closers" xK .none c.f75 c.d75
 m76:mI9 c.mg "_law_ring" c.f76
 F76:aZ c.K "_law_ring" "_law_ring" So .none c.f76 c.d76
 m77:mI9 c.mg "_law_rows" c.f77
 F77:aZ c.K "_law_rows" "_law_rows" sRw .none c.f77 c.d77
 m78:mI9 c.mg "_law_more" c.f78
 F78:aZ c.K "_law_more" "_law_more" Sg .none c.f78 c.d78
 m79:mI9 c.mg "_law_apart" c.f79
 F79:aZ c.K "_law_apart" "_law_apart" Hs .none c.f79 c.d79
 m80:mI9 c.mg "_law_equations" c.f80
 F80:aZ c.K "_law_equations" "_law_equations" sEq .none c.f80 c.d80
 m81:mI9 c.mg "_law_walked" c.f81
 F81:aZ c.K "_law_walked" "_law_walked" sWk .none c.f81 c.d81
 m82:mI9 c.mg "_law_papered" c.f82
 F82:aZ c.K "_law_papered" "_law_papered" sPd .none c.f82 c.d82
 m83:mI9 c.mg "_law_ring_due" c.f83
 F83:aZ c.K "_law_ring_due" "_law_ring_due" qk6 .none c.f83 c.d83
 m84:mI9 c.mg "_law_answered" c.f84
 F84:aZ c.K "_law_answered" "_law_answered" sAd .none c.f84 c.d84
 m85:mI9 c.mg "law" c.f85
 l85:c.K.lookup c.f85=some ⟨c.oc85,c.od85,.func (W.fnOf "law" "law" (fI Av) (eV Av) (aH Av) .none c.kV85 c.dc85 c.pm85 c.an85 c.cd85 c.ct85),c.sl85⟩
 c85:W.codeIn c.K c.cd85 "law"=true
 k85:kI9 c.K c.f85
 mv_ONE:mI9 c.mg "ONE" c.aO
 mv_NOUGHT:mI9 c.mg "NOUGHT" c.aN
 mv_JOINING_WORDS:mI9 c.mg "JOINING_WORDS" c.aJ
 mv_MOST_POINTS:c.mg "MOST_POINTS"=some (.int 20 c.tM)
 mv_MOST_ROWS:c.mg "MOST_ROWS"=some (.int 40 c.tR)
 lE:c.K.lookup c.c_OhmError=some (excClassObj c.nE c.qE c.c_OhmError c.NE c.bsE yP c.hdE c.snE c.suE c.abE c.coE c.ddE c.k0E c.k1E c.k2E c.k3E c.k5E "ValueError.__new__")
 lJ:c.K.lookup c.aJ=some ⟨.type "tuple",c.dJ,.seq #[.str "piece" c.tj0,.str "hold" c.tj1] c.nJ,c.sJ⟩
 n_len:c.mg "len"=none
 n_range:c.mg "range"=none
 n_str:c.mg "str"=none
 n_tuple:c.mg "tuple"=none
 n_list:c.mg "list"=none
 n_all:c.mg "all"=none
 n_zip:c.mg "zip"=none
 n_enumerate:c.mg "enumerate"=none
 n_min:c.mg "min"=none
 bl:Bl c.mg
 T:RT c.K c.mg c.c_Row (kd3 c.c_Piece c.c_Push c.c_Hold)
 fN:∀H:Hp,Fq c.K H c.aN (0,1)
 fO:∀H:Hp,Fq c.K H c.aO (1,1)
 NTx:NT c.K c.mg c.c_Net
 ABx:AB c.K c.mg c.c_Answer
 cE:RgC c.K c.mg c.c_Ring c.c_Floats
 qIF:lV c.K c.c_Floats c.c_OhmError c.f1
 qIG:lV c.K c.c_Ring c.c_OhmError c.f2
 cI:Ue c.K c.c_OhmError
 qFF:Bm c.K c.c_Floats ("points")
 qGr:Bm c.K c.c_Ring ("ring")
 qGt:Bm c.K c.c_Ring ("total")
 MK:∀k:Kd,Mk c.K (kd3 c.c_Piece c.c_Push c.c_Hold k) c.f9
 MN:Mk c.K c.c_Net c.f30
 MA:Mk c.K c.c_Answer c.f58
def OZ (c:CZ)(b:Heap):Prop:=aL c.P c.w c.K c.mg b CX0 10 c.f85 (W.fnOf ("law") ("law") (fI Av) (eV Av) (aH Av) .none c.kV85 c.dc85 c.pm85 c.an85 c.cd85 c.ct85) ["_law_script"] (Fy c.K)
noncomputable def TZ:CZ×Heap:=Classical.epsilon λx=>GZ x.1/\¬OZ x.1 x.2
@[irreducible] noncomputable def Z:CZ:=TZ.1
@[irreducible] noncomputable def ZB:Heap:=TZ.2
abbrev FZ:=aL Z.P Z.w Z.K Z.mg ZB
abbrev DZ:=D9 Z.P Z.w Z.K Z.mg ZB
section
open Shp
abbrev zz3(c:CZ):Kd→Addr:=kd3 c.c_Piece c.c_Push c.c_Hold
open GZ hiding mk
variable [GZ Z]
theorem b1:aP Z.K Z.d1 ["self","points"] []:=F1.b2 "self" "points" (by intros;rfl)
theorem b2:aP Z.K Z.d2 ["self","ring","total"] []:=F2.b3 "self" "ring" "total" (by intros;rfl)
theorem F6:aZ Z.K ("fraction") ("fraction") nU (.ref Z.T6) Z.f6 (W.fnOf ("fraction") ("fraction") (fI nU) (eV nU) (aH nU) (.ref Z.T6) Z.kV6 Z.dc6 Z.pm6 Z.an6 Z.cd6 Z.ct6):=vH (st:=nU) l6 c6 k6
theorem b6:aP Z.K (W.fnOf ("fraction") ("fraction") (fI nU) (eV nU) (aH nU) (.ref Z.T6) Z.kV6 Z.dc6 Z.pm6 Z.an6 Z.cd6 Z.ct6) ["top","bottom"] []:=λs us XX hl=>match us,hl with | [_,_],_=>W.binds_K (fd:=W.fnOf "fraction" "fraction" (fI nU) (eV nU) (aH nU) (.ref Z.T6) Z.kV6 Z.dc6 Z.pm6 Z.an6 Z.cd6 Z.ct6) XX rfl lt6 rfl rfl rfl
theorem bd6:aP Z.K (W.fnOf ("fraction") ("fraction") (fI nU) (eV nU) (aH nU) (.ref Z.T6) Z.kV6 Z.dc6 Z.pm6 Z.an6 Z.cd6 Z.ct6) ["top","bottom"] [.int 1 Z.tk6]:=λs us XX hl=>match us,(show us.length=1 by simp at hl;lia) with | [_],_=>W.binds_K (fd:=W.fnOf "fraction" "fraction" (fI nU) (eV nU) (aH nU) (.ref Z.T6) Z.kV6 Z.dc6 Z.pm6 Z.an6 Z.cd6 Z.ct6) XX rfl lt6 rfl rfl rfl
theorem b9:aP Z.K Z.d9 ["self","start","goal","size"] []:=F9.b4 "self" "start" "goal" "size" (by intros;rfl)
theorem b14:aP Z.K Z.d14 ["self"] []:=F14.b1 "self" (by intros;rfl)
theorem b15:aP Z.K Z.d15 ["self"] []:=F15.b1 "self" (by intros;rfl)
theorem b16:aP Z.K Z.d16 ["self"] []:=F16.b1 "self" (by intros;rfl)
theorem b17:aP Z.K Z.d17 ["self"] []:=F17.b1 "self" (by intros;rfl)
theorem b18:aP Z.K Z.d18 ["self"] []:=F18.b1 "self" (by intros;rfl)
theorem b19:aP Z.K Z.d19 ["self"] []:=F19.b1 "self" (by intros;rfl)
theorem b20:aP Z.K Z.d20 ["self"] []:=F20.b1 "self" (by intros;rfl)
theorem b22:aP Z.K Z.d22 ["self","fall","held"] []:=F22.b3 "self" "fall" "held" (by intros;rfl)
theorem b23:aP Z.K Z.d23 ["self","fall","held"] []:=F23.b3 "self" "fall" "held" (by intros;rfl)
theorem b24:aP Z.K Z.d24 ["self","fall","held"] []:=F24.b3 "self" "fall" "held" (by intros;rfl)
theorem b30:aP Z.K Z.d30 ["self","many"] []:=F30.b2 "self" "many" (by intros;rfl)
theorem b31:aP Z.K Z.d31 ["self"] []:=F31.b1 "self" (by intros;rfl)
theorem b32:aP Z.K Z.d32 ["self"] []:=F32.b1 "self" (by intros;rfl)
theorem b33:aP Z.K Z.d33 ["self","row"] []:=F33.b2 "self" "row" (by intros;rfl)
theorem b34:aP Z.K Z.d34 ["self","k","size"] []:=F34.b3 "self" "k" "size" (by intros;rfl)
theorem b35:aP Z.K Z.d35 ["self"] []:=F35.b1 "self" (by intros;rfl)
theorem F42:aZ Z.K ("rings") ("rings") jQ (.ref Z.T42) Z.f42 (W.fnOf ("rings") ("rings") (fI jQ) (eV jQ) (aH jQ) (.ref Z.T42) Z.kV42 Z.dc42 Z.pm42 Z.an42 Z.cd42 Z.ct42):=vH (st:=jQ) l42 c42 k42
theorem b42:aP Z.K (W.fnOf ("rings") ("rings") (fI jQ) (eV jQ) (aH jQ) (.ref Z.T42) Z.kV42 Z.dc42 Z.pm42 Z.an42 Z.cd42 Z.ct42) ["net","words"] []:=λs us XX hl=>match us,hl with | [_,_],_=>W.binds_K (fd:=W.fnOf "rings" "rings" (fI jQ) (eV jQ) (aH jQ) (.ref Z.T42) Z.kV42 Z.dc42 Z.pm42 Z.an42 Z.cd42 Z.ct42) XX rfl lt42 rfl rfl rfl
theorem bd42:aP Z.K (W.fnOf ("rings") ("rings") (fI jQ) (eV jQ) (aH jQ) (.ref Z.T42) Z.kV42 Z.dc42 Z.pm42 Z.an42 Z.cd42 Z.ct42) ["net","words"] [.none]:=λs us XX hl=>match us,(show us.length=1 by simp at hl;lia) with | [_],_=>W.binds_K (fd:=W.fnOf "rings" "rings" (fI jQ) (eV jQ) (aH jQ) (.ref Z.T42) Z.kV42 Z.dc42 Z.pm42 Z.an42 Z.cd42 Z.ct42) XX rfl lt42 rfl rfl rfl
theorem b56:aP Z.K Z.d56 ["net"] []:=F56.b1 "net" (by intros;rfl)
theorem b58:aP Z.K Z.d58 ["self","net"] []:=F58.b2 "self" "net" (by intros;rfl)
theorem b62:aP Z.K Z.d62 ["self"] []:=F62.b1 "self" (by intros;rfl)
theorem b63:aP Z.K Z.d63 ["self"] []:=F63.b1 "self" (by intros;rfl)
theorem b64:aP Z.K Z.d64 ["self"] []:=F64.b1 "self" (by intros;rfl)
theorem F85:aZ Z.K ("law") ("law") Av .none Z.f85 (W.fnOf ("law") ("law") (fI Av) (eV Av) (aH Av) .none Z.kV85 Z.dc85 Z.pm85 Z.an85 Z.cd85 Z.ct85):=vH (st:=Av) l85 c85 k85
theorem fJ0:∀H:Hp,SqT Z.K H Z.aJ [V.str ("piece"),V.str ("hold")]:=λH=>.inr ⟨_,_,_,lJ,rfl,rfl,(zl9 2),.cons ⟨_,rfl⟩ (.cons ⟨_,rfl⟩ .nil)⟩
theorem R1:FZ CX0 1 Z.f1 Z.d1 ["self","points"] (Ck Z.K Z.c_Floats):=by
 refine F1.ok9 Xl λcdv A outer s H vs Q E hr h=>?_;obtain⟨x,l,xs,rfl,hx,hS,h1000,q⟩:=h;exists _,(aC (cC (Jg rfl mc_OhmError cI (aA (pv 0) (aA (iA pO rfl n_tuple PyProof.Rows.boot_tuple (aA (pv 1) aD)) aD)))) (aF (Wk (pv 0) (iA iB rfl n_list PyProof.Rows.boot_list (aA (pv 1) aD)) rfl))),?_;exists _,rfl,_,rfl,l,xs,rfl,.inl ⟨hS,λt ht=>?_⟩;have s1:=aG ht (.tup xs);have nt:t≠x:=λz=>by rw[z,hx] at ht;cases ht
 generalize upd H t (.tup xs)=H1 at s1 ⊢;exists x,Z.c_Floats,Z.c_OhmError,Z.f1,none,_,rfl,s1 _ _ hx,qIF,?_;exists _,rfl,l,xs,rfl,.inl (s1.seq hS),λl2 hl2=>?_;have s2:=aG hl2 (.lst xs);have e2:upd H1 l2 (.lst xs) l2=some (.lst xs):=aB;have x1:=s1 _ _ hx;have n2:l2≠x:=λz=>by rw[z,x1] at hl2;cases hl2
 generalize upd H1 l2 (.lst xs)=H2 at s2 e2 ⊢;have x2:=s2 _ _ x1;exists _,rfl,x,Z.c_Floats,Z.c_OhmError,Z.f1,rfl,x2,qIF,qFF,λdx hdx=>?_;have nx:dx≠x:=λz=>by rw[z,x2] at hdx;cases hdx
 have nl:l2≠dx:=λz=>by rw[z] at e2;rw[e2] at hdx;cases hdx
 have s02:=s1.trans s2;refine q dx l2 _ (s02.free hdx) (s1.free hl2) nx n2 (λb' o e nb=>?_) aB ?_ ?_
 .rw[aV nb,aV (λz=>by rw[z,s02.free hdx] at e;cases e)];exact s02 _ _ e
 .rw[aV nx,aB]
 .rw[aV n2,aV nl];exact e2
theorem R2:FZ CX0 1 Z.f2 Z.d2 ["self","ring","total"] (wD Z.K Z.c_Ring):=by
 refine F2.ok9 Tp λ_ _ _ s H _ Q E hr h=>?_;obtain⟨x,l,t0,xs,rfl,hx,hS,h1000,q⟩:=h;exists _,(aC (cC (Ej rfl mc_OhmError cI (aA (pv 0) (aA (iA pO rfl n_tuple PyProof.Rows.boot_tuple (aA (pv 1) aD)) (aA (pv 2) aD))))) (aC (Ss (pv 0) (iA iB rfl n_list PyProof.Rows.boot_list (aA (pv 1) aD)) rfl) (aF (Tm (pv 0) (pv 2) rfl)))),?_;exists _,rfl,_,rfl,l,xs,rfl,.inl ⟨hS,λt ht=>?_⟩;have s1:=aG ht (.tup xs);have nt:t≠x:=λz=>by rw[z,hx] at ht;cases ht
 generalize upd H t (.tup xs)=H1 at s1 ⊢;exists _,rfl,x,Z.c_Ring,Z.c_OhmError,Z.f2,none,_,_,rfl,s1 _ _ hx,qIG,?_;exists _,rfl,l,xs,rfl,.inl (s1.seq hS),λl2 hl2=>?_;have s2:=aG hl2 (.lst xs);have e2:upd H1 l2 (.lst xs) l2=some (.lst xs):=aB;have x1:=s1 _ _ hx;have n2:l2≠x:=λz=>by rw[z,x1] at hl2;cases hl2
 generalize upd H1 l2 (.lst xs)=H2 at s2 e2 ⊢;have x2:=s2 _ _ x1;exists _,rfl,x,Z.c_Ring,Z.c_OhmError,Z.f2,rfl,x2,qIG,qGr,λdx hdx=>?_;have nx:dx≠x:=λz=>by rw[z,x2] at hdx;cases hdx
 have nl:l2≠dx:=λz=>by rw[z] at e2;rw[e2] at hdx;cases hdx
 have s02:=s1.trans s2;exists _,rfl,_,rfl,x,Z.c_Ring,Z.c_OhmError,Z.f2,dx,"ring",.ref l2,rfl,aB,by rw[aV nx,aB],∅,qIG,qGt,?_;refine q dx l2 _ (s02.free hdx) (s1.free hl2) nx n2 (λb' o e nb=>?_) ?_ aB ?_
 .have nd:b'≠dx:=λz=>by rw[z,s02.free hdx] at e;cases e
  rw[aV nd,aV nb,aV nd];exact s02 _ _ e
 .rw[aV (Ne.symm nx),aB]
 .rw[aV nl,aV n2,aV nl];exact e2
theorem Y3:DZ 1 Z.f3 Z.d3 ["thing"] (pE Z.K) "is_whole":=by
 exists ?_,F3.b1 _ (by intros;rfl),F3.kp,m3
 refine F3.ok9 Xq λ_ _ _ s H _ Q E hr h=>?_;obtain⟨x,rfl,h⟩:=h;exists _,aF (aW (kT (gL (i:=0) rfl (Or.inl rfl) bl.isi bl.int rfl rfl PyProof.Rows.boot_int) (oX (qj2 (gL (i:=0) rfl (Or.inl rfl) bl.isi bl.bool rfl rfl PyProof.Rows.boot_bool))))),?_;rcases h with ⟨i,rfl,q⟩ | ⟨t,ty,nw,q⟩
 .exists _,_,_,rfl,.of (.int i),rfl,_,rfl,eY ⟨_,_,false,rfl,.of (.int i),(by with_unfolding_all rfl),_,rfl,q⟩
 .rcases nw with rfl | rfl | rfl | rfl | rfl
  .exists _,_,true,rfl,.of ty,(by with_unfolding_all rfl),_,rfl,eY ⟨_,_,_,rfl,.of ty,rfl,_,rfl,q⟩
  all_goals exact⟨_,_,false,rfl,.of ty,(by with_unfolding_all rfl),_,rfl,dE q⟩
theorem Y4:DZ 1 Z.f4 Z.d4 ["one","other"] Fa "greatest_common":=by
 exists ?_,F4.b2 _ _ (by intros;rfl),F4.kp,m4
 refine F4.ok9 Yq λ_ _ _ s H _ Q E hr h=>?_;obtain⟨x,y,rfl,q⟩:=h;refine⟨_,aC (xZ PassesOwn.never (bK jL (pv 1) aE (bM _)) (aC (qQ1 (i:=2) Yq.nd (bC vO (pv 0) (pv 1)))
  (aC (qQ1 (i:=0) Yq.nd (pv 1)) (aF (qQ1 (i:=1) Yq.nd (pv 2))))))
  (aF (aW (cB Gg rfl bl.abs PyProof.Rows.boot_abs (aA (pv 0) aD)))),?_⟩
 refine wF (λσ H'=>H'=H/\∃u v z,σ=[some (.int u),some (.int v),z]/\gc u v=gc x y) (λσ _=>match σ with | [_,some (.int v),_]=>v.natAbs | _=>0) ⟨rfl,x,y,none,rfl,rfl⟩ ?_ ?_
 .rintro σ H' ⟨rfl,u,v,z,rfl,e⟩;exists _,rfl,rfl,_,rfl,?_;refine yT (λc=>?_) (λc=>?_)
  .have hv:v≠0:=by intro q;subst q;simp at c
   exists _,rfl,_,rfl,_,_,rfl,rfl,hv,_,rfl,_,rfl,⟨rfl,v,Int.fmod u v,_,rfl,(Kh u v).trans e⟩,zI hv
  .have hv:v=0:=by
    simp at c;exact c
   subst hv;exists _,rfl,_,rfl,?_;rw[<- Kx,e];exact q
 .rintro σ H Q Q' m ⟨v,h1,h2,k,h3,h4⟩;exists v,h1,h2,k,h3,m _ _ h4
theorem Y5:DZ 1 Z.f5 Z.d5 ["one","other"] (Az Z.K) "under":=by
 exists ?_,F5.b2 _ _ (by intros;rfl),F5.kp,m5
 refine F5.ok9 Xc λ_ _ _ s H _ Q E hr h=>?_;obtain⟨a,b,p,q,n,m,rfl,ha,hb,bp,bq,hn,z⟩:=h;exists _,aF (aW (fU yJ (bC cP (aK aY (pv 0) aE) (aK aY (pv 1) aE)) (bC cP (aK aY (pv 1) aE) (aK aY (pv 0) aE)) (bM _))),?_;exact eI rfl ha (cU rfl hb (cQ bp.a bq.b () () (eI rfl hb (cU rfl ha (cQ bq.a bp.b () () ⟨_,_,rfl,rfl,z⟩)))))
theorem Y6:DZ 2 Z.f6 (W.fnOf ("fraction") ("fraction") (fI nU) (eV nU) (aH nU) (.ref Z.T6) Z.kV6 Z.dc6 Z.pm6 Z.an6 Z.cd6 Z.ct6) ["top","bottom"] nA "fraction":=by
 exists ?_,b6,F6.kp,m6
 refine F6.ok9 Il λ_ _ _ s H _ Q E hr h=>?_;obtain⟨t,b,n,rfl,hb,hB,hn,q⟩:=h;refine⟨_,aC (cD (PW.pt (gP (dU (cT (d9 Y3 hr rfl (aA (pv 0) aD)))) (gP (dU (cT (d9 Y3 hr rfl (aA (pv 1) aD)))) (gS (bK dY (pv 1) aE (bM _)))))) Op bQ)
  (aC (qQ1 (i:=2) Il.nd (d9 Y4 hr rfl (aA (pv 0) (aA (pv 1) aD))))
  (aC (cD (bK yJ (pv 1) aE (bM _)) (aF (qQ1 (i:=2) Il.nd (zJ rW (pv 2)))) bQ)
  (aF (aW (dA (aA (bC kC (pv 0) (pv 2)) (aA (bC kC (pv 1) (pv 2)) aD))))))),?_⟩
 have hd:=tH (t:=t) hb;have hdB:Mq.B n (dvr t b):=hB.le (Hb hb);have c0:decide (V.int b=V.int 0)=false:=decide_eq_false (λz=>hb (by cases z;rfl));exists _,rfl,_,rfl,.inl ⟨t,rfl,_,rfl,dE ⟨_,rfl,_,rfl,.inl ⟨b,rfl,_,rfl,dE ⟨_,rfl,rfl,_,rfl,?_⟩⟩⟩⟩;rw[c0];refine dE ⟨_,rfl,_,rfl,t,b,rfl,?_⟩;exists _,rfl,_,_,rfl,rfl,_,rfl,?_;refine yT (λc=>?_) (λc=>?_)
 .have hlt:b < 0:=of_decide_eq_true c;have e:dvr t b=-gc t b:=by unfold dvr;rw[if_pos hlt]
  rw[e] at hd hdB;have q':uU H Q (t.fdiv (-gc t b),b.fdiv (-gc t b)):=by
   have z:=q;unfold red at z;rw[e] at z;exact z
  exists _,rfl,_,rfl,?_;exists _,rfl,_,rfl,?_;refine iS hd hdB hn ⟨_,rfl,_,rfl,iS hd hdB hn ⟨zl9 2,λp hp=>?_⟩⟩;exact q' p _ (aG hp _) aB
 .have hlt:¬b < 0:=λz=>c (decide_eq_true z);have e:dvr t b=gc t b:=by unfold dvr;rw[if_neg hlt]
  rw[e] at hd hdB;have q':uU H Q (t.fdiv (gc t b),b.fdiv (gc t b)):=by
   have z:=q;unfold red at z;rw[e] at z;exact z
  exists _,rfl,_,rfl,?_;refine iS hd hdB hn ⟨_,rfl,_,rfl,iS hd hdB hn ⟨zl9 2,λp hp=>?_⟩⟩;exact q' p _ (aG hp _) aB
theorem Y7:DZ 3 Z.f7 Z.d7 ["one","other"] (nX Z.K Mq.minus) "minus":=by
 exists ?_,F7.b2 _ _ (by intros;rfl),F7.kp,m7
 refine F7.ok9 Yt λ_ _ _ s H _ Q E hr h=>?_;obtain⟨a,b,p,q,n,m,rfl,ha,hb,lp,lq,bp,bq,hn,z⟩:=h;refine⟨_,aF (aW (d9 Y6 hr rfl (aA
  (bC jC (bC cP (aK aY (pv 0) aE) (aK aY (pv 1) aE)) (bC cP (aK aY (pv 1) aE) (aK aY (pv 0) aE)))
  (aA (bC cP (aK aY (pv 0) aE) (aK aY (pv 1) aE)) aD)))),?_⟩
 refine eI rfl ha (cU rfl hb (cQ bp.a bq.b () () (eI rfl hb (cU rfl ha (cQ bq.a bp.b () () ⟨_,_,rfl,rfl,?_⟩)))));refine cU rfl ha (cU rfl hb (cQ bp.b bq.b () () ⟨_,_,n+m,rfl,jE lp lq,bp.b.mul bq.b,(),z⟩))
theorem Y8:DZ 3 Z.f8 Z.d8 ["one","other"] (nX Z.K Mq.iO) "plus":=by
 exists ?_,F8.b2 _ _ (by intros;rfl),F8.kp,m8
 refine F8.ok9 qe4 λ_ _ _ s H _ Q E hr h=>?_;obtain⟨a,b,p,q,n,m,rfl,ha,hb,lp,lq,bp,bq,hn,z⟩:=h;refine⟨_,aF (aW (d9 Y6 hr rfl (aA
  (bC gF (bC cP (aK aY (pv 0) aE) (aK aY (pv 1) aE)) (bC cP (aK aY (pv 1) aE) (aK aY (pv 0) aE)))
  (aA (bC cP (aK aY (pv 0) aE) (aK aY (pv 1) aE)) aD)))),?_⟩
 refine eI rfl ha (cU rfl hb (cQ bp.a bq.b () () (eI rfl hb (cU rfl ha (cQ bq.a bp.b () () ⟨_,_,rfl,rfl,?_⟩)))));refine cU rfl ha (cU rfl hb (cQ bp.b bq.b () () ⟨_,_,n+m,rfl,jE lp lq,bp.b.mul bq.b,(),z⟩))
theorem R9:FZ CX0 1 Z.f9 Z.d9 ["self","start","goal","size"] (Da (zz3 Z)):=by
 refine F9.ok9 Xu λ_ _ _ s H _ Q E hr h=>?_;obtain⟨x,dx,k,s,g,z,rfl,hx,q⟩:=h;exists _,(aC (oE (pv 0) (pv 1) rfl) (aC (oE (pv 0) (pv 2) rfl) (aF (oE (pv 0) (pv 3) rfl)))),?_;have l1:=gJ ("start":Str) s [];have l2:=gJ ("goal":Str) g (gD "start" s []);simp only[length_nil] at l1;exists _,rfl,_,rfl,x,(zz3 Z) k,dx,[],rfl,hx,T.cl k,T.nS k,(by show 0 < 1000;decide),?_;exists _,rfl,_,rfl,x,(zz3 Z) k,dx,_,rfl,aB,T.cl k,T.nG k,(),?_;exists _,rfl,_,rfl,x,(zz3 Z) k,dx,_,rfl,aB,T.cl k,T.nZ k,(),?_;rw[qT,qT];exact q
theorem Y10:DZ 3 Z.f10 Z.d10 ["one","other"] (nX Z.K Mq.uG) "times":=by
 exists ?_,F10.b2 _ _ (by intros;rfl),F10.kp,m10
 refine F10.ok9 Xk λ_ _ _ s H _ Q E hr h=>?_;obtain⟨a,b,p,q,n,m,rfl,ha,hb,lp,lq,bp,bq,hn,z⟩:=h;refine⟨_,aF (aW (d9 Y6 hr rfl (aA
  (bC cP (aK aY (pv 0) aE) (aK aY (pv 1) aE))
  (aA (bC cP (aK aY (pv 0) aE) (aK aY (pv 1) aE)) aD)))),?_⟩
 refine eI rfl ha (eI rfl hb (cQ bp.a bq.a () () ?_));refine cU rfl ha (cU rfl hb (cQ bp.b bq.b () () ⟨_,_,n+m,rfl,jE lp lq,bp.b.mul bq.b,(),z⟩))
theorem Y11:DZ 3 Z.f11 Z.d11 ["one","other"] (Bo Z.K) "over":=by
 exists ?_,F11.b2 _ _ (by intros;rfl),F11.kp,m11
 refine F11.ok9 qb0 λ_ _ _ s H _ Q E hr h=>?_;obtain⟨a,b,p,q,n,m,rfl,ha,hb,lp,lq,h0,bp,bq,hn,z⟩:=h;refine⟨_,(aC (cD (bK dY (aK aY (pv 1) aE) aE (bM _)) (aF iE) bQ)
  (aF (aW (d9 Y6 hr rfl (aA (bC cP (aK aY (pv 0) aE) (aK aY (pv 1) aE)) (aA (bC cP (aK aY (pv 0) aE) (aK aY (pv 1) aE)) aD)))))),?_⟩
 refine eI rfl hb ⟨rfl,_,rfl,?_⟩;rw[decide_eq_false (λe=>absurd (show q.1=0 by injection e) ())];refine dE ?_;refine eI rfl ha (cU rfl hb (cQ bp.a bq.b () () ?_));exact cU rfl ha (eI rfl hb (cQ bp.b bq.a () () ⟨_,_,n+m,rfl,Mq.vX lp (),bp.b.mul bq.a,(),z⟩))
theorem Y12:DZ 4 Z.f12 Z.d12 ["some"] (Hl Z.K) "total":=by
 exists ?_,F12.b1 _ (by intros;rfl),F12.kp,m12
 refine F12.ok9 vD λcdv A outer s H vs Q E hr h=>?_;obtain⟨a,xs,ps,w0,rfl,hS,hF,hP,hW,hn,z⟩:=h;refine⟨_,aC (qQ1 (i:=1) vD.nd (fL (v:=.ref Z.aN) rfl mv_NOUGHT rfl))
  (aC (eO PassesOwn.never rfl (cG (pv 0)) (qQ0 (i:=2) vD.nd) (aF (qQ1 (i:=1) vD.nd (d9 Y8 hr rfl (aA (pv 1) (aA (pv 2) aD))))))
  (aF (aW (pv 1)))),?_⟩
 have hl:=hF.length;exists _,rfl,a,rfl,⟨_,hS⟩,?_;refine eU (xs:=xs) (λi σ H'=>aX H H'/\∃r y,σ=[some (.ref a),some (.ref r),y]/\Fq Z.K H' r (tot (ps.take i))) ⟨aX.refl H,Z.aN,none,rfl,fN H⟩ (λi σ H' _ h=>h.1.seq hS) ?_ ?_
 .rintro i x σ H' hx ⟨sH,r,y,rfl,er⟩;obtain⟨ap,p,rfl,hp,fp⟩:=hF.get hx;have hi:i < ps.length:=(wq.mp hp).1;have mem:p∈ps:=mem_of_getElem? hp;have pt:Mq.Pos (ps.take i):=λf hf=>hP f (mem_of_mem_take hf);obtain⟨w',n,hw',bn,hle⟩:=hW.at hp;have bt:=hw'.tot pt;exists _,rfl,_,rfl,r,ap,tot (ps.take i),p,_,n,rfl,er,sH.fq fp,(vJ pt).pos,hP p mem,bt,bn,(),λa1 H1 s1 e1=>?_;exists sH.trans s1,a1,_,rfl,?_;have ee:ps.take (i+1)=ps.take i++[p]:=by rw[take_add_one,hp];rfl
  have et:tot (ps.take (i+1))=iO (tot (ps.take i)) p:=by
   rw[ee];unfold tot;rw[foldl_append];rfl
  rw[et];exact Fq.of e1
 .rintro σ H' ⟨sH,r,y,rfl,er⟩;exists _,rfl,?_;refine z r H' sH ?_;rw[hl,take_length] at er;exact er
theorem Y13:DZ 2 Z.f13 Z.d13 ["thing"] (Iu Z.K) "is_fraction":=by
 exists ?_,F13.b1 _ (by intros;rfl),F13.kp,m13
 refine F13.ok9 qp1 λ_ _ _ s H _ Q E hr h=>?_;obtain⟨v,o,rfl,hz,q⟩:=h;refine⟨_,(aC (cD (PW.pt (gP (dU (cT (gL (i:=0) rfl (Or.inl rfl) bl.isi n_tuple rfl rfl PyProof.Rows.boot_tuple))) (gS (bK jL (cB bV rfl n_len PySem.boot_len (aA (pv 0) aD)) aE (bM _))))) (aF (aW fD)) bQ)
  (aC (cD (PW.pt (gP (dU (cT (d9 Y3 hr rfl (aA (aK aY (pv 0) aE) aD)))) (gS (dU (cT (d9 Y3 hr rfl (aA (aK aY (pv 0) aE) aD))))))) (aF (aW fD)) bQ)
  (aF (aW (kT (fU Ma (aK aY (pv 0) aE) aE (bM _)) (oX (fU dY (d9 Y4 hr rfl (aA (aK aY (pv 0) aE) (aA (aK aY (pv 0) aE) aD))) aE (bM _)))))))),?_⟩
 cases hz with
 |fr fa hp=>
  exists _,_,true,rfl,.tup fa,rfl,_,rfl,dE ⟨_,rfl,_,_,rfl,.inr fa,rfl,_,rfl,dE ?_⟩;refine eI rfl fa ⟨_,rfl,.inl ⟨_,rfl,_,rfl,dE (cU rfl fa ⟨_,rfl,.inl ⟨_,rfl,_,rfl,dE ?_⟩⟩)⟩⟩;have h1:=hp.pos;refine cU rfl fa ⟨_,_,rfl,rfl,_,rfl,ifT (decide_eq_true ()) (eI rfl fa (cU rfl fa ⟨_,_,rfl,rfl,?_⟩))⟩;rw[hp.one];exact q
 |ty h n=>exact⟨_,_,false,rfl,h,n,_,rfl,eY q⟩
 |len h=>exact⟨_,_,true,rfl,.tup h,rfl,_,rfl,dE ⟨_,rfl,_,_,rfl,.inr h,rfl,_,rfl,eY q⟩⟩
 |n0 h ty n=>
  exists _,_,true,rfl,.tup h,rfl,_,rfl,dE ⟨_,rfl,_,_,rfl,.inr h,rfl,_,rfl,dE ?_⟩;exists _,rfl,_,_,0,_,rfl,rfl,h,rfl,_,rfl,.inr ⟨_,ty,n,_,rfl,eY q⟩
 |n1 h ty n=>
  exists _,_,true,rfl,.tup h,rfl,_,rfl,dE ⟨_,rfl,_,_,rfl,.inr h,rfl,_,rfl,dE ?_⟩;exists _,rfl,_,_,0,_,rfl,rfl,h,rfl,_,rfl,.inl ⟨_,rfl,_,rfl,dE ⟨_,rfl,_,_,1,_,rfl,rfl,h,rfl,_,rfl,.inr ⟨_,ty,n,_,rfl,eY q⟩⟩⟩
 |fb fa c=>
  exists _,_,true,rfl,.tup fa,rfl,_,rfl,dE ⟨_,rfl,_,_,rfl,.inr fa,rfl,_,rfl,dE ?_⟩;refine eI rfl fa ⟨_,rfl,.inl ⟨_,rfl,_,rfl,dE (cU rfl fa ⟨_,rfl,.inl ⟨_,rfl,_,rfl,dE ?_⟩⟩)⟩⟩;rcases c with c | ⟨c,d⟩
  .exact cU rfl fa ⟨_,_,rfl,rfl,_,rfl,ifF (decide_eq_false ()) q⟩
  .refine cU rfl fa ⟨_,_,rfl,rfl,_,rfl,ifT (decide_eq_true c) (eI rfl fa (cU rfl fa ⟨_,_,rfl,rfl,?_⟩))⟩;rw[decide_eq_false (λe=>d (by injection e))];exact q
theorem R14:FZ CX0 1 Z.f14 Z.d14 ["self"] (mZ Kd.pc):=by
 refine F14.ok9 Ot λ_ _ _ s H _ Q E hr h=>?_;obtain⟨x,rfl,q⟩:=h;exists _,(aF (aW cL)),q
theorem R15:FZ CX0 1 Z.f15 Z.d15 ["self"] (mZ Kd.pu):=by
 refine F15.ok9 Oa λ_ _ _ s H _ Q E hr h=>?_;obtain⟨x,rfl,q⟩:=h;exists _,(aF (aW cL)),q
theorem R16:FZ CX0 1 Z.f16 Z.d16 ["self"] (mZ Kd.ho):=by
 refine F16.ok9 Oh λ_ _ _ s H _ Q E hr h=>?_;obtain⟨x,rfl,q⟩:=h;exists _,(aF (aW cL)),q
theorem GW:∀k:Kd,aL Z.P Z.w Z.K Z.mg ZB CX0 1 (kd3 Z.f14 Z.f15 Z.f16 k) (kd3 Z.d14 Z.d15 Z.d16 k) ["self"] (mZ k):=kF (R14) (R15) (R16)
theorem bW:∀k:Kd,aP Z.K (kd3 Z.d14 Z.d15 Z.d16 k) ["self"] []:=kF (b14) (b15) (b16)
theorem mW:∀k:Kd,iG Z.K (zz3 Z k) ("word") (kd3 Z.f14 Z.f15 Z.f16 k):=kF (⟨a14_0,i14,F14.kp⟩) (⟨a15_0,i15,F15.kp⟩) (⟨a16_0,i16,F16.kp⟩)
theorem R17:FZ CX0 1 Z.f17 Z.d17 ["self"] (pB Kd.pc):=by
 refine F17.ok9 Hd λ_ _ _ s H _ Q E hr h=>?_;obtain⟨x,rfl,q⟩:=h;exists _,(aF (aW fD)),q
theorem R18:FZ CX0 1 Z.f18 Z.d18 ["self"] (pB Kd.pu):=by
 refine F18.ok9 Jn λ_ _ _ s H _ Q E hr h=>?_;obtain⟨x,rfl,q⟩:=h;exists _,(aF (aW fD)),q
theorem R19:FZ CX0 1 Z.f19 Z.d19 ["self"] (pB Kd.ho):=by
 refine F19.ok9 Kf λcdv A outer s H vs Q E hr h=>?_;obtain⟨x,rfl,q⟩:=h;exists _,(aF (aW fD)),q
theorem GJ:∀k:Kd,aL Z.P Z.w Z.K Z.mg ZB CX0 1 (kd3 Z.f17 Z.f18 Z.f19 k) (kd3 Z.d17 Z.d18 Z.d19 k) ["self"] (pB k):=kF (R17) (R18) (R19)
theorem bJ:∀k:Kd,aP Z.K (kd3 Z.d17 Z.d18 Z.d19 k) ["self"] []:=kF (b17) (b18) (b19)
theorem mJ:∀k:Kd,iG Z.K (zz3 Z k) ("joins") (kd3 Z.f17 Z.f18 Z.f19 k):=kF (⟨a17_0,i17,F17.kp⟩) (⟨a18_0,i18,F18.kp⟩) (⟨a19_0,i19,F19.kp⟩)
theorem R20:FZ CX0 2 Z.f20 Z.d20 ["self"] (vB (zz3 Z)):=by
 refine F20.ok9 Xa λ_ _ _ s H _ Q E hr h=>?_;obtain⟨x,k,s,g,z,rfl,⟨dx,hx⟩,q⟩:=h;exists _,(aF (aW (dA (aA (iL (pv 0) T.cl mW GW hr bW .nil aQ) (aA (cK (pv 0) rfl) (aA (cK (pv 0) rfl) (aA (cK (pv 0) rfl) aD))))))),?_;exists _,rfl,k,x,dx,_,rfl,hx,(gH _ _ _ ∅ ∅ ∅),_,rfl,?_;exists _,rfl,x,(zz3 Z) k,dx,_,_,rfl,hx,T.cl k,T.nS k,eX _ _ _,?_;exists _,rfl,x,(zz3 Z) k,dx,_,_,rfl,hx,T.cl k,T.nG k,fQ _ _ _,?_;exists _,rfl,x,(zz3 Z) k,dx,_,_,rfl,hx,T.cl k,T.nZ k,hG _ _ _,?_;exists zl9 4,q
theorem mT:∀k:Kd,iG Z.K (zz3 Z k) ("told") Z.f20:=kF (⟨a20_0,i20,F20.kp⟩) (⟨a20_1,i20,F20.kp⟩) (⟨a20_2,i20,F20.kp⟩)
theorem Y21:DZ 3 Z.f21 Z.d21 ["told"] (oV Z.K (zz3 Z)) "row_of":=by
 exists ?_,F21.b1 _ (by intros;rfl),F21.kp,m21
 refine F21.ok9 Ld λ_ _ _ s H _ Q E hr h=>?_;obtain⟨t,v,s,g,z,rfl,hT,k,rfl,q⟩:=h;refine⟨_,(aC (qQ1 (i:=1) Ld.nd (aK aY (pv 0) aE))
  (aC (cD (PW.pt (kY (cT (gL (i:=1) rfl (Or.inl rfl) bl.isi n_str rfl rfl PyProof.Rows.boot_str)) (jI (bK dY (pv 1) cL (bM _))))) (aF (aW (vG (MK .pc) R9 hr rfl (T.mK .pc) b9 .nil aQ (aA (aK aY (pv 0) aE) (aA (aK aY (pv 0) aE) (aA (aK aY (pv 0) aE) aD)))))) bQ)
  (aC (cD (PW.pt (kY (cT (gL (i:=1) rfl (Or.inl rfl) bl.isi n_str rfl rfl PyProof.Rows.boot_str)) (jI (bK dY (pv 1) cL (bM _))))) (aF (aW (vG (MK .pu) R9 hr rfl (T.mK .pu) b9 .nil aQ (aA (aK aY (pv 0) aE) (aA (aK aY (pv 0) aE) (aA (aK aY (pv 0) aE) aD)))))) bQ)
  (aC (cD (PW.pt (kY (cT (gL (i:=1) rfl (Or.inl rfl) bl.isi n_str rfl rfl PyProof.Rows.boot_str)) (jI (bK dY (pv 1) cL (bM _))))) (aF (aW (vG (MK .ho) R9 hr rfl (T.mK .ho) b9 .nil aQ (aA (aK aY (pv 0) aE) (aA (aK aY (pv 0) aE) (aA (aK aY (pv 0) aE) aD)))))) bQ)
  (aF iE))))),?_⟩
 cases k
 .refine Yh (λ_ _=>False) (λX _=>?_) (λ_ _ h=>h.elim);exists _,rfl,t,_,0,_,rfl,rfl,hT,rfl,?_;exists _,_,true,rfl,.of (.str _),rfl,_,rfl,eY ⟨_,rfl,rfl,_,rfl,ifT (dM .pc .pc) ⟨_,rfl,t,_,1,s,rfl,rfl,hT,rfl,_,rfl,t,_,2,g,rfl,rfl,hT,rfl,_,rfl,t,_,3,z,rfl,rfl,hT,rfl,λx dx h1 h2 ne=>⟨x,dx,.pc,s,g,z,rfl,aB,rfl,by rw[qT];exact q x _ (Rw.new h1 h2 ne) h1 ⟨dx,aB⟩⟩⟩⟩
 .refine qm9 (λ_ _=>False) (λX _=>?_) (λ_ _ h=>h.elim);exists _,rfl,t,_,0,_,rfl,rfl,hT,rfl,?_;exists _,_,true,rfl,.of (.str _),rfl,_,rfl,eY ⟨_,rfl,rfl,_,rfl,ifF (dM .pu .pc) (⟨_,_,true,rfl,.of (.str _),rfl,_,rfl,eY ⟨_,rfl,rfl,_,rfl,ifT (dM .pu .pu) ⟨_,rfl,t,_,1,s,rfl,rfl,hT,rfl,_,rfl,t,_,2,g,rfl,rfl,hT,rfl,_,rfl,t,_,3,z,rfl,rfl,hT,rfl,λx dx h1 h2 ne=>⟨x,dx,.pu,s,g,z,rfl,aB,rfl,by rw[qT];exact q x _ (Rw.new h1 h2 ne) h1 ⟨dx,aB⟩⟩⟩⟩⟩)⟩
 .refine qq8 (λ_ _=>False) (λX _=>?_) (λ_ _ h=>h.elim);exists _,rfl,t,_,0,_,rfl,rfl,hT,rfl,?_;exists _,_,true,rfl,.of (.str _),rfl,_,rfl,eY ⟨_,rfl,rfl,_,rfl,ifF (dM .ho .pc) (⟨_,_,true,rfl,.of (.str _),rfl,_,rfl,eY ⟨_,rfl,rfl,_,rfl,ifF (dM .ho .pu) (⟨_,_,true,rfl,.of (.str _),rfl,_,rfl,eY ⟨_,rfl,rfl,_,rfl,ifT (dM .ho .ho) ⟨_,rfl,t,_,1,s,rfl,rfl,hT,rfl,_,rfl,t,_,2,g,rfl,rfl,hT,rfl,_,rfl,t,_,3,z,rfl,rfl,hT,rfl,λx dx h1 h2 ne=>⟨x,dx,.ho,s,g,z,rfl,aB,rfl,by rw[qT];exact q x _ (Rw.new h1 h2 ne) h1 ⟨dx,aB⟩⟩⟩⟩⟩)⟩⟩)⟩
theorem R22:FZ CX0 4 Z.f22 Z.d22 ["self","fall","held"] (sG Z.K (zz3 Z) Kd.pc):=by
 refine F22.ok9 Gb λ_ _ _ s H _ Q E hr h=>?_;obtain⟨x,z,a,h,s,g,p,u,v,n,m,rfl,⟨dx,hx⟩,fz,fa,fh,hp,hu,bp,bu,hn,h0,q⟩:=h;exists _,(aF (aW (d9 Y11 hr rfl (aA (pv 1) (aA (cK (pv 0) rfl) aD))))),?_;exists _,rfl,_,rfl,x,(zz3 Z) .pc,dx,_,_,rfl,hx,T.cl _,T.nZ _,hG _ _ _,a,z,u,p,m,n,rfl,fa,fz,hu,hp,h0 rfl,bu,bp,(),λr H1 s1 e1=>q r H1 s1 (Fq.of e1)
theorem R23:FZ CX0 4 Z.f23 Z.d23 ["self","fall","held"] (sG Z.K (zz3 Z) Kd.pu):=Ci (P:=Z.P) (w:=Z.w) (mg:=Z.mg) (base:=ZB) (CX:=CX0) F23 T
theorem R24:FZ CX0 4 Z.f24 Z.d24 ["self","fall","held"] (sG Z.K (zz3 Z) Kd.ho):=Ca (P:=Z.P) (w:=Z.w) (mg:=Z.mg) (base:=ZB) (CX:=CX0) F24 T
theorem GS:∀k:Kd,aL Z.P Z.w Z.K Z.mg ZB CX0 4 (kd3 Z.f22 Z.f23 Z.f24 k) (kd3 Z.d22 Z.d23 Z.d24 k) ["self","fall","held"] (sG Z.K (zz3 Z) k):=kF (R22) (R23) (R24)
theorem bS:∀k:Kd,aP Z.K (kd3 Z.d22 Z.d23 Z.d24 k) ["self","fall","held"] []:=kF (b22) (b23) (b24)
theorem mS:∀k:Kd,iG Z.K (zz3 Z k) ("stream") (kd3 Z.f22 Z.f23 Z.f24 k):=kF (⟨a22_0,i22,F22.kp⟩) (⟨a23_0,i23,F23.kp⟩) (⟨a24_0,i24,F24.kp⟩)
theorem X1:D9 Z.P Z.w Z.K Z.mg ZB 2 Z.f13 Z.d13 ["thing"] (Kz Z.K) "is_fraction":=⟨Ee Y13.G,Y13.b,F13.kp,m13⟩
theorem Y25:DZ 3 Z.f25 Z.d25 ["thing"] (qf2 Z.K) "is_piece_size":=by
 exists ?_,F25.b1 _ (by intros;rfl),F25.kp,m25
 refine F25.ok9 qu8 λ_ _ _ s H _ Q E hr h=>?_;obtain⟨a,p,n,rfl,fa,hp,h0,hb,hn,q⟩:=h;have r1:=hr.mono (show 1<=2 by lia);exists _,(aF (aW (kT (d9 X1 hr rfl (aA (pv 0) aD)) (oX (d9 Y5 r1 rfl (aA (fL (v:=.ref Z.aN) rfl mv_NOUGHT rfl) (aA (pv 0) aD))))))),?_;exists _,rfl,a,p,rfl,fa,hp,_,rfl,eY ⟨_,rfl,Z.aN,a,_,p,1,n,rfl,fN _,fa,⟨show (0:Nat) < 2 ^ 1 by decide,show (1:Nat) < 2 ^ 1 by decide⟩,hb,(),?_⟩;rw[decide_eq_true (show (0:Int)*p.2 < p.1*1 by lia)];exact q
theorem Y26:DZ 2 Z.f26 Z.d26 ["thing","bound"] Wv "is_number_below":=by
 exists ?_,F26.b2 _ _ (by intros;rfl),F26.kp,m26
 refine F26.ok9 qs8 λ_ _ _ s H _ Q E hr h=>?_;obtain⟨i,b',rfl,h0,h1,q⟩:=h;exists _,(aF (aW (kT (d9 Y3 hr rfl (aA (pv 0) aD)) (kT (fU Ma (pv 0) aE (bM _)) (oX (fU yJ (pv 0) (pv 1) (bM _))))))),?_;exists _,rfl,_,rfl,.inl ⟨i,rfl,_,rfl,eY ⟨_,rfl,_,_,rfl,rfl,_,rfl,ifT (decide_eq_true h0) ⟨_,rfl,_,rfl,_,_,rfl,rfl,?_⟩⟩⟩;show Q (.bl (decide (i < b'))) H;rw[decide_eq_true h1];exact q
theorem Y27:DZ 4 Z.f27 Z.d27 ["word","size"] (Yj Z.K) "refuse_size":=by
 exists ?_,F27.b2 _ _ (by intros;rfl),F27.kp,m27
 refine F27.ok9 qv0 λ_ _ _ s H _ Q E hr h=>?_;obtain⟨k,z,p,rfl,fz,hp,h0,hb,q⟩:=h;have r2:=hr.mono (show 2<=3 by lia);refine⟨_,(aC (cD (dU (cT (d9 X1 r2 rfl (aA (pv 1) aD)))) (aF iE) bQ)
  (aF (cD (PW.pt (kY (bK dY (pv 0) cL (bM _)) (jI (dU (cT (d9 Y25 hr rfl (aA (pv 1) aD))))))) (aF iE) bQ))),?_⟩
 exists _,rfl,z,p,rfl,fz,hp,_,rfl,dE ?_
 cases k
 .exists _,rfl,rfl,_,rfl,ifT (dM .pc .pc) ⟨_,rfl,z,p,_,rfl,fz,hp,h0 rfl,hb,(),_,rfl,dE q⟩
 .exists _,rfl,rfl,_,rfl,ifF (dM .pu .pc) (dE q)
 .exists _,rfl,rfl,_,rfl,ifF (dM .ho .pc) (dE q)
theorem Y28:DZ 3 Z.f28 Z.d28 ["some","many"] (qg1 Z.K) "refuse_points":=by
 exists ?_,F28.b2 _ _ (by intros;rfl),F28.kp,m28
 refine F28.ok9 qs3 λ_ _ _ s H _ Q E hr h=>?_;obtain⟨l,i,j,m,rfl,hl,i0,i1,j0,j1,q⟩:=h;refine⟨_,(aF (cD (dU (cT (cB (rQ rfl) rfl n_all PyProof.Rows.boot_all (aA (dD (nl:=1) (fr:=[1]) (Nc:=["point","many"]) (cl:=[("many",s.heap.objs.size+1)]) rfl ⟨rfl,rfl,∅,∅,λx c h=>h,dI rfl,rfl,λi n h=>match i,h with | 0,h=>by cases h;exact⟨1,rfl,rfl,rfl,rfl,.inl rfl⟩ | k+1,h=>by rw[show 1+(k+1)=k+2 by lia] at h;cases h⟩
    (cG (pv 0)) (λ_ _ _ _ _=>(qQ0 (i:=0) zA)) (λ_ _ _ _ _=>dC)
    (λ_ _ _ _ _=>(d9 Y26 hr rfl (aA (pv 0) (aA (pv 1) aD))))) aD)))) (aF iE) bQ)),?_⟩
 exists _,rfl,l,rfl,⟨_,hl⟩,λD hD=>?_;refine clS hD (xs:=[.int i,.int j]) (λk zs H'=>zs=(replicate k true).map V.bl) rfl (λ_ h=>h.seq hl) ?_ ?_
 .rintro k zs x H1 hx ⟨s1,e1,rfl⟩ C hC;have hk:k < 2:=(wq.mp hx).1;obtain⟨y,rfl,y0,y1⟩:∃y,x=.int y/\0<=y/\y < m:=by
   rcases mem_cons.mp (mem_of_getElem? hx) with z | z
   .exists i,z,i0,i1
   .exists j,by simpa using z,j0,j1
  exists cZ.1,cZ.2,eY ?_;exists _,rfl,_,rfl,y,m,rfl,y0,y1,e1,bH (by rw[length_map,length_replicate];lia),hC _ _ ⟨s1.change hD,aB,?_⟩;rw[replicate_succ',map_append];rfl
 .rintro zs H1 ⟨s1,e1,rfl⟩;exists D,_,rfl,SqL.of e1,_,rfl,ifF ?_ ?_
  .simp
  .exact q _ s1
theorem Y29:DZ 3 Z.f29 Z.d29 ["k","count"] qk4 "refuse_number":=by
 exists ?_,F29.b2 _ _ (by intros;rfl),F29.kp,m29
 refine F29.ok9 qt8 λ_ _ _ s H _ Q E hr h=>?_;obtain⟨k,c,rfl,u0,u1,q⟩:=h;exists _,(aF (cD (dU (cT (d9 Y26 hr rfl (aA (pv 0) (aA (pv 1) aD))))) (aF iE) bQ)),?_;exists _,rfl,_,rfl,k,c,rfl,u0,u1,_,rfl,dE q
theorem R30:FZ CX0 2 Z.f30 Z.d30 ["self","many"] (Bv Z.c_Net):=by
 refine F30.ok9 Wy λ_ _ _ s H _ Q E hr h=>?_;obtain⟨n,dx,m,rfl,hn,h1,h20,q⟩:=h;refine⟨_,(aC (cD (PW.pt (gP (dU (cT (d9 Y3 hr rfl (aA (pv 1) aD)))) (gP (bK yJ (pv 1) aE (bM _)) (gS (bK uL (pv 1) (fL (v:=.int 20) rfl mv_MOST_POINTS ⟨_,rfl⟩) (bM _)))))) (aF iE) bQ)
  (aC (oE (pv 0) (pv 1) rfl)
  (aF (oE (pv 0) (dZ aD) rfl)))),?_⟩
 exists _,rfl,_,rfl,.inl ⟨m,rfl,_,rfl,dE ⟨_,rfl,_,_,rfl,rfl,_,rfl,ifF (decide_eq_false ()) ⟨_,rfl,_,_,rfl,rfl,_,rfl,ifF (decide_eq_false ()) ?_⟩⟩⟩;exists _,rfl,_,rfl,n,Z.c_Net,dx,[],rfl,hn,NTx.cl,NTx.nP,(by show 0 < 1000;decide),?_;exists zl9 0,λl hl=>?_;have nl:n≠l:=λz=>by subst z;rw[aB] at hl;cases hl
 have hl0:H l=none:=by rw[aV (Ne.symm nl)] at hl;exact hl
 have l1:=gJ ("point_count":Str) (.int m) [];simp only[length_nil] at l1;exists _,rfl,n,Z.c_Net,dx,gD "point_count" (.int m) [],rfl,by rw[aV nl];exact aB,NTx.cl,NTx.nK,(),?_;refine q l _ hl0 (λb o e hb=>?_) aB (by rw[aV (Ne.symm nl)];exact aB);rw[aV hb,aV (bL e hl0),aV hb];exact e
theorem R31:FZ CX0 1 Z.f31 Z.d31 ["self"] (xD Z.c_Net Z.K):=by
 refine F31.ok9 qb2 λ_ _ _ s H _ Q E hr h=>?_;obtain⟨n,l,m,ds,rfl,⟨⟨dx,hn⟩,ts,hl,hr'⟩,q⟩:=h;exists _,(aF (aW (cK (pv 0) rfl))),_,rfl,n,Z.c_Net,dx,_,_,rfl,hn,NTx.cl,NTx.nP,Gk _ _,q
theorem R32:FZ CX0 1 Z.f32 Z.d32 ["self"] (Cv Z.c_Net Z.K):=by
 refine F32.ok9 Xw λ_ _ _ s H _ Q E hr h=>?_;obtain⟨n,l,m,ds,rfl,⟨⟨dx,hn⟩,ts,hl,hr'⟩,q⟩:=h;exists _,(aF (aW (iA iB rfl n_list PyProof.Rows.boot_list (aA (cK (pv 0) rfl) aD)))),_,rfl,n,Z.c_Net,dx,_,_,rfl,hn,NTx.cl,NTx.nK,gY _ _,l,ts,rfl,.inl (SqL.of hl),λa ha=>?_;have sa:=aG ha (.lst ts);exact q a ts _ sa ha aB (hr'.same sa)
theorem R33:FZ CX0 5 Z.f33 Z.d33 ["self","row"] (Mf Z.c_Net Z.K (zz3 Z)):=by
 refine F33.ok9 qa3 λ_ _ _ s H _ Q E hr h=>?_;obtain⟨n,l,x,z,m,ds,k,i,j,p,rfl,⟨⟨dx,hn⟩,ts,hl,hR⟩,rw,fz,⟨i0,i1,j0,j1,lp,h0,bp⟩,h40,q⟩:=h;have r2:=hr.mono (show 2<=4 by lia);have r3:=hr.mono (show 3<=4 by lia);refine⟨_,(aC (qQ1 (i:=2) qa3.nd (iL (f:=λ_=>Z.f20) (fd:=λ_=>Z.d20) (sp:=λ_=>vB (zz3 Z)) (pv 1) T.cl mT (λ_=>R20) r2 (λ_=>b20) .nil aQ))
  (aC (cC (d9 Y28 r3 rfl (aA (dZ (aA (aK aY (pv 2) aE) (aA (aK aY (pv 2) aE) aD))) (aA (cK (pv 0) rfl) aD))))
  (aC (cC (d9 Y27 hr rfl (aA (aK aY (pv 2) aE) (aA (aK aY (pv 2) aE) aD))))
  (aC (cD (bK Ma (cB bV rfl n_len PySem.boot_len (aA (cK (pv 0) rfl) aD)) (fL (v:=.int 40) rfl mv_MOST_ROWS ⟨_,rfl⟩) (bM _)) (aF iE) bQ)
  (aC (cC (mH PySem.F.plainAttrs_list PySem.F.slot_list_append PySem.F.type_list_append eQ (cK (pv 0) rfl) (aA (pv 2) aD)))
  (aF (aW (bC jC (cB bV rfl n_len PySem.boot_len (aA (cK (pv 0) rfl) aD)) aE)))))))),?_⟩
 obtain⟨dr,hx⟩:=id rw;have len:=hR.length;exists _,rfl,k,x,dr,_,rfl,hx,(gH _ _ _ ∅ ∅ ∅),x,k,_,_,_,rfl,rw,λt ht=>?_;obtain⟨H1a,zq,st,et⟩:=nw ht (.tup [.str k.wd,.int i,.int j,.ref z]);rw[zq];have et:SqT Z.K H1a t [.str k.wd,.int i,.int j,.ref z]:=SqT.of et;have hn1:=st _ _ hn;have hl1:=st _ _ hl;exists _,rfl,t,_,1,_,rfl,rfl,et,rfl,_,rfl,t,_,2,_,rfl,rfl,et,rfl,zl9 2,λlq hlq=>?_;obtain⟨H1b,zq,sq,eq⟩:=nw hlq (.lst [.int i,.int j]);rw[zq];have hnb:=sq _ _ hn1;exists _,rfl,n,Z.c_Net,dx,_,_,rfl,hnb,NTx.cl,NTx.nP,Gk _ _,lq,i,j,m,rfl,SqL.of eq,i0,i1,j0,j1,λH1 sc=>?_;have sqc:=sq.trans sc;have st:=st.trans sqc;have et:=sqc.seqT et;have hn1:=sqc _ _ hn1;have hl1:=sqc _ _ hl1;exists _,rfl,t,_,0,_,rfl,rfl,et,rfl,_,rfl,t,_,3,_,rfl,rfl,et,rfl,k,z,p,rfl,st.fq fz,lp,h0,bp,?_;exists _,rfl,n,Z.c_Net,dx,_,_,rfl,hn1,NTx.cl,NTx.nK,gY _ _,l,ts,rfl,.inl (SqL.of hl1),_,_,rfl,rfl,_,rfl,ifF (decide_eq_false ()) ?_;exists _,rfl,n,Z.c_Net,dx,_,_,rfl,hn1,NTx.cl,NTx.nK,gY _ _,.inl ⟨rfl,_,SqL.of hl1⟩,_,rfl,l,ts,.ref t,rfl,rfl,hl1,bH (),?_;have nn:n≠l:=gX hn1 hl1 (λz=>by cases z);have hn2:upd H1 l (.lst (ts++[.ref t])) n=some (.ins Z.c_Net dx (pL m l)):=by rw[aV nn];exact hn1
 have hl2:upd H1 l (.lst (ts++[.ref t])) l=some (.lst (ts++[.ref t])):=aB;exists _,rfl,n,Z.c_Net,dx,_,_,rfl,hn2,NTx.cl,NTx.nK,gY _ _,l,_,rfl,.inl (SqL.of hl2),_,_,rfl,rfl,?_;show Q (.int (((ts++[V.ref t]).length:Int) - 1)) _;rw[xj,length_singleton,len,show (((ds.length+1:Nat):Int) - 1)=(ds.length:Int) by lia];refine q _ (st.x.write) ⟨⟨dx,hn2⟩,_,hl2,Rts.upd hl1 ((hR.same st).app (.cons et (st.fq fz) .nil))⟩
theorem R34:FZ CX0 5 Z.f34 Z.d34 ["self","k","size"] (wO Z.c_Net Z.K):=by
 refine F34.ok9 El λcdv A outer s H vs Q E hr h=>?_;obtain⟨n,l,z,m,q',ds,k,i,j,p0,p,rfl,⟨⟨dx,hn⟩,ts,hl,hR⟩,q0,hq,fz,lp,h0,bp,q⟩:=h;have r2:=hr.mono (show 3<=4 by lia);refine⟨_,(aC (cC (d9 Y29 r2 rfl (aA (pv 1) (aA (cB bV rfl n_len PySem.boot_len (aA (cK (pv 0) rfl) aD)) aD))))
  (aC (qQ1 (i:=3) El.nd (aK bX (cK (pv 0) rfl) (pv 1)))
  (aC (cC (d9 Y27 hr rfl (aA (aK aY (pv 3) aE) (aA (pv 2) aD))))
  (aF (jD (dA (aA (aK aY (pv 3) aE) (aA (aK aY (pv 3) aE) (aA (aK aY (pv 3) aE) (aA (pv 2) aD))))) (qK (cK (pv 0) rfl) (pv 1) jW)))))),?_⟩
 have len:=hR.length;have lt:q'.toNat < ds.length:=(wq.mp hq).1;obtain⟨t,z0,et,ht,_⟩:=hR.at hq;have at_:atI ts q'=some (.ref t):=by
  have:=cA et
  rwa [show ((q'.toNat:Nat):Int)=q' by lia] at this
 have ix_:ixN ts.length q'=some q'.toNat:=by
  have:=mY (n:=ts.length) (k:=q'.toNat) ()
  rwa [show ((q'.toNat:Nat):Int)=q' by lia] at this
 exists _,rfl,_,rfl,n,Z.c_Net,dx,_,_,rfl,hn,NTx.cl,NTx.nK,gY _ _,l,ts,rfl,.inl (SqL.of hl),q',_,rfl,q0,(),?_;exists _,rfl,n,Z.c_Net,dx,_,_,rfl,hn,NTx.cl,NTx.nK,gY _ _,_,rfl,l,ts,q',_,rfl,rfl,SqL.of hl,at_,?_;exists _,rfl,t,_,0,_,rfl,rfl,ht,rfl,_,rfl,k,z,p,rfl,fz,lp,h0,bp,?_;exists _,rfl,t,_,0,_,rfl,rfl,ht,rfl,_,rfl,t,_,1,_,rfl,rfl,ht,rfl,_,rfl,t,_,2,_,rfl,rfl,ht,rfl,_,rfl,zl9 4,λu hu=>?_;obtain⟨H1,zq,su,eu⟩:=nw hu (.tup [.str k.wd,.int i,.int j,.ref z]);rw[zq];have eu:SqT Z.K H1 u [.str k.wd,.int i,.int j,.ref z]:=SqT.of eu;have hn1:=su _ _ hn;have hl1:=su _ _ hl;exists _,rfl,n,Z.c_Net,dx,_,_,rfl,hn1,NTx.cl,NTx.nK,gY _ _,_,rfl,l,ts,q',q'.toNat,rfl,rfl,hl1,ix_,?_;have nn:n≠l:=gX hn1 hl1 (λz=>by cases z);refine q _ (su.x.write) ⟨⟨dx,by rw[aV nn];exact hn1⟩,_,aB,Rts.upd hl1 (Rts.set eu (su.fq fz) _ (hR.same su))⟩
theorem R35:FZ CX0 4 Z.f35 Z.d35 ["self"] (pW Z.c_Net Z.K (zz3 Z)):=by
 refine F35.ok9 qj1 λ_ _ _ s H _ Q E hr h=>?_;obtain⟨n,l,m,ds,rfl,⟨⟨dx,hn⟩,ts,hl,hR⟩,h100,q⟩:=h;refine⟨_,(aF (aW (dD (nl:=1) (fr:=[]) (Nc:=["told"]) (cl:=[]) rfl ⟨rfl,rfl,∅,∅,λx c h=>(by cases h),dI rfl,rfl,λi n h=>(by simp at h)⟩
    (cG (cK (pv 0) rfl)) (λ_ _ _ _ _=>(qQ0 (i:=0) Xn)) (λ_ _ _ _ _=>dC)
    (λ_ _ _ _ _=>(d9 Y21 hr rfl (aA (pv 0) aD)))))),?_⟩
 have len:=hR.length;exists _,rfl,n,Z.c_Net,dx,_,_,rfl,hn,NTx.cl,NTx.nK,gY _ _,l,rfl,⟨_,SqL.of hl⟩,λD hD=>?_;refine clS hD (xs:=ts) (λi zs H'=>iW (zz3 Z) Z.K H' zs (ds.take i)) .nil (λ_ h=>h.seq (SqL.of hl)) ?_ ?_
 .rintro i zs x H1 hx ⟨s1,e1,R1⟩ C hC;have hi:i < ds.length:=by
   have:=(wq.mp hx).1;lia
  obtain⟨⟨k,u,v,p⟩,hd⟩:∃d,ds[i]?=some d:=⟨_,getElem?_eq_getElem hi⟩
  obtain⟨t,z,et,ht,fz⟩:=hR.at hd;have ex:x=.ref t:=by rw[et] at hx;exact(Option.some.inj hx).symm
  subst ex;have lz:=R1.length;rw[length_take] at lz;exists cZ.1,cZ.2,eY ?_;exists _,rfl,t,_,_,_,_,rfl,s1.seqT ht,k,rfl,λy H2 s2 ny rw=>?_;have e2:=s2 _ _ e1;exists e2,bH (),hC _ _ ⟨(s1.trans s2).change hD,aB,?_⟩;rw[take_add_one,hd];exact iW.upd e2 ((R1.same s2).app (.cons rw ((s1.trans s2).fq fz) .nil))
 .rintro zs H1 ⟨s1,e1,R1⟩;rw[len,take_length] at R1;exact q D zs H1 s1 hD e1 R1
theorem Y36:DZ 4 Z.f36 Z.d36 ["row","heights"] (Ds Z.K (zz3 Z)) "fall_of":=by
 exists ?_,F36.b2 _ _ (by intros;rfl),F36.kp,m36
 refine F36.ok9 qe2 λcdv A outer s H vs Q E hr h=>?_;obtain⟨x,a,⟨k,i,j,p⟩,z,xs,hp,n,rfl,rw,st,pt,q⟩:=h;exists _,(aF (aW (d9 Y7 hr rfl (aA (aK bX (pv 1) (cK (pv 0) rfl)) (aA (aK bX (pv 1) (cK (pv 0) rfl)) aD))))),?_;obtain⟨dx,hx⟩:=id rw;obtain⟨i0,i1,j0,j1⟩:dL (n:Int) i j:=pt;have hl:=st.l;have ai:=jS (ps:=hp) (j:=i.toNat) ();have aj:=jS (ps:=hp) (j:=j.toNat) ();obtain⟨u,eu,fu⟩:=st.f.at ai;obtain⟨v,ev,fv⟩:=st.f.at aj;have ti:atI xs i=some (.ref u):=by
  have:=cA eu
  rwa [show ((i.toNat:Nat):Int)=i by lia] at this
 have tj:atI xs j=some (.ref v):=by
  have:=cA ev
  rwa [show ((j.toNat:Nat):Int)=j by lia] at this
 exists _,rfl,_,rfl,x,(zz3 Z) _,_,_,_,rfl,hx,T.cl _,T.nS _,eX _ _ _,a,xs,_,_,rfl,rfl,st.s,ti,?_;exists _,rfl,_,rfl,x,(zz3 Z) _,_,_,_,rfl,hx,T.cl _,T.nG _,fQ _ _ _,a,xs,_,_,rfl,rfl,st.s,tj,?_;have bi:=st.b _ (mem_of_getElem? ai);have bj:=st.b _ (mem_of_getElem? aj);exists u,v,_,_,3900,3900,rfl,fu,fv,bi.1.pos,bj.1.pos,bi.2,bj.2,(),q
theorem Y37:DZ 1 Z.f37 Z.d37 ["marks","row"] (xX Z.K (zz3 Z)) "joined":=by
 exists ?_,F37.b2 _ _ (by intros;rfl),F37.kp,m37
 refine F37.ok9 wJ λ_ _ _ s H _ Q E hr h=>?_;obtain⟨a,x,ms,k,s0,g0,z,rfl,hS,rw,hs,hg,h100,q⟩:=h;refine⟨_,(aC (aT (i:=2) wJ.nd rfl (Or.inr rfl) (aK bX (pv 0) (cK (pv 1) rfl)))
  (aC (aT (i:=3) wJ.nd rfl (Or.inr rfl) (aK bX (pv 0) (cK (pv 1) rfl)))
  (aF (aW (dD (nl:=1) (fr:=[3,2]) (Nc:=["mark","lost","kept"]) (cl:=[("lost",s.heap.objs.size+2),("kept",s.heap.objs.size+1)]) rfl ⟨rfl,rfl,∅,∅,(cO rfl (cO rfl (iP))),dI rfl,rfl,λi n h=>match i,h with | 0,h=>by cases h;exact⟨3,rfl,rfl,rfl,rfl,.inl rfl⟩ | 1,h=>by cases h;exact⟨2,rfl,rfl,rfl,rfl,.inl rfl⟩ | k+2,h=>by rw[show 1+(k+2)=k+3 by lia] at h;cases h⟩
    (cG (pv 0)) (λ_ _ _ _ _=>(qQ0 (i:=0) qX)) (λ_ _ _ _ _=>dC)
    (λ_ _ _ _ _=>(lH (bK dY (pv 0) (pv 1) (bM _)) (pv 2) (pv 0)))))))),?_⟩
 obtain⟨dx,hx⟩:=id rw;have gi:∀{j:Nat},j < ms.length->atI (ms.map V.int) (j:Int)=some (.int (ms.getD j 0)):=λh=>cA (by rw[getElem?_map,getElem?_eq_getElem h,getD_eq_getElem?_getD,getElem?_eq_getElem h];rfl);exists _,rfl,_,rfl,x,(zz3 Z) _,_,_,_,rfl,hx,T.cl _,T.nS _,eX _ _ _,a,_,_,_,rfl,rfl,hS,gi hs,?_;exists _,rfl,_,rfl,x,(zz3 Z) _,_,_,_,rfl,hx,T.cl _,T.nG _,fQ _ _ _,a,_,_,_,rfl,rfl,hS,gi hg,?_;exists _,rfl,a,rfl,⟨_,hS⟩,λD hD=>?_;refine clS hD (xs:=ms.map V.int) (λi zs H'=>zs=((jn ms s0 g0).take i).map V.int) rfl (λ_ h=>h.seq hS) ?_ ?_
 .rintro i zs x H1 hx' ⟨s1,e1,rfl⟩ C hC;rw[getElem?_map] at hx';obtain⟨c,hc,rfl⟩:=Option.map_eq_some_iff.mp hx';have hi:i < ms.length:=(wq.mp hc).1;have ej:(jn ms s0 g0)[i]?=some (if c=ms.getD g0 0 then ms.getD s0 0 else c):=by unfold jn;rw[getElem?_map,hc];rfl
  have lj:(jn ms s0 g0).length=ms.length:=by unfold jn;rw[length_map]
  exists cZ.1,cZ.2,eY ?_;exists _,rfl,_,rfl,rfl,_,rfl,?_
  by_cases h:c=ms.getD g0 0
  .rw[if_pos h] at ej;refine ifT (decide_eq_true (by rw[h])) ⟨_,rfl,e1,bH (by rw[length_map,length_take];lia),hC _ _ ⟨s1.change hD,aB,?_⟩⟩;rw[take_add_one,ej,map_append];rfl
  .rw[if_neg h] at ej;refine ifF (decide_eq_false (λz=>h (by injection z))) ⟨_,rfl,e1,bH (by rw[length_map,length_take];lia),hC _ _ ⟨s1.change hD,aB,?_⟩⟩;rw[take_add_one,ej,map_append];rfl
 .rintro zs H1 ⟨s1,e1,rfl⟩;have lj:(jn ms s0 g0).length=ms.length:=by unfold jn;rw[length_map]
  rw[length_map,<- lj,take_length] at e1;exact q D H1 s1 hD e1
theorem X2:iG Z.K Z.c_Net "many" Z.f31:=⟨a31_0,i31,F31.kp⟩
theorem X3:iG Z.K Z.c_Net "rows" Z.f35:=⟨a35_0,i35,F35.kp⟩
theorem Y38:DZ 5 Z.f38 Z.d38 ["net"] (Cf Z.c_Net Z.K) "marks_of":=by
 exists ?_,F38.b1 _ (by intros;rfl),F38.kp,m38
 refine F38.ok9 uZ λ_ _ _ s H _ Q E hr h=>?_;obtain⟨n,l,m,ds,rfl,nt,pt,hm,h100,q⟩:=h;have r1:=hr.mono (show 1<=4 by lia);refine⟨_,(aC (qQ1 (i:=1) uZ.nd (Ct rfl rfl n_list rfl n_range (aA (fY (pv 0) NTx.cl X2 R31 r1 b31 .nil aQ) aD)))
  (aC (eO PassesOwn.never rfl (cG (fY (pv 0) NTx.cl X3 R35 hr b35 .nil aQ)) (qQ0 (i:=2) uZ.nd)
   (aF (cD (cT (iL (pv 2) T.cl mJ GJ r1 bJ .nil aQ)) (aF (qQ1 (i:=1) uZ.nd (d9 Y37 r1 rfl (aA (pv 1) (aA (pv 2) aD))))) bQ)))
  (aF (aW (pv 1))))),?_⟩
 obtain⟨dx,hn⟩:=nt.ob;exists _,rfl,n,dx,_,rfl,hn,gQ _ _ ∅ ∅,n,l,_,ds,rfl,nt,m,rfl,(),λD hD=>?_;have sD:=aG hD (.lst ((List.range m).map λ(i:Nat)=>V.int (i:Int)));have eD:upd H D (.lst ((List.range m).map λ(i:Nat)=>V.int (i:Int))) D=some (.lst ((mks m (ds.take 0)).map V.int)):=by
  rw[aB];show some (HO.lst _)=some (HO.lst ((oO m).map V.int));unfold oO;rw[map_map];rfl
 generalize upd H D (.lst ((List.range m).map λ(i:Nat)=>V.int (i:Int)))=H1 at sD eD ⊢;exists _,rfl,n,dx,_,rfl,sD _ _ hn,gQ _ _ ∅ ∅,n,l,_,ds,rfl,nt.same sD,h100,λa xs H2 s2 na ea Rb=>?_;have lxs:=Rb.length;exists a,rfl,⟨_,SqL.of ea⟩,?_;refine eU (xs:=xs) (λi σ H'=>aX H2 H'/\∃(c:Addr) (z:Option V),σ=[some (.ref n),some (.ref c),z]/\H c=none/\H' c=some (.lst ((mks m (ds.take i)).map V.int))) ⟨aX.refl _,D,none,rfl,hD,s2 _ _ eD⟩ (λi σ H' _ h=>h.1.seq (SqL.of ea)) ?_ ?_
 .rintro i x σ H3 hx ⟨s3,c,z,rfl,nc,ec⟩;have hi:i < ds.length:=by
   have:=(wq.mp hx).1;lia
  obtain⟨⟨k,u,v,p⟩,hd⟩:∃d,ds[i]?=some d:=⟨_,getElem?_eq_getElem hi⟩
  obtain⟨y,z',ey,rw,fz⟩:=Rb.at hd;have ex:x=.ref y:=by rw[ey] at hx;exact(Option.some.inj hx).symm
  subst ex;have rw3:=rw.same s3;obtain⟨dr,hy⟩:=id rw3;have et:ds.take (i+1)=ds.take i++[(k,u,v,p)]:=by rw[take_add_one,hd];rfl
  obtain⟨u0,u1,v0,v1⟩:dL (m:Int) u v:=pt _ (mem_of_getElem? hd);exists _,rfl,k,y,dr,_,rfl,hy,(gH _ _ _ ∅ ∅ ∅),_,rfl,_,rfl,?_
  by_cases hk:k=.pu
  .refine ifF (decide_eq_false (λz=>z hk)) ⟨s3,c,_,rfl,nc,?_⟩;rw[et,mE];unfold jA;rw[if_pos hk];exact ec
  .refine ifT (decide_eq_true hk) ⟨_,rfl,_,rfl,c,y,mks m (ds.take i),k,u.toNat,v.toNat,.ref z',rfl,SqL.of ec,?_,by rw[pC];lia,by rw[pC];lia,by rw[pC];lia,λc' H4 s4 nc' ec'=>⟨s3.trans s4,c',_,rfl,?_,?_⟩⟩
   .rw[show ((u.toNat:Nat):Int)=u by lia,show ((v.toNat:Nat):Int)=v by lia];exact rw3
   .exact((sD.trans s2).trans s3).free nc'
   .rw[et,mE];unfold jA;rw[if_neg hk];exact ec'
 .rintro σ H3 ⟨s3,c,z,rfl,nc,ec⟩;rw[show ds.take xs.length=ds by rw[lxs,take_length]] at ec;exists _,rfl,q c H3 ((sD.trans s2).trans s3) nc ec
theorem Y39:DZ 6 Z.f39 Z.d39 ["net"] (Aw Z.c_Net Z.K) "floating":=by
 exists ?_,F39.b1 _ (by intros;rfl),F39.kp,m39
 refine F39.ok9 Mj λ_ _ _ s H _ Q E hr h=>?_;obtain⟨n,l,m,ds,rfl,nt,pt,h1,hm,h100,q⟩:=h;refine⟨_,(aC (aT (i:=1) Mj.nd rfl (Or.inr rfl) (d9 Y38 hr rfl (aA (pv 0) aD)))
  (aF (aW (dD (nl:=2) (fr:=[1]) (Nc:=["point","mark","marks"]) (cl:=[("marks",s.heap.objs.size+1)]) (g:=(Fi Z.K 2 (kH (iM 0) (kH (iM 1) Eg)))) rfl ⟨rfl,rfl,∅,∅,λx c h=>h,dI rfl,rfl,λi n h=>match i,h with | 0,h=>by cases h;exact⟨1,rfl,rfl,rfl,rfl,.inl rfl⟩ | k+1,h=>by rw[show 2+(k+1)=k+3 by lia] at h;cases h⟩
    (vI rfl n_enumerate rfl (aA (pv 1) aD)) (λ_ _ _ _ _=>(fP rfl (bO (qQ0 (i:=0) jR) (bO (qQ0 (i:=1) jR) eJ)))) (λ_ _ _ _ _=>(rF (bK jL (pv 1) (aK (iU (K:=Z.K) rfl) (pv 2) aE) (bM _))))
    (λ_ _ _ _ _=>(pv 0)))))),?_⟩
 exists _,rfl,n,l,m,ds,rfl,nt,pt,hm,h100,λM H1 s1 nM eM=>?_;have mlen:=pC m ds;have hS:SqL Z.K H1 M ((mks m ds).map V.int):=SqL.of eM;exists _,rfl,M,rfl,⟨_,hS⟩,λD hD=>?_;have sD:=aG hD (.lst []);refine zQ (xs:=(mks m ds).map V.int) (λi zs H'=>aX H1 H'/\H' D=some (.lst zs)/\zs=(((List.range i).filter λp=>decide (mk m ds p≠mk m ds 0)).map λ(p:Nat)=>V.int (p:Int))) ⟨sD,aB,rfl⟩ (λi zs H' h=>h.2.1) (λi zs H' _ h=>h.1.seq hS) ?_ ?_
 .rintro i zs x H2 T2 hx ⟨s2,e2,rfl⟩ hT C hC;rw[getElem?_map] at hx;obtain⟨c,hc,rfl⟩:=Option.map_eq_some_iff.mp hx;have hi:i < m:=by have:=(wq.mp hc).1;lia
  have ec:c=mk m ds i:=by unfold mk;rw[getD_eq_getElem?_getD,hc];rfl
  have g0:atI ((mks m ds).map V.int) 0=some (.int (mk m ds 0)):=cA (j:=0) (by unfold mk;rw[getElem?_map,getElem?_eq_getElem (),getD_eq_getElem?_getD,getElem?_eq_getElem ()];rfl);have ll:(((List.range i).filter λp=>decide (mk m ds p≠mk m ds 0)).map λ(p:Nat)=>V.int (p:Int)).length<=20:=by
   rw[length_map];have:=length_filter_le (λp=>decide (mk m ds p≠mk m ds 0)) (List.range i);rw[length_range] at this;lia
  have sT:=aG hT (.tup [.int (i:Int),.int c]);exists T2,_,rfl,SqT.of aB,rfl,_,_,rfl,_,_,rfl,rfl,kJ.1,kJ.2,?_;generalize upd H2 T2 (.tup [.int (i:Int),.int c])=H3 at sT ⊢;have s3:=s2.trans sT;have e3:=sT _ _ e2;exists _,rfl,_,rfl,M,_,_,_,rfl,rfl,s3.seq hS,g0,rfl,_,rfl,?_;subst ec
  by_cases h:mk m ds i=mk m ds 0
  .refine ifF (by rw[h];simp) (hC _ _ ⟨s3,e3,?_⟩);rw[range_succ,filter_append,filter_cons_of_neg (by simp[h])];simp
  .refine ifT (by simp[h]) ⟨_,rfl,e3,bH (),hC _ _ ⟨s3.change hD,aB,?_⟩⟩;rw[range_succ,filter_append,filter_cons_of_pos (by simp[h]),map_append];rfl
 .rintro zs H2 ⟨s2,e2,rfl⟩;refine q D H2 (s1.trans s2) (s1.free hD) ?_;rw[length_map,mlen] at e2;rw[e2];unfold jJ;rw[map_map];rfl
theorem Y40:DZ 1 Z.f40 Z.d40 ["rows","numbers","point"] (Dr Z.K (zz3 Z)) "steps_from":=by
 exists ?_,F40.b3 _ _ _ (by intros;rfl),F40.kp,m40
 refine F40.ok9 vK λ_ _ _ s H _ Q E hr h=>?_;obtain⟨a,b,xs,ds,es,p,rfl,hA,Rb,hB,hE,h100,q⟩:=h;refine⟨_,(aC (qQ1 (i:=3) vK.nd (dZ aD))
  (aC (eO PassesOwn.never rfl (cG (pv 1)) (qQ0 (i:=4) vK.nd)
   (aC (qQ1 (i:=5) vK.nd (aK bX (pv 0) (pv 4)))
  (aF (cD (bK dY (cK (pv 5) rfl) (pv 2) (bM _)) (aF (cC (mH PySem.F.plainAttrs_list PySem.F.slot_list_append PySem.F.type_list_append eQ (pv 3) (aA (dA (aA (dA (aA (pv 4) (aA aE aD))) (aA (cK (pv 5) rfl) aD))) aD)))) (aF (cD (bK dY (cK (pv 5) rfl) (pv 2) (bM _)) (aF (cC (mH PySem.F.plainAttrs_list PySem.F.slot_list_append PySem.F.type_list_append eQ (pv 3) (aA (dA (aA (dA (aA (pv 4) (aA (zJ rW aE) aD))) (aA (cK (pv 5) rfl) aD))) aD)))) bQ))))))
  (aF (aW (pv 3))))),?_⟩
 exists zl9 0,λl hl=>?_;obtain⟨H1,zq,s1,e1⟩:=nw hl (.lst []);rw[zq];exists _,rfl,b,rfl,⟨_,s1.seq hB⟩,?_;refine eU (xs:=es.map λ(e:Br)=>V.int ((e.1:Nat):Int)) (λi σ H'=>aX H H'/\∃(ys:wk) (z4 z5:Option V),σ=[some (.ref a),some (.ref b),some (.int (p:Int)),some (.ref l),z4,z5]/\H' l=some (.lst ys)/\Sds Z.K H' ys (stF (es.take i) p)) ⟨s1,[],none,none,rfl,e1,.nil⟩ (λi σ H' _ h=>h.1.seq hB) ?_ ?_
 .rintro i x σ H2 hx ⟨s2,ys,z4,z5,rfl,e2,S2⟩;rw[getElem?_map] at hx;obtain⟨e,he,rfl⟩:=Option.map_eq_some_iff.mp hx;have hi:i < es.length:=(wq.mp he).1;obtain⟨⟨k,u,v,q'⟩,hd,eu,ev⟩:=hE e (mem_of_getElem? he);have eu:u=(e.2.1:Int):=eu;have ev:v=(e.2.2:Int):=ev;subst eu;subst ev;obtain⟨y,z,ey,rw0,fz⟩:=Rb.at hd;have rw2:=rw0.same s2;obtain⟨dx,hx2⟩:=id rw2;have at_:atI xs (e.1:Int)=some (.ref y):=cA ey;have ly:ys.length<=es.length:=by
   have h1:=S2.length;have h2:(stF (es.take i) p).length<=(es.take i).length:=length_filterMap_le _ _;rw[length_take] at h2;lia
  exists _,rfl,_,rfl,a,xs,_,_,rfl,rfl,s2.seq hA,at_,?_;exists _,rfl,y,(zz3 Z) _,_,_,_,rfl,hx2,T.cl _,T.nS _,eX _ _ _,_,rfl,rfl,_,rfl,?_
  by_cases c1:e.2.1=p
  .have tk:stF (es.take (i+1)) p=stF (es.take i) p++[((e.1,1),e.2.2)]:=by
    unfold stF;rw[take_add_one,he,filterMap_append];show _++[e].filterMap _=_;rw[filterMap_cons,if_pos c1];rfl
   refine ifT (decide_eq_true (by rw[c1])) ?_;exists _,rfl,.inl ⟨rfl,_,SqL.of e2⟩,_,rfl,zl9 2,λu hu'=>?_;obtain⟨H3,zq,su,eu⟩:=nw hu' (.tup [.int (e.1:Int),.int (1)]);rw[zq];have eu:SqT Z.K H3 u [.int (e.1:Int),.int (1)]:=SqT.of eu;obtain⟨dx3,hx3⟩:=id (rw2.same su);exists _,rfl,y,(zz3 Z) _,_,_,_,rfl,hx3,T.cl _,T.nG _,fQ _ _ _,zl9 2,λt ht=>?_;rw[show (k,(e.2.1:Int),(e.2.2:Int),q').2.2.1=(e.2.2:Int) from rfl];obtain⟨H4,zq,st,et⟩:=nw ht (.tup [.ref u,.int (e.2.2:Int)]);rw[zq];have et:SqT Z.K H4 t [.ref u,.int (e.2.2:Int)]:=SqT.of et;have s24:=su.trans st;have e4:=s24 _ _ e2;exists l,_,_,rfl,rfl,e4,bH (),⟨(s2.trans s24).change hl,_,_,_,rfl,aB,?_⟩;rw[tk];exact Sds.upd e4 ((S2.same s24).app (.cons et (st.seqT eu) .nil))
  .refine ifF (decide_eq_false (λz=>c1 (by have:(e.2.1:Int)=(p:Int):=(by injection z);lia))) ?_;exists _,rfl,y,(zz3 Z) _,_,_,_,rfl,hx2,T.cl _,T.nG _,fQ _ _ _,_,rfl,rfl,_,rfl,?_
   by_cases c2:e.2.2=p
   .have tk:stF (es.take (i+1)) p=stF (es.take i) p++[((e.1,-1),e.2.1)]:=by
     unfold stF;rw[take_add_one,he,filterMap_append];show _++[e].filterMap _=_;rw[filterMap_cons,if_neg c1,if_pos c2];rfl
    refine ifT (decide_eq_true (by rw[c2])) ?_;exists _,rfl,.inl ⟨rfl,_,SqL.of e2⟩,_,rfl,_,rfl,zl9 2,λu hu'=>?_;obtain⟨H3,zq,su,eu⟩:=nw hu' (.tup [.int (e.1:Int),.int (-1)]);rw[zq];have eu:SqT Z.K H3 u [.int (e.1:Int),.int (-1)]:=SqT.of eu;obtain⟨dx3,hx3⟩:=id (rw2.same su);exists _,rfl,y,(zz3 Z) _,_,_,_,rfl,hx3,T.cl _,T.nS _,eX _ _ _,zl9 2,λt ht=>?_;rw[show (k,(e.2.1:Int),(e.2.2:Int),q').2.1=(e.2.1:Int) from rfl];obtain⟨H4,zq,st,et⟩:=nw ht (.tup [.ref u,.int (e.2.1:Int)]);rw[zq];have et:SqT Z.K H4 t [.ref u,.int (e.2.1:Int)]:=SqT.of et;have s24:=su.trans st;have e4:=s24 _ _ e2;exists l,_,_,rfl,rfl,e4,bH (),⟨(s2.trans s24).change hl,_,_,_,rfl,aB,?_⟩;rw[tk];exact Sds.upd e4 ((S2.same s24).app (.cons et (st.seqT eu) .nil))
   .have tk:stF (es.take (i+1)) p=stF (es.take i) p:=by
     unfold stF;rw[take_add_one,he,filterMap_append];show _++[e].filterMap _=_;rw[filterMap_cons,if_neg c1,if_neg c2];simp
    refine ifF (decide_eq_false (λz=>c2 (by have:(e.2.2:Int)=(p:Int):=(by injection z);lia))) ⟨s2,ys,_,_,rfl,e2,?_⟩;rw[tk];exact S2
 rintro σ H2 ⟨s2,ys,z4,z5,rfl,e2,S2⟩;rw[length_map,take_length] at S2;exists _,rfl,q l ys H2 s2 hl e2 S2
theorem Y41:DZ 2 Z.f41 Z.d41 ["rows","numbers","begin","end"] (Uh Z.K (zz3 Z)) "way_along":=by
 exists ?_,F41.b4 _ _ _ _ (by intros;rfl),F41.kp,m41
 refine F41.ok9 Ep λ_ _ _ s H _ Q E hr h=>?_;obtain⟨a,b,xs,ds,es,m,f,t,rfl,hA,Rb,hB,hE,h100,hm,h20,hf,qN,qS⟩:=h;refine⟨_,(aC (qQ1 (i:=4) Ep.nd (Kt (oJ (pv 2) (dZ aD) Kl) rfl rfl ⋯ ∅))
  (aC (qQ1 (i:=5) Ep.nd (dZ (aA (pv 2) aD)))
  (aC (xZ PassesOwn.never (bK uL (cB bV rfl n_len PySem.boot_len (aA (pv 5) aD)) aE (bM _))
   (aC (qQ1 (i:=6) Ep.nd (qc5 PySem.F.plainAttrs_list PySem.F.slot_list_pop PySem.F.type_list_pop qe1 (pv 5)))
   (aF (eO PassesOwn.never rfl (cG (d9 Y40 hr rfl (aA (pv 0) (aA (pv 1) (aA (pv 6) aD))))) (qQ0 (i:=7) Ep.nd)
    (aF (cD (oN (Am (pP hr) (aK aY (pv 7) aE) (pv 4)))
     (aC (Cr (pP hr) (pv 4) (aK aY (pv 7) aE) (bC sS (mL (pP hr) (pv 4) (pv 6) (λ_ _=>rfl)) (dZ (aA (aK aY (pv 7) aE) aD))) rfl)
     (aF (cC (mH PySem.F.plainAttrs_list PySem.F.slot_list_append PySem.F.type_list_append eQ (pv 5) (aA (aK aY (pv 7) aE) aD)))))
     bQ))))))
  (aF (aW (Rt (pP hr) (pv 4) (pv 3) ⟨rfl,rfl,rfl,rfl⟩)))))),?_⟩
 refine λD hD=>?_;obtain⟨H1,zq,sD,eD⟩:=nw hD (.dK []);rw[zq];exists _,rfl,zl9 0,λL hL=>?_;have nLD:L≠D:=Ne.symm (bL eD hL);have nL:H L=none:=sD.free hL;obtain⟨H2,zq,sL,eL⟩:=nw hL (.lst []);rw[zq];exists sL _ _ eD,[((Sum.inl (f:Int):Key),V.ref L)],rfl,by show 1<=15;decide,?_;have s3:aX H (upd H2 D (.dK (kS [] [((Sum.inl (f:Int):Key),V.ref L)]))):=(sD.trans sL).change hD;have e3:upd H2 D (.dK (kS [] [((Sum.inl (f:Int):Key),V.ref L)])) D=some (.dK [((Sum.inl (f:Int):Key),V.ref L)]):=aB;have eL3:upd H2 D (.dK (kS [] [((Sum.inl (f:Int):Key),V.ref L)])) L=some (.lst []):=by rw[aV nLD];exact eL
 generalize upd H2 D (.dK (kS [] [((Sum.inl (f:Int):Key),V.ref L)]))=H3 at s3 e3 eL3 ⊢;exists _,rfl,zl9 1,λW hW=>?_;have nLW:L≠W:=bL eL3 hW;have nDW:D≠W:=bL e3 hW;have nW:H W=none:=s3.free hW;obtain⟨H4,zq,sW,eW⟩:=nw hW (.lst [.int (f:Int)]);rw[zq];have s4:=s3.trans sW;have w4:Wys Z.K H W H4 [((Sum.inl (f:Int):Key),V.ref L)] (cV es f 0).1:=.cons nL nLW (sW _ _ eL3) .nil .nil;refine wF (λσ H'=>aX H H'/\∃(i:Nat) (kvs:List (Key × V)) (z6 z7:Option V),σ=[some (.ref a),some (.ref b),some (.int (f:Int)),some (.int (t:Int)),some (.ref D),some (.ref W),z6,z7]/\H' D=some (.dK kvs)/\H' W=some (.lst ((cV es f i).2.map λ(p:Nat)=>V.int (p:Int)))/\Wys Z.K H W H' kvs (cV es f i).1/\i<=40) muW ⟨s4,0,_,none,none,rfl,sW _ _ e3,eW,w4,()⟩ ?_ ?_
 .rintro σ H5 ⟨s5,i,kvs,z6,z7,rfl,e5,q5,w5,hi⟩;have lk:=w5.length;have wi:=mX es f i;have le20:=Uv hm hf wi.nd wi.pt;exists _,rfl,W,_,rfl,.inl (SqL.of q5),_,_,rfl,rfl,_,rfl,?_
  by_cases hq:(cV es f i).2=[]
  .-- it ends
   rw[hq] at q5;refine ifF (by rw[hq];rfl) ?_;have e60:=Vu hq ();exists _,rfl,D,rfl,.inl ⟨kvs,.inl e5⟩,_,rfl,_,jN.k (k:=Sum.inl (t:Int)) e5,?_
   by_cases c:t∈cS (cV es f i).1
   .obtain⟨l,ys,st,ev,eg,nl,_,hl,f'⟩:=w5.some_ c;rw[ev];refine qS st ?_ l ys H5 s5 nl hl f';unfold uT;rw[e60];exact eg
   .rw[(w5.none_ c).1];refine qN ?_ H5 s5;unfold uT;rw[e60];exact uA c
  .have mu0:=To (a:=some (.ref a)) (b:=some (.ref b)) (c:=some (.int (f:Int))) (d:=some (.int (t:Int))) (e:=z6) (f:=z7) e5 q5;have hi39:i+muF (cV es f i)<=39:=by
    rcases uF hm hf h20 i with z | z
    .exact absurd z hq
    .exact z
   have stp:cV es f (i+1)=(stF es ((cV es f i).2.getLastD 0)).foldl (inF ((cV es f i).2.getLastD 0)) ((cV es f i).1,(cV es f i).2.dropLast):=by
    show nV es (cV es f i)=_;unfold nV;rw[if_neg hq]
   have jA:=Mw hm hf h20 wi hq;have jA:muF (cV es f (i+1))+1<=muF (cV es f i):=jA;have wj0:=xT wi hq;have pk:=wj0.kp;obtain⟨ml1,ml2⟩:=Qh hq;generalize hp:(cV es f i).2.getLastD 0=p at *
   have ll:0 < ((cV es f i).2.map λ(p:Nat)=>V.int (p:Int)).length:=by rw[length_map];exact length_pos_iff.mpr hq
   refine ifT (by show decide (0 < ((((cV es f i).2.map λ(p:Nat)=>V.int (p:Int)).length:Nat):Int))=true;exact decide_eq_true ()) ?_;exists _,rfl,.inl ⟨rfl,_,SqL.of q5⟩,W,_,_,rfl,rfl,q5,ml1,?_;rw[ml2];have s6:aX H (upd H5 W (.lst ((cV es f i).2.dropLast.map λ(p:Nat)=>V.int (p:Int)))):=s5.change nW;have e6:upd H5 W (.lst ((cV es f i).2.dropLast.map λ(p:Nat)=>V.int (p:Int))) D=some (.dK kvs):=by rw[aV nDW];exact e5
   have q6:upd H5 W (.lst ((cV es f i).2.dropLast.map λ(p:Nat)=>V.int (p:Int))) W=some (.lst ((cV es f i).2.dropLast.map λ(p:Nat)=>V.int (p:Int))):=aB;have w6:=w5.updW (o:=.lst ((cV es f i).2.dropLast.map λ(p:Nat)=>V.int (p:Int))) q5;generalize upd H5 W (.lst ((cV es f i).2.dropLast.map λ(p:Nat)=>V.int (p:Int)))=H6 at s6 e6 q6 w6 ⊢;exists _,rfl,_,rfl,_,rfl,a,b,xs,ds,es,p,rfl,s6.seq hA,Rb.same s6,s6.seq hB,hE,h100,λl ys H7 s7 nl el S7=>?_;have s07:=s6.trans s7;have nlW:l≠W:=Ne.symm (bL q6 nl);have nlD:l≠D:=Ne.symm (bL e6 nl);have nlH:H l=none:=s6.free nl;have lys:=S7.length;exists l,rfl,⟨_,SqL.of el⟩,?_;refine eU (xs:=ys) (λj σ H'=>aX H H'/\H' l=some (.lst ys)/\Sds Z.K H' ys (stF es p)/\∃(kvs:List (Key × V)) (z7:Option V),σ=[some (.ref a),some (.ref b),some (.int (f:Int)),some (.int (t:Int)),some (.ref D),some (.ref W),some (.int (p:Int)),z7]/\H' D=some (.dK kvs)/\H' W=some (.lst ((((stF es p).take j).foldl (inF p) ((cV es f i).1,(cV es f i).2.dropLast)).2.map λ(p:Nat)=>V.int (p:Int)))/\Wys Z.K H W H' kvs (((stF es p).take j).foldl (inF p) ((cV es f i).1,(cV es f i).2.dropLast)).1) ⟨s07,el,S7,kvs,z7,rfl,s7 _ _ e6,s7 _ _ q6,w6.same s7⟩ (λj σ H' _ h=>SqL.of h.2.1) ?_ ?_
   .rintro j x σ H8 hx ⟨s8,el8,S8,kv8,z7',rfl,e8,q8,w8⟩;obtain⟨tt,u,s,rfl,es',hT,hU⟩:=S8.get hx;have hj:j < (stF es p).length:=(wq.mp es').1;have gs:rB es s.1 p s.2:=oH (mem_of_getElem? es');have wj:=De ((stF es p).take j) [] wj0 λz hz=>oH (mem_of_mem_take hz);have fold1:((stF es p).take (j+1)).foldl (inF p) ((cV es f i).1,(cV es f i).2.dropLast)=inF p (((stF es p).take j).foldl (inF p) ((cV es f i).1,(cV es f i).2.dropLast)) s:=by
     rw[take_add_one,es',foldl_append];rfl
    rw[fold1];have wj':=Ky wj gs;have le8:=Uv hm hf wj.nd wj.pt;have lS:=qb7 hm hf h20 wj0 (j:=j) (T:=stF es p) (λz hz=>oH hz);have mb:=Fd hq;generalize ((stF es p).take j).foldl (inF p) ((cV es f i).1,(cV es f i).2.dropLast)=S at q8 w8 wj wj' le8 lS ⊢;have lS2:S.2.length<=100:=by lia
    have lk8:=w8.length;obtain⟨⟨sn,sw⟩,sx⟩:=s;have hT:SqT Z.K H8 tt [.ref u,.int (sx:Int)]:=hT;exists _,rfl,tt,_,1,_,rfl,rfl,hT,rfl,_,rfl,D,_,rfl,jN.k (k:=Sum.inl (sx:Int)) e8,_,rfl,?_
    by_cases c:sx∈cS S.1
    .refine ifF (by rw[w8.isSome,decide_eq_true c];rfl) ⟨s8,el8,S8,kv8,_,rfl,e8,?_,?_⟩
     .show H8 W=some (.lst ((inF p S ((sn,sw),sx)).2.map λ(p:Nat)=>V.int (p:Int)));unfold inF;rw[if_pos c];exact q8
     .show Wys Z.K H W H8 kv8 (inF p S ((sn,sw),sx)).1;unfold inF;rw[if_pos c];exact w8
    .refine ifT (by rw[w8.isSome,decide_eq_false c];rfl) ?_;obtain⟨ap,xp,sp,ev,eg,nap,nwp,hap,fp⟩:=w8.some_ wj.kp;have lsp:=fp.length;have lsp2:sp.length<=20:=by
      obtain⟨pts,pt1,pt2⟩:=wj.pt p sp (jF eg);exact qj3 hm hf h20 wj.nd wj.pt pt1 pt2
     exists _,rfl,_,rfl,D,.ref ap,rfl,(by have:=jN.k (k:=Sum.inl (p:Int)) e8;rw[ev] at this;exact this),?_;exists _,rfl,tt,_,0,_,rfl,rfl,hT,rfl,zl9 1,λL1 hL1=>?_;obtain⟨H9,zq,s9,e9⟩:=nw hL1 (.lst [.ref u]);rw[zq];exists ap,L1,_,_,rfl,rfl,s9 _ _ hap,e9,by rw[sizeLine_eq];simp only[length_cons,length_nil];lia,λC hC=>?_;have nC8:H8 C=none:=s9.free hC;obtain⟨HA,zq,sA,eA⟩:=nw hC (.lst (xp++[.ref u]));rw[zq];have s8A:=s9.trans sA;have nCW:C≠W:=Ne.symm (bL q8 nC8);have nCD:C≠D:=Ne.symm (bL e8 nC8);have eDA:=s8A _ _ e8;exists _,rfl,_,rfl,tt,_,1,_,rfl,rfl,s8A.seqT hT,rfl,D,_,rfl,Hq.k (k:=Sum.inl (sx:Int)) eDA (by rw[sizeLine_eq];lia),?_;have put:mU kv8 (Sum.inl (sx:Int)) (.ref C)=kv8++[(Sum.inl (sx:Int),.ref C)]:=by unfold mU;rw[if_neg (by rw[(w8.none_ c).2];simp)]
     rw[put];have eB:upd HA D (.dK (kv8++[(Sum.inl (sx:Int),.ref C)])) D=some (.dK (kv8++[(Sum.inl (sx:Int),.ref C)])):=aB;have qB:upd HA D (.dK (kv8++[(Sum.inl (sx:Int),.ref C)])) W=some (.lst (S.2.map λ(p:Nat)=>V.int (p:Int))):=by rw[aV (Ne.symm nDW)];exact s8A _ _ q8
     have sB:aX H (upd HA D (.dK (kv8++[(Sum.inl (sx:Int),.ref C)]))):=(s8.trans s8A).change hD;have wB:Wys Z.K H W (upd HA D (.dK (kv8++[(Sum.inl (sx:Int),.ref C)]))) (kv8++[(Sum.inl (sx:Int),.ref C)]) (S.1++[(sx,sp++[(sn,sw)])]):=
      Wys.snoc (s8.free nC8) nCW (by rw[aV nCD];exact eA) (((fp.same s8A).app (.cons (s8A.seqT hU) .nil)).updD eDA) ((w8.same s8A).updD eDA)
     have elB:upd HA D (.dK (kv8++[(Sum.inl (sx:Int),.ref C)])) l=some (.lst ys):=by rw[aV nlD];exact s8A _ _ el8
     have SB:=(S8.same s8A).updD (o:=.dK (kv8++[(Sum.inl (sx:Int),.ref C)])) eDA;have hTB:=SqT.updD (o:=.dK (kv8++[(Sum.inl (sx:Int),.ref C)])) (s8A.seqT hT) eDA;generalize upd HA D (.dK (kv8++[(Sum.inl (sx:Int),.ref C)]))=HB at eB qB sB wB elB SB hTB ⊢;exists _,rfl,.inl ⟨rfl,_,SqL.of qB⟩,_,rfl,tt,_,1,_,rfl,rfl,hTB,rfl,W,_,_,rfl,rfl,qB,bH (by rw[length_map];lia),?_;have inE:inF p S ((sn,sw),sx)=(S.1++[(sx,sp++[(sn,sw)])],S.2++[sx]):=by
      unfold inF;rw[if_neg c,eg];rfl
     rw[inE];exists sB.change nW,by rw[aV nlW];exact elB,SB.upd qB,_,_,rfl,by rw[aV nDW];exact eB,?_,wB.updW qB;rw[aB,map_append];rfl
   .rintro σ H8 ⟨s8,el8,S8,kv8,z7',rfl,e8,q8,w8⟩;rw[lys,take_length,<- stp] at q8 w8;have lk8:=w8.length;exists ⟨s8,i+1,kv8,_,_,rfl,e8,q8,w8,()⟩,?_;rw[mu0,To e8 q8,length_map,length_map,lk,lk8];unfold muF at jA;lia
 .rintro σ H Q Q' mono ⟨v,h1,p',ys,h2,h3,i,j,h4,h5,k,h6,h7⟩;exists v,h1,p',ys,h2,h3,i,j,h4,h5,k,h6,mono _ _ h7
theorem Y42:DZ 5 Z.f42 (W.fnOf ("rings") ("rings") (fI jQ) (eV jQ) (aH jQ) (.ref Z.T42) Z.kV42 Z.dc42 Z.pm42 Z.an42 Z.cd42 Z.ct42) ["net","words"] (Dq Z.c_Net Z.K) "rings":=by
 exists ?_,b42,F42.kp,m42
 refine F42.ok9 kK λ_ _ _ s H _ Q E hr h=>?_;obtain⟨n,l,v,m,ds,W,rfl,nt,pt,h20,h40,hW,q⟩:=h;have r1:=hr.mono (show 1<=4 by lia);have r2:=hr.mono (show 2<=4 by lia);refine⟨_,(aC (qQ1 (i:=2) kK.nd (lH (oN (wR (pv 1))) (fL (v:=.ref Z.aJ) rfl mv_JOINING_WORDS rfl) (pv 1)))
  (aC (qQ1 (i:=3) kK.nd (fY (pv 0) NTx.cl X3 R35 hr b35 .nil aQ))
  (aC (qQ1 (i:=4) kK.nd (dZ aD))
  (aC (qQ1 (i:=5) kK.nd (dZ aD))
  (aC (eO PassesOwn.never rfl (vI rfl n_enumerate rfl (aA (pv 3) aD)) (fP rfl (bO (qQ0 (i:=6) kK.nd) (bO (qQ0 (i:=7) kK.nd) eJ)))
   (aF (cD (bK rY (iL (pv 7) T.cl mW GW r1 bW .nil aQ) (pv 2) rfl) (aC (qQ1 (i:=8) kK.nd (d9 Y41 r2 rfl (aA (pv 3) (aA (pv 4) (aA (cK (pv 7) rfl) (aA (cK (pv 7) rfl) aD))))))
  (aF (cD (oN (wR (pv 8))) (aF (cC (mH PySem.F.plainAttrs_list PySem.F.slot_list_append PySem.F.type_list_append eQ (pv 4) (aA (pv 6) aD)))) (aF (cC (mH PySem.F.plainAttrs_list PySem.F.slot_list_append PySem.F.type_list_append eQ (pv 5) (aA (bC sS (dZ (aA (dA (aA (pv 6) (aA aE aD))) aD)) (pv 8)) aD))))))) bQ)))
  (aF (aW (pv 5)))))))),?_⟩
 refine rK (λσ' H'=>H'=H/\∃wv,σ'=[some (.ref n),some v,some wv,none,none,none,none,none,none]/\WdA Z.K H wv W) (λX hX=>?_) ?_
 .cases hW with
  |non=>exact⟨_,rfl,_,rfl,ifT rfl (hX _ _ ⟨rfl,_,rfl,Z.aJ,_,rfl,.inr (fJ0 H),rfl,qq4⟩)⟩
  | @seq a ws h Z.f42=>exact⟨_,rfl,_,rfl,ifF rfl ⟨_,rfl,hX _ _ ⟨rfl,_,rfl,a,_,rfl,.inl h,Z.f42,λ_=>rfl⟩⟩⟩
 rintro σ' H' ⟨hH',wv,rfl,hw⟩;subst hH';obtain⟨dx,hn⟩:=nt.ob;exists _,rfl,n,dx,_,rfl,hn,gQ _ _ ∅ ∅,n,l,_,ds,rfl,nt,(),λa xs H1 s1 na ea Rb=>?_;have lxs:=Rb.length;exists zl9 0,λB hB=>?_;have nB:H' B=none:=s1.free hB;obtain⟨H2,zq,sB,eB⟩:=nw hB (.lst []);rw[zq];exists zl9 0,λF42 hF=>?_;have nF:H' F42=none:=(s1.trans sB).free hF;have nBF:B≠F42:=bL eB hF;obtain⟨H3,zq,sF,eF⟩:=nw hF (.lst []);rw[zq];have s3:=s1.trans (sB.trans sF);have ea3:=(sB.trans sF) _ _ ea;have naB:a≠B:=bL ea hB;have naF:a≠F42:=bL (sB _ _ ea) hF;have sk:=tN ds;have slt:=Lm pt;have s13:=sB.trans sF;exists _,rfl,a,rfl,⟨_,SqL.of ea3⟩,?_;have nB1:H1 B=none:=hB;have nF1:H1 F42=none:=sB.free hF;refine Ea (xs:=xs) (λi σ HH=>aX H1 HH/\∃(us:wk) (z6 z7 z8:Option V),σ=[some (.ref n),some v,some wv,some (.ref a),some (.ref B),some (.ref F42),z6,z7,z8]/\HH B=some (.lst ((dW W (skl ds) i).1.map λ(e:Br)=>V.int ((e.1:Nat):Int)))/\HH F42=some (.lst us)/\Rgs Z.K H' HH us ((dW W (skl ds) i).2.map (·.2))/\∀x∈us,x≠.ref F42/\x≠.ref B) ⟨s13,[],none,none,none,rfl,sF _ _ eB,eF,.nil,λx hx=>(by cases hx)⟩ (λi σ HH _ h=>h.1.seq (SqL.of ea)) ?_ ?_
 .rintro i x σ H4 T2 hx ⟨s4,us,z6,z7,z8,rfl,eB4,eF4,G4,nx4⟩ hT;have hi:i < ds.length:=by
   have:=(wq.mp hx).1;lia
  obtain⟨⟨k0,u,v0,p0⟩,hd⟩:∃d,ds[i]?=some d:=⟨_,getElem?_eq_getElem hi⟩
  obtain⟨y,z,ey,rw0,fz0⟩:=Rb.at hd;have ex:x=.ref y:=by rw[ey] at hx;exact(Option.some.inj hx).symm
  subst ex;obtain⟨u0,u1,v1,v2⟩:dL (m:Int) u v0:=pt _ (mem_of_getElem? hd);obtain⟨uN,rfl⟩:∃n:Nat,u=(n:Int):=⟨u.toNat,()⟩
  obtain⟨vN,rfl⟩:∃n:Nat,v0=(n:Int):=⟨v0.toNat,()⟩
  have skd:(skl ds)[i]?=some (k0,uN,vN):=by
   have:=Lc hd
   rwa [show ((k0,(uN:Int),(vN:Int),p0):RD).2.1.toNat=uN from Int.toNat_natCast uN,show ((k0,(uN:Int),(vN:Int),p0):RD).2.2.1.toNat=vN from Int.toNat_natCast vN] at this
  have ri:=lT (W:=W) slt i ();have bo:=Kj pt ri;have bl':=Jd (W:=W) (sk:=skl ds) i;have gl:=G4.l;rw[length_map] at gl;have rl:=ri.rl;have succ:=iH (W:=W) skd;generalize dW W (skl ds) i=S at eB4 G4 ri bo bl' gl rl succ;have sT:=aG hT (.tup [.int (i:Int),.ref y]);exists T2,_,rfl,SqT.of aB,rfl,_,_,rfl,_,_,rfl,rfl,?_;have nT1:H1 T2=none:=s4.free hT;generalize upd H4 T2 (.tup [.int (i:Int),.ref y])=H5 at sT ⊢;have s5:=s4.trans sT;have eB5:=sT _ _ eB4;have eF5:=sT _ _ eF4;have G5:=G4.same sT;obtain⟨dr,hy⟩:=id (rw0.same s5);obtain⟨pw,ws,ew,hws,fl,hinv⟩:=hw.same (s1.trans s5);exists _,rfl,k0,y,dr,_,rfl,hy,(gH _ _ _ ∅ ∅ ∅),_,rfl,_,rfl,pw,ws,ew,hws,rfl,fl,_,rfl,?_;have hin:inV (.str k0.wd) ws=W k0:=hinv k0
  by_cases hk:W k0=true
  .refine ifT (by show (if false=true then _ else inV (V.str k0.wd) ws)=true;rw[if_neg ∅,hin];exact hk) ?_;exists _,rfl,_,rfl,_,rfl,y,(zz3 Z) _,_,_,_,rfl,hy,T.cl _,T.nG _,fQ _ _ _,_,rfl,y,(zz3 Z) _,_,_,_,rfl,hy,T.cl _,T.nS _,eX _ _ _,a,B,xs,ds,S.1,m,vN,uN,rfl,s5.seq (SqL.of ea),Rb.same s5,SqL.of eB5,bo,(),ri.pt,h20,(),λhnone H6 s6=>?_,λst hst l' ys H6 s6 nl el S6=>?_
   .exists _,rfl,_,rfl,ifT rfl ?_;have eB6:=s6 _ _ eB5;have s06:=s5.trans s6;exists _,rfl,.inl ⟨rfl,_,SqL.of eB6⟩,_,rfl,B,_,_,rfl,rfl,eB6,bH (by rw[length_map];lia),?_;have eS:iF W S i (k0,uN,vN)=(S.1++[(i,uN,vN)],S.2):=by
     unfold iF;rw[if_pos hk,hnone]
    rw[succ,eS];exists s06.change nB1,us,_,_,_,rfl,?_,by rw[aV (Ne.symm nBF)];exact s6 _ _ eF5,(G5.same s6).updO eB6 (λx hx=>(nx4 x hx).2),nx4;rw[aB,map_append];rfl
   .exists _,rfl,_,rfl,ifF rfl ?_;have eF6:=s6 _ _ eF5;have s06:=s5.trans s6;exists _,rfl,.inl ⟨rfl,_,SqL.of eF6⟩,_,rfl,zl9 2,λt ht=>?_;obtain⟨H7,zq,st7,et⟩:=nw ht (.tup [.int (i:Int),.int 1]);rw[zq];have et:SqT Z.K H7 t [.int (i:Int),.int 1]:=SqT.of et;exists zl9 1,λL1 hL1=>?_;obtain⟨H8,zq,s8,e8⟩:=nw hL1 (.lst [.ref t]);rw[zq];have lst':=Ae ri.pt (show vN < m by lia) hst;have lys:=S6.length;exists _,rfl,L1,l',_,_,rfl,rfl,e8,(st7.trans s8) _ _ el,by rw[sizeLine_eq];simp only[length_cons,length_nil];lia,λC hC=>?_;have nC8:H8 C=none:=hC;obtain⟨H9,zq,s9,e9⟩:=nw hC (.lst ([.ref t]++ys));rw[zq];have s69:=st7.trans (s8.trans s9);have eF9:=s69 _ _ eF6;have s09:=s06.trans s69;have nCF:C≠F42:=Ne.symm (bL ((st7.trans s8) _ _ eF6) nC8);have nCB:C≠B:=Ne.symm (bL ((st7.trans s8) _ _ (s6 _ _ eB5)) nC8);exists F42,_,_,rfl,rfl,eF9,bH (),?_;have eS:iF W S i (k0,uN,vN)=(S.1,S.2++[(i,(i,1) :: st)]):=by
     unfold iF;rw[if_pos hk,hst]
    rw[succ,eS];have SC:Sts Z.K H9 ([.ref t]++ys) ((i,1) :: st):=.cons ((s8.trans s9).seqT et) (S6.same s69);exists s09.change nF1,us++[.ref C],_,_,_,rfl,by rw[aV nBF];exact s69 _ _ (s6 _ _ eB5),aB,?_,λx hx=>?_
    .rw[map_append];have G9:=((G5.same s6).same s69).snoc (((s1.trans s06).trans (st7.trans s8)).free nC8) e9 SC;refine G9.updO eF9 λx hx=>?_;rcases mem_append.mp hx with z | z
     .exact(nx4 x z).1
     .have:x=.ref C:=by simpa using z
      rw[this];exact λz=>nCF (by injection z)
    .rcases mem_append.mp hx with z | z
     .exact nx4 x z
     .have:x=.ref C:=by simpa using z
      rw[this];exists λz=>nCF (by injection z),λz=>nCB (by injection z)
  .refine ifF (by show (if false=true then _ else inV (V.str k0.wd) ws)=false;rw[if_neg ∅,hin];simpa using hk) ?_;have eS:iF W S i (k0,uN,vN)=S:=by
    unfold iF;rw[if_neg hk]
   rw[succ,eS];exists s5,us,_,_,_,rfl,eB5,eF5,G5,nx4
 rintro σ H4 ⟨s4,us,z6,z7,z8,rfl,eB4,eF4,G4,nx4⟩;rw[lxs] at G4;exists _,rfl,q F42 us H4 (s1.trans s4) nF eF4 G4 λx hx=>(nx4 x hx).1
theorem X4:cJ [.int 1] ([.int 1 Z.tk6]):=.cons ⟨_,rfl⟩ .nil
theorem Y43:DZ 5 Z.f43 Z.d43 ["net","ring"] (Hy Z.c_Net Z.K) "ring_sum":=by
 exists ?_,F43.b2 _ _ (by intros;rfl),F43.kp,m43
 refine F43.ok9 Tt λcdv A outer s H vs Q E hr h=>?_;obtain⟨n,l,b,m,ds,xs,st,rfl,nt,h100,hK,hB,hS,h21,hst,q⟩:=h;have r2:=hr.mono (show 2<=4 by lia);have r3:=hr.mono (show 3<=4 by lia);refine⟨_,(aC (aT (i:=2) Tt.nd rfl (Or.inr rfl) (fY (pv 0) NTx.cl X3 R35 hr b35 .nil aQ))
  (aF (aW (aI Y12.G hr rfl m12 F12.kp Y12.b .nil aQ (aA (dD (nl:=2) (fr:=[2]) (Nc:=["number","way","rows"]) (cl:=[("rows",s.heap.objs.size+1)]) (g:=(Fi Z.K 2 (kH (iM 0) (kH (iM 1) Eg)))) rfl ⟨rfl,rfl,∅,∅,λx c h=>h,dI rfl,rfl,λi n h=>match i,h with | 0,h=>by cases h;exact⟨2,rfl,rfl,rfl,rfl,.inl rfl⟩ | k+1,h=>by rw[show 2+(k+1)=k+3 by lia] at h;cases h⟩
    (cG (pv 1)) (λ_ _ _ _ _=>(fP rfl (bO (qQ0 (i:=0) kD) (bO (qQ0 (i:=1) kD) eJ)))) (λ_ _ _ _ _=>dC)
    (λ_ _ _ _ _=>(aI Y10.G r3 rfl m10 F10.kp Y10.b .nil aQ (aA (aI Y6.G r2 rfl m6 F6.kp bd6 X4 aQ (aA (pv 1) aD)) (aA (Yf (K:=Z.K) rfl (aK (iU (K:=Z.K) rfl) (pv 2) (pv 0)) rfl) aD))))) aD))))),?_⟩
 obtain⟨dx,hn⟩:=nt.ob;exists _,rfl,n,dx,_,rfl,hn,gQ _ _ ∅ ∅,n,l,_,ds,rfl,nt,h100,λa ys H1 s1 na ea Rb=>?_;have lx:=hS.length;exists _,rfl,b,rfl,⟨_,s1.seq hB⟩,λD hD=>?_;refine clS hD (xs:=xs) (λi zs H'=>Fqs Z.K H' zs ((st.take i).map (iR ds))) .nil (λ_ h=>(s1.trans h).seq hB) ?_ ?_
 .rintro i zs x H2 hx ⟨s2,e2,F2⟩ C hC;obtain⟨tt,s,rfl,es,hT⟩:=(hS.same (s1.trans s2)).get hx;have hi:i < st.length:=(wq.mp es).1;obtain⟨hlt,hw⟩:=hst s (mem_of_getElem? es);have hd:ds[s.1]?=some ds[s.1]:=getElem?_eq_getElem hlt;obtain⟨y,z,ey,rw0,fz⟩:=Rb.at hd;obtain⟨dr,hy⟩:=id (rw0.same s2);have at_:atI ys (s.1:Int)=some (.ref y):=cA ey;obtain⟨er,lw,bw⟩:=Kq hw;obtain⟨lp,bp⟩:=hK _ (mem_of_getElem? hd);have lz:=F2.length;rw[length_map,length_take] at lz;exists tt,_,rfl,hT,rfl,_,_,rfl,_,_,rfl,rfl,kJ.1,kJ.2,eY ?_;exists _,rfl,s.2,1,1,rfl,∅,by show (1:Nat) < 2 ^ 1;decide,(),λu H3 s3 e3=>?_;rw[er] at e3;exists _,rfl,_,rfl,a,ys,_,_,rfl,rfl,SqL.of ((s2.trans s3) _ _ ea),at_,?_;obtain⟨dr3,hy3⟩:=id (rw0.same (s2.trans s3));exists y,(zz3 Z) _,_,_,_,rfl,hy3,T.cl _,T.nZ _,hG _ _ _,u,z,(s.2,1),_,1,30,rfl,Fq.of e3,(s2.trans s3).fq fz,lw.pos,lp.pos,bw,bp,(),λv H4 s4 e4=>?_;have s24:=s3.trans s4;have e24:=s24 _ _ e2;exists e24,bH (),hC _ _ ⟨(s2.trans s24).change hD,aB,?_⟩;have ee:(st.take (i+1)).map (iR ds)=(st.take i).map (iR ds)++[uG (s.2,1) ds[s.1].2.2.2]:=by
   rw[take_add_one,es,map_append];show _++[iR ds s]=_;unfold iR;rw[er,getD_eq_getElem?_getD,hd];rfl
  rw[ee];exact((F2.same s24).app (.cons (Fq.of e4) .nil)).upd e24
 rintro zs H2 ⟨s2,e2,F2⟩;rw[lx,take_length] at F2;exists D,zs,_,41*st.length,rfl,SqL.of e2,F2,tE hK hst,Gh hK hst,(),λr H3 s3 f3=>q r H3 (s1.trans (s2.trans s3)) f3
theorem Y44:DZ 4 Z.f44 Z.d44 ["line","column","amount"] (qU Z.K) "raise_at":=by
 exists ?_,F44.b3 _ _ _ (by intros;rfl),F44.kp,m44
 refine F44.ok9 Wi λ_ _ _ s H _ Q E hr h=>?_;obtain⟨l,z,j,xs,ps,a,n,m,rfl,hl,hF,hj,p1,bp,fz,a1,ba,hn,q⟩:=h;exists _,(aF (jD (d9 Y8 hr rfl (aA (aK bX (pv 0) (pv 1)) (aA (pv 2) aD))) (qK (pv 0) (pv 1) jW))),?_;have lx:=hF.length;obtain⟨u,eu,fu⟩:=hF.at (jS hj);exists _,rfl,_,rfl,l,xs,_,_,rfl,rfl,SqL.of hl,cA eu,_,rfl,u,z,_,a,n,m,rfl,fu,fz,p1,a1,bp,ba,hn,λv H1 s1 e1=>?_;exists _,rfl,_,rfl,l,xs,_,j,rfl,rfl,s1 _ _ hl,mY (),q v H1 s1 (Fq.of e1)
theorem Y45:DZ 5 Z.f45 Z.d45 ["matrix","row","column","amount"] (vE Z.K (zz3 Z)) "enter_stream":=by
 exists ?_,F45.b4 _ _ _ _ (by intros;rfl),F45.kp,m45
 refine F45.ok9 Xv λ_ _ _ s H _ Q E hr h=>?_;obtain⟨D,x,z,zz,as,M,⟨k0,u,v,p⟩,w,n,k,c,a,rfl,mx,mb,rw,pt,hc,fz,la,ba,hn,q⟩:=h;have r3:=hr.mono (show 3<=4 by lia);refine⟨_,(aC (cC (aI Y44.G hr rfl m44 F44.kp Y44.b .nil aQ (aA (aK bX (pv 0) (cK (pv 1) rfl)) (aA (pv 2) (aA (pv 3) aD)))))
  (aF (cC (aI Y44.G hr rfl m44 F44.kp Y44.b .nil aQ (aA (aK bX (pv 0) (cK (pv 1) rfl)) (aA (pv 2) (aA (aI Y7.G r3 rfl m7 F7.kp Y7.b .nil aQ (aA (fL (v:=.ref Z.aN) rfl mv_NOUGHT rfl) (aA (pv 3) aD))) aD))))))),?_⟩
 obtain⟨i0,i1,j0,j1⟩:dL (w:Int) u v:=pt;obtain⟨uN,rfl⟩:∃uN:Nat,u=(uN:Int):=⟨u.toNat,()⟩
 obtain⟨vN,rfl⟩:∃vN:Nat,v=(vN:Int):=⟨v.toNat,()⟩
 have hu':uN < w:=by lia
 have hv':vN < w:=by lia
 obtain⟨ln,bn,_⟩:=oP la ba;obtain⟨dx,hx⟩:=id rw;obtain⟨e1,m44,w1⟩:=mb.row hu';obtain⟨e2,l2,Y7.b⟩:=mb.at hu' hc;have lam:=mx.la;obtain⟨a1,ha1⟩:∃a1,as[uN]?=some a1:=⟨_,getElem?_eq_getElem (by rw[lam,mb.h];exact hu')⟩
 obtain⟨xs,hxs,hF⟩:=mx.r uN a1 _ ha1 e1;have at1:atI (as.map V.ref) (uN:Int)=some (.ref a1):=cA (by rw[getElem?_map,ha1];rfl);exists _,rfl,_,rfl,x,(zz3 Z) _,_,_,_,rfl,hx,T.cl _,T.nS _,eX _ _ _,D,_,_,_,rfl,rfl,SqL.of mx.d,at1,_,rfl,_,rfl,a1,z,c,xs,_,a,n,k,rfl,hxs,hF,by rw[w1];exact hc,l2.pos,Y7.b,fz,la.pos,ba,(),λv1 H1 s1 f1=>?_;obtain⟨mx2,sx2⟩:=mx.set (j:=c) ha1 e1 hxs hF s1 f1;have mb2:=mb.rz hu' hc la ba;generalize upd H1 a1 (.lst (xs.set c (.ref v1)))=H2 at mx2 sx2 ⊢;have mx2:Mx Z.K H2 D as (rz M uN c a):=mx2;have ls:=mx.lsts;have fz2:Fq Z.K H2 z a:=sx2.seqT ls fz;obtain⟨dx2,hx2⟩:=id (sx2.rw ls rw);obtain⟨e3,m3,w3⟩:=mb2.row hv';obtain⟨e4,l4,b4⟩:=mb2.at hv' hc;obtain⟨a2,ha2⟩:∃a2,as[vN]?=some a2:=⟨_,getElem?_eq_getElem (by rw[lam,mb.h];exact hv')⟩
 obtain⟨xs2,hxs2,hF2⟩:=mx2.r vN a2 _ ha2 e3;have at2:atI (as.map V.ref) (vN:Int)=some (.ref a2):=cA (by rw[getElem?_map,ha2];rfl);have b01:Bd 1 (0,1):=⟨show (0:Nat) < 2 ^ 1 by decide,show (1:Nat) < 2 ^ 1 by decide⟩
 exists _,rfl,_,rfl,x,(zz3 Z) _,_,_,_,rfl,hx2,T.cl _,T.nG _,fQ _ _ _,D,_,_,_,rfl,rfl,SqL.of mx2.d,at2,_,rfl,_,rfl,Z.aN,z,(0,1),a,1,k,rfl,fN _,fz2,∅,la.pos,b01,ba,(),λv3 H3 s3 e5=>?_;exists a2,v3,c,xs2,_,_,n+k+1,k+2,rfl,s3 _ _ hxs2,hF2.same s3,by rw[w3];exact hc,l4.pos,b4,Fq.of e5,ln.pos,bn,(),λv4 H4 s4 f4=>?_;obtain⟨mx3,sx3⟩:=(mx2.same s3).set (j:=c) ha2 e3 (s3 _ _ hxs2) (hF2.same s3) s4 f4;exact q _ (sx2.trans (s3.sx.trans sx3)) mx3
theorem Y46:DZ 6 Z.f46 Z.d46 ["matrix","row"] (yA Z.K (zz3 Z)) "enter_piece":=by
 exists ?_,F46.b2 _ _ (by intros;rfl),F46.kp,m46
 refine F46.ok9 Es λ_ _ _ s H _ Q E hr h=>?_;obtain⟨D,x,zz,as,M,⟨k0,u,v,p⟩,w,n,k,rfl,mx,mb,rw,fp,pt,lp,p0,bp,hn,q⟩:=h;have r3:=hr.mono (show 3<=5 by lia);refine⟨_,(aC (qQ1 (i:=2) Es.nd (d9 Y11 r3 rfl (aA (fL (v:=.ref Z.aO) rfl mv_ONE rfl) (aA (cK (pv 1) rfl) aD))))
  (aC (cC (d9 Y45 hr rfl (aA (pv 0) (aA (pv 1) (aA (cK (pv 1) rfl) (aA (pv 2) aD))))))
  (aF (cC (d9 Y45 hr rfl (aA (pv 0) (aA (pv 1) (aA (cK (pv 1) rfl) (aA (d9 Y7 r3 rfl (aA (fL (v:=.ref Z.aN) rfl mv_NOUGHT rfl) (aA (pv 2) aD))) aD))))))))),?_⟩
 have lp:Low p:=lp;have p0:0 < p.1:=p0;have bp:Bd k p:=bp;have fp:Fq Z.K H zz p:=fp;obtain⟨i0,i1,j0,j1⟩:dL (w:Int) u v:=pt;obtain⟨uN,rfl⟩:∃uN:Nat,u=(uN:Int):=⟨u.toNat,()⟩
 obtain⟨vN,rfl⟩:∃vN:Nat,v=(vN:Int):=⟨v.toNat,()⟩
 obtain⟨ls,bs,_⟩:=Fc lp p0 bp;obtain⟨ln,bn,_⟩:=oP ls bs;have pt':dL (w:Int) (uN:Int) (vN:Int):=⟨i0,i1,j0,j1⟩
 obtain⟨dx,hx⟩:=id rw;exists _,rfl,x,(zz3 Z) _,_,_,_,rfl,hx,T.cl _,T.nZ _,hG _ _ _,Z.aO,zz,(1,1),p,1,k,rfl,fO _,fp,h11,lp.pos,p0,kA,bp,(),λs' H1 s1 e1=>?_;have fs:Fq Z.K H1 s' (mP (1,1) p):=Fq.of e1;have rw1:=rw.same s1;obtain⟨dx1,hx1⟩:=id rw1;have mx1:=mx.same s1;exists _,rfl,_,rfl,_,rfl,x,(zz3 Z) _,_,_,_,rfl,hx1,T.cl _,T.nS _,eX _ _ _,_,rfl,D,x,s',_,as,M,(k0,(uN:Int),(vN:Int),p),w,n,k+1,uN,_,rfl,mx1,mb,rw1,pt',(),fs,ls,bs,(),λH2 sx2 mx2=>?_;have lst:=mx1.lsts;have fs2:Fq Z.K H2 s' (mP (1,1) p):=sx2.seqT lst fs;have rw2:=sx2.rw lst rw1;obtain⟨dx2,hx2⟩:=id rw2;obtain⟨mb2,_⟩:=Eo (d:=(k0,(uN:Int),(vN:Int),p)) mb pt' (c:=uN) () ls bs;have b01:Bd 1 (0,1):=⟨show (0:Nat) < 2 ^ 1 by decide,show (1:Nat) < 2 ^ 1 by decide⟩
 exists _,rfl,_,rfl,_,rfl,x,(zz3 Z) _,_,_,_,rfl,hx2,T.cl _,T.nG _,fQ _ _ _,_,rfl,Z.aN,s',(0,1),_,1,k+1,rfl,fN _,fs2,∅,ls.pos,b01,bs,(),λv3 H3 s3 e3=>?_;exists D,x,v3,_,as,_,(k0,(uN:Int),(vN:Int),p),w,n+2*(k+1)+4,k+3,vN,_,rfl,mx2.same s3,mb2,rw2.same s3,pt',(),Fq.of e3,ln,bn,(),λH4 sx4 mx4=>?_;exact q H4 (s1.sx.trans (sx2.trans (s3.sx.trans sx4))) mx4
theorem Y47:DZ 5 Z.f47 Z.d47 ["right","row"] (wG Z.K (zz3 Z)) "enter_push":=by
 exists ?_,F47.b2 _ _ (by intros;rfl),F47.kp,m47
 refine F47.ok9 Sl λ_ _ _ s H _ Q E hr h=>?_;obtain⟨R,x,zz,ys,rs,⟨k0,u,v,p⟩,w,n,k,rfl,eR,hF,lb,rw,fp,pt,lp,bp,hn,q⟩:=h;have r3:=hr.mono (show 3<=4 by lia);refine⟨_,(aC (cC (d9 Y44 hr rfl (aA (pv 0) (aA (cK (pv 1) rfl) (aA (d9 Y7 r3 rfl (aA (fL (v:=.ref Z.aN) rfl mv_NOUGHT rfl) (aA (cK (pv 1) rfl) aD))) aD)))))
  (aF (cC (d9 Y44 hr rfl (aA (pv 0) (aA (cK (pv 1) rfl) (aA (cK (pv 1) rfl) aD))))))),?_⟩
 have lp:Low p:=lp;have bp:Bd k p:=bp;have fp:Fq Z.K H zz p:=fp;obtain⟨i0,i1,j0,j1⟩:dL (w:Int) u v:=pt;obtain⟨uN,rfl⟩:∃uN:Nat,u=(uN:Int):=⟨u.toNat,()⟩
 obtain⟨vN,rfl⟩:∃vN:Nat,v=(vN:Int):=⟨v.toNat,()⟩
 obtain⟨ln,bn,_⟩:=oP lp bp;obtain⟨dx,hx⟩:=id rw;obtain⟨_,l1,b1⟩:=lb.at (j:=uN) ();have b01:Bd 1 (0,1):=⟨show (0:Nat) < 2 ^ 1 by decide,show (1:Nat) < 2 ^ 1 by decide⟩
 exists _,rfl,_,rfl,x,(zz3 Z) _,_,_,_,rfl,hx,T.cl _,T.nS _,eX _ _ _,_,rfl,x,(zz3 Z) _,_,_,_,rfl,hx,T.cl _,T.nZ _,hG _ _ _,Z.aN,zz,(0,1),p,1,k,rfl,fN _,fp,∅,lp.pos,b01,bp,(),λv1 H1 s1 e1=>?_;exists R,v1,uN,ys,rs,_,n,k+2,rfl,s1 _ _ eR,hF.same s1,by rw[lb.w];lia,l1.pos,b1,Fq.of e1,ln.pos,bn,(),λv2 H2 s2 f2=>?_;have s12:=s1.trans s2;have eR2:=s12 _ _ eR;have F3:=(Fqs.set f2 uN (hF.same s12)).upd (o:=.lst (ys.set uN (.ref v2))) eR2;have e3:upd H2 R (.lst (ys.set uN (.ref v2))) R=some (.lst (ys.set uN (.ref v2))):=aB;have sx3:SX [R] H (upd H2 R (.lst (ys.set uN (.ref v2)))):=s12.sx.write ⋯;have fp3:Fq Z.K (upd H2 R (.lst (ys.set uN (.ref v2)))) zz p:=SqT.upd (s12.fq fp) eR2;have rw3:=(rw.same s12).upd (o:=.lst (ys.set uN (.ref v2))) eR2;generalize upd H2 R (.lst (ys.set uN (.ref v2)))=H3 at F3 e3 sx3 fp3 rw3 ⊢;have lb3:=lb.rz (j:=uN) () ln bn;have F3:Fqs Z.K H3 (ys.set uN (.ref v2)) (rzl rs uN (Mq.minus (0,1) p)):=F3;obtain⟨_,l4,b4⟩:=lb3.at (j:=vN) ();obtain⟨dx3,hx3⟩:=id rw3;exists _,rfl,_,rfl,x,(zz3 Z) _,_,_,_,rfl,hx3,T.cl _,T.nG _,fQ _ _ _,_,rfl,x,(zz3 Z) _,_,_,_,rfl,hx3,T.cl _,T.nZ _,hG _ _ _,R,zz,vN,_,_,p,n+(k+2)+1,k,rfl,e3,F3,by rw[lb3.w];lia,l4.pos,b4,fp3,lp.pos,bp,(),λv5 H5 s5 f5=>?_;refine q _ _ (sx3.trans (s5.sx.write ⋯)) aB ?_;exact(Fqs.set f5 vN (F3.same s5)).upd (s5 _ _ e3)
theorem Y48:DZ 6 Z.f48 Z.d48 ["matrix","right","row","column"] (wT Z.K (zz3 Z)) "enter_hold":=by
 exists ?_,F48.b4 _ _ _ _ (by intros;rfl),F48.kp,m48
 refine F48.ok9 Ur λ_ _ _ s H _ Q E hr h=>?_;obtain⟨D,R,x,zz,as,M,ys,rs,⟨k0,u,v,p⟩,w,n,c,rfl,mx,mb,eR,hFR,lr,nRD,nRa,rw,fp,pt,hc,hn,q⟩:=h;have r3:=hr.mono (show 3<=5 by lia);have r4:=hr.mono (show 4<=5 by lia);refine⟨_,(aC (cC (aI Y45.G hr rfl m45 F45.kp Y45.b .nil aQ (aA (pv 0) (aA (pv 2) (aA (pv 3) (aA (fL (v:=.ref Z.aO) rfl mv_ONE rfl) aD))))))
  (aC (cC (aI Y44.G r4 rfl m44 F44.kp Y44.b .nil aQ (aA (aK bX (pv 0) (pv 3)) (aA (cK (pv 2) rfl) (aA (fL (v:=.ref Z.aO) rfl mv_ONE rfl) aD)))))
  (aC (cC (aI Y44.G r4 rfl m44 F44.kp Y44.b .nil aQ (aA (aK bX (pv 0) (pv 3)) (aA (cK (pv 2) rfl) (aA (aI Y7.G r3 rfl m7 F7.kp Y7.b .nil aQ (aA (fL (v:=.ref Z.aN) rfl mv_NOUGHT rfl) (aA (fL (v:=.ref Z.aO) rfl mv_ONE rfl) aD))) aD)))))
  (aF (jD (cK (pv 2) rfl) (qK (pv 1) (pv 3) jW)))))),?_⟩
 have fp:Fq Z.K H zz p:=fp;obtain⟨i0,i1,j0,j1⟩:dL (w:Int) u v:=pt;obtain⟨uN,rfl⟩:∃uN:Nat,u=(uN:Int):=⟨u.toNat,()⟩
 obtain⟨vN,rfl⟩:∃vN:Nat,v=(vN:Int):=⟨v.toNat,()⟩
 have pt':dL (w:Int) (uN:Int) (vN:Int):=⟨i0,i1,j0,j1⟩
 obtain⟨ln,bn,_⟩:=oP kN kA;have lam:=mx.la;exists _,rfl,_,rfl,_,rfl,D,x,Z.aO,_,as,M,(k0,(uN:Int),(vN:Int),p),w,n,1,c,(1,1),rfl,mx,mb,rw,pt',hc,fO _,kN,kA,(),λH1 sx1 mx1=>?_;have lst:=mx.lsts;have rw1:=sx1.rw lst rw;have fp1:Fq Z.K H1 zz p:=sx1.seqT lst fp;have eR1:=sx1 _ _ eR nRa;have FR1:=SX.fqs lst sx1 hFR;obtain⟨mb1,_⟩:=Eo (d:=(k0,(uN:Int),(vN:Int),p)) mb pt' hc kN kA;generalize hM1:en M (k0,(uN:Int),(vN:Int),p) c (1,1)=M1 at mx1 mb1;obtain⟨ac,hac⟩:∃ac,as[c]?=some ac:=⟨_,getElem?_eq_getElem (by rw[lam,mb.h];exact hc)⟩
 have atc:atI (as.map V.ref) (c:Int)=some (.ref ac):=cA (by rw[getElem?_map,hac];rfl);obtain⟨e1,m45,w1⟩:=mb1.row hc;obtain⟨_,l2,Y44.b⟩:=mb1.at hc (j:=uN) ();obtain⟨xs,hxs,hF⟩:=mx1.r c ac _ hac e1;obtain⟨dx1,hx1⟩:=id rw1;exists _,rfl,_,rfl,D,_,_,_,rfl,rfl,SqL.of mx1.d,atc,_,rfl,x,(zz3 Z) _,_,_,_,rfl,hx1,T.cl _,T.nS _,eX _ _ _,ac,Z.aO,uN,xs,_,(1,1),n+2*1+4,1,rfl,hxs,hF,by rw[w1];lia,l2.pos,Y44.b,fO _,h11,kA,(),λv1 H2 s2 f2=>?_;obtain⟨mx3,sx3⟩:=mx1.set (j:=uN) hac e1 hxs hF s2 f2;have lst1:=mx1.lsts;generalize upd H2 ac (.lst (xs.set uN (.ref v1)))=H3 at mx3 sx3 ⊢;have mb3:=mb1.rz hc (j:=uN) () kN kA;have mx3:Mx Z.K H3 D as (rz M1 c uN (1,1)):=mx3;have rw3:=sx3.rw lst1 rw1;have fp3:Fq Z.K H3 zz p:=sx3.seqT lst1 fp1;have eR3:=sx3 _ _ eR1 nRa;have FR3:=SX.fqs lst1 sx3 FR1;generalize hM3:rz M1 c uN (1,1)=M3 at mx3 mb3;obtain⟨e3,m7,w3⟩:=mb3.row hc;obtain⟨_,l4,b4⟩:=mb3.at hc (j:=vN) ();obtain⟨xs3,hxs3,hF3⟩:=mx3.r c ac _ hac e3;obtain⟨dx3,hx3⟩:=id rw3;exists _,rfl,_,rfl,D,_,_,_,rfl,rfl,SqL.of mx3.d,atc,_,rfl,x,(zz3 Z) _,_,_,_,rfl,hx3,T.cl _,T.nG _,fQ _ _ _,Z.aN,Z.aO,(0,1),(1,1),1,1,rfl,fN _,fO _,∅,h11,⟨show (0:Nat) < 2 ^ 1 by decide,show (1:Nat) < 2 ^ 1 by decide⟩,kA,(),λv4 H4 s4 e4=>?_;exists ac,v4,vN,xs3,_,_,n+2*1+4+1+1,1+2,rfl,s4 _ _ hxs3,hF3.same s4,by rw[w3];lia,l4.pos,b4,Fq.of e4,ln.pos,bn,(),λv5 H5 s5 f5=>?_;obtain⟨mx6,sx6⟩:=(mx3.same s4).set (j:=vN) hac e3 (s4 _ _ hxs3) (hF3.same s4) s5 f5;have sx36:=(aX.sx (as:=as) s4).trans sx6;have lst3:=mx3.lsts;generalize upd H5 ac (.lst (xs3.set vN (.ref v5)))=H6 at mx6 sx6 sx36 ⊢;have mx6:Mx Z.K H6 D as (rz M3 c vN (Mq.minus (0,1) (1,1))):=mx6;have rw6:=sx36.rw lst3 rw3;have fp6:Fq Z.K H6 zz p:=sx36.seqT lst3 fp3;have eR6:=sx36 _ _ eR3 nRa;have FR6:=SX.fqs lst3 sx36 FR3;obtain⟨dx6,hx6⟩:=id rw6;have ly:=FR6.length;exists _,rfl,x,(zz3 Z) _,_,_,_,rfl,hx6,T.cl _,T.nZ _,hG _ _ _,_,rfl,_,rfl,R,ys,_,c,rfl,rfl,eR6,mY (),?_;have eM:hM M (k0,(uN:Int),(vN:Int),p) c=rz M3 c vN (Mq.minus (0,1) (1,1)):=by rw[<- hM3,<- hM1];rfl
 have mx7:=mx6.other (o:=.lst (ys.set c (.ref zz))) eR6 nRD nRa;rw[<- eM] at mx7;refine q _ _ ?_ mx7 aB ((Fqs.set fp6 c FR6).upd eR6);refine SX.write (SX.mono (sx1.trans (sx3.trans sx36)) λx hx=>mem_cons_of_mem _ hx) ⋯
theorem Y49:DZ 7 Z.f49 Z.d49 ["net"] (Ja Z.c_Net Z.K) "equations":=by
 exists ?_,F49.b1 _ (by intros;rfl),F49.kp,m49
 refine F49.ok9 rH λ_ _ _ s H _ Q E hr h=>?_;obtain⟨n,l,m,kb,ds,rfl,nt,hK,hm1,hm20,h40,hbig,q⟩:=h;have r1:=hr.mono (show 1<=6 by lia);have r4:=hr.mono (show 4<=6 by lia);have r5:=hr.mono (show 5<=6 by lia);refine⟨_,(aC (qQ1 (i:=1) rH.nd (fY (pv 0) NTx.cl X3 R35 r4 b35 .nil aQ))
  (aC (qQ1 (i:=2) rH.nd (fY (pv 0) NTx.cl X2 R31 r1 b31 .nil aQ))
  (aC (aT (i:=3) rH.nd rfl (Or.inr rfl) (bC gF (pv 2) (cB bV rfl n_len PySem.boot_len (aA (dD (nl:=1) (fr:=[]) (Nc:=["row"]) (cl:=[]) rfl ⟨rfl,rfl,∅,∅,λx c h=>(by cases h),dI rfl,rfl,λi n h=>(by simp at h)⟩
    (cG (pv 1)) (λ_ _ _ _ _=>(qQ0 (i:=0) qf9)) (λ_ _ _ _ _=>(rF (bK dY (iL (pv 0) T.cl mW GW r1 bW .nil aQ) cL (bM _))))
    (λ_ _ _ _ _=>(pv 0))) aD))))
  (aC (rN (i:=4) (nl:=1) (fr:=[3]) (Nc:=["line","width"]) (cl:=[("width",s.heap.objs.size+1)]) rH.nd rfl rfl rfl ⟨rfl,rfl,∅,∅,λx c h=>h,dI rfl,rfl,λi n h=>match i,h with | 0,h=>by cases h;exact⟨3,rfl,rfl,rfl,rfl,.inl rfl⟩ | k+1,h=>by rw[show 1+(k+1)=k+2 by lia] at h;cases h⟩
    (fA rfl n_range (aA (pv 3) aD)) (λ_ _ _ _ _=>(qQ0 (i:=0) zB)) (λ_ _ _ _ _=>dC)
    (λ_ _ _ _ _=>(bC sZ (dZ (aA (fL (v:=.ref Z.aN) rfl mv_NOUGHT rfl) aD)) (pv 1))) rfl)
  (aC (qQ1 (i:=5) rH.nd (bC sZ (dZ (aA (fL (v:=.ref Z.aN) rfl mv_NOUGHT rfl) aD)) (pv 3)))
  (aC (qQ1 (i:=6) rH.nd (pv 2))
  (aC (eO PassesOwn.never rfl (cG (pv 1)) (qQ0 (i:=7) rH.nd)
   (aF (cD (bK dY (iL (pv 7) T.cl mW GW r1 bW .nil aQ) cL (bM _)) (aF (cC (d9 Y46 hr rfl (aA (pv 4) (aA (pv 7) aD))))) (aF (cD (bK dY (iL (pv 7) T.cl mW GW r1 bW .nil aQ) cL (bM _)) (aF (cC (d9 Y47 r5 rfl (aA (pv 5) (aA (pv 7) aD))))) (aC (cC (d9 Y48 hr rfl (aA (pv 4) (aA (pv 5) (aA (pv 7) (aA (pv 6) aD))))))
  (aF (Ho (i:=6) rH.nd rfl (Or.inl rfl) aE Gx))))))))
  (aF (aW (dA (aA (dD (nl:=1) (fr:=[]) (Nc:=["line"]) (cl:=[]) rfl ⟨rfl,rfl,∅,∅,λx c h=>(by cases h),dI rfl,rfl,λi n h=>(by simp at h)⟩
    (cG (gE iT (pv 4) (fV aE) jG)) (λ_ _ _ _ _=>(qQ0 (i:=0) Ww)) (λ_ _ _ _ _=>dC)
    (λ_ _ _ _ _=>(gE (No (K:=Z.K) rfl) (pv 0) (fV aE) jG))) (aA (gE iT (pv 5) (fV aE) jG) aD)))))))))))),?_⟩
 obtain⟨dx,hn⟩:=nt.ob;exists _,rfl,n,dx,_,rfl,hn,gQ _ _ ∅ ∅,n,l,_,ds,rfl,nt,(),λa xs H1 s1 na ea Rb=>?_;have lxs:=Rb.length;obtain⟨dx1,hn1⟩:=(nt.same s1).ob;exists _,rfl,n,dx1,_,rfl,hn1,gQ _ _ ∅ ∅,n,l,_,ds,rfl,nt.same s1,?_;exists _,rfl,_,rfl,a,rfl,⟨_,SqL.of ea⟩,λC0 hC0=>?_;have sC0:=aG hC0 (.lst []);refine clS hC0 (xs:=xs) (λi zs H'=>zs.length=bZ (ds.take i)) rfl (λ_ h=>h.seq (SqL.of ea)) ?_ ?_
 .rintro i zs x H2 hx ⟨s2,e2,lz⟩ C hC;have hi:i < ds.length:=by
   have:=(wq.mp hx).1;lia
  obtain⟨⟨k0,u,v,p⟩,hd⟩:∃d,ds[i]?=some d:=⟨_,getElem?_eq_getElem hi⟩
  obtain⟨y,z,ey,rw,fz⟩:=Rb.at hd;have ex:x=.ref y:=by rw[ey] at hx;exact(Option.some.inj hx).symm
  subst ex;obtain⟨dr,hy⟩:=id (rw.same s2);have et:ds.take (i+1)=ds.take i++[(k0,u,v,p)]:=by rw[take_add_one,hd];rfl
  have lh:=Cp (ds:=ds) i;have lh2:bZ ds<=ds.length:=length_filter_le _ _;exists cZ.1,cZ.2,?_;exists _,rfl,k0,y,dr,_,rfl,hy,(gH _ _ _ ∅ ∅ ∅),_,rfl,rfl,_,rfl,?_
  by_cases hk:k0=.ho
  .refine ifT (zzT k0 .ho hk) ⟨_,rfl,e2,bH (),hC _ _ ⟨s2.change hC0,aB,?_⟩⟩;rw[et,gO,xj,lz];show _+1=_+cF k0;unfold cF;rw[if_pos hk]
  .refine ifF (zzF k0 .ho hk) (hC _ _ ⟨s2,e2,?_⟩);rw[et,gO,lz];show _=_+cF k0;unfold cF;rw[if_neg hk];rfl
 rintro zs0 H2 ⟨s2,e2,lz0⟩;rw[lxs,take_length] at lz0;exists C0,zs0,rfl,.inl (SqL.of e2),_,_,rfl,rfl,?_;obtain⟨W,hW⟩:∃W:Nat,W=m+bZ ds:=⟨_,rfl⟩
 have lh2:bZ ds<=ds.length:=length_filter_le _ _;have eW:(m:Int)+(zs0.length:Int)=(W:Int):=by rw[lz0,hW];lia
 show iD _ _ _ [some (.ref n),some (.ref a),some (.int (m:Int)),some (.int ((m:Int)+(zs0.length:Int))),none,none,none,none] H2;rw[eW];have hW60:W<=60:=by lia
 have hmW:m<=W:=by lia
 have s12:=s2;clear e2 sC0;exists _,rfl,(W:Int),rfl,(),(),λD hD=>?_;rw[Int.toNat_natCast];refine Uz (K:=Z.K) hD hW60 (λi H3 Zq s3 zQ9=>?_) λas H3 s3 mx3 fr=>?_
 .exists zl9 1,λl1 hl1=>?_;obtain⟨H4,zq,s4,e4⟩:=nw hl1 (.lst [.ref Z.aN]);rw[zq];exists _,rfl,l1,(W:Int),[.ref Z.aN],rfl,rfl,e4,(),(),?_,λb hb=>?_
  .rw[Int.toNat_natCast,sizeLine_eq];simp only[length_cons,length_nil];lia
  rw[Int.toNat_natCast,lK];exact zQ9 b _ _ (s4.trans (aG hb _)) (s4.free hb) aB (mD (fN _) W)
 have nDH:H2 D=none:=hD;exists zl9 1,λl1 hl1=>?_;obtain⟨H4,zq,s4,e4⟩:=nw hl1 (.lst [.ref Z.aN]);rw[zq];exists _,rfl,l1,(W:Int),[.ref Z.aN],rfl,rfl,e4,(),(),?_,λR hR=>?_
 .rw[Int.toNat_natCast,sizeLine_eq];simp only[length_cons,length_nil];lia
 rw[Int.toNat_natCast,lK];obtain⟨H5,zq,s5,e5⟩:=nw hR (.lst (replicate W (.ref Z.aN)));rw[zq];have s25:=s3.trans (s4.trans s5);have nRH:H2 R=none:=(s3.trans s4).free hR;have nRD:R≠D:=Ne.symm (bL ((s4) _ _ mx3.d) hR);have nRa:R∉as:=λz=>by obtain⟨ws,h⟩:=mx3.lsts R z;rw[s4 _ _ h] at hR;cases hR
 have mx5:=(mx3.same s4).same s5;have allN:∀b∈R :: as,H2 b=none:=λb hb=>by
  rcases mem_cons.mp hb with z | z
  .rw[z];exact nRH
  .exact fr b z
 have F5:Fqs Z.K H5 (replicate W (.ref Z.aN)) (replicate W (0,1)):=mD (fN _) W;exists _,rfl,?_;have eaH:=s12 _ _ ea;have Rb2:=Rb.same s12;exists _,rfl,a,rfl,⟨_,SqL.of (s25 _ _ eaH)⟩,?_;refine eU (xs:=xs) (λi σ H'=>aX H2 H'/\∃(M:List (List Q2)) (ys:wk) (rs:List Q2) (z7:Option V),σ=[some (.ref n),some (.ref a),some (.int (m:Int)),some (.int (W:Int)),some (.ref D),some (.ref R),some (.int ((m+bZ (ds.take i):Nat):Int)),z7]/\Mx Z.K H' D as M/\MxB M W W (mV kb i+1)/\H' R=some (.lst ys)/\Fqs Z.K H' ys rs/\LnB rs W (mV kb i+1)/\(∀x y,Mq.val (iY M x y)=eqM m (ds.take i) x y)/\∀x,Mq.val (rs.getD x (0,1))=eqR m (ds.take i) x) ⟨s25,_,_,_,none,rfl,mx5,Vk W,e5,F5,Yg W,λx y=>by rw[Fw,rM];rfl,λx=>by rw[pF,rM];rfl⟩ (λi σ H' _ h=>h.1.seq (SqL.of eaH)) ?_ ?_
 .rintro i x σ H6 hx ⟨s6,M,ys,rs,z7,rfl,mx,mb,eR,FR,lb,vM,vR⟩;have hi:i < ds.length:=by
   have:=(wq.mp hx).1;lia
  obtain⟨⟨k0,u,v,p⟩,hd⟩:∃d,ds[i]?=some d:=⟨_,getElem?_eq_getElem hi⟩
  obtain⟨y,z,ey,rw0,fz0⟩:=Rb2.at hd;have ex:x=.ref y:=by rw[ey] at hx;exact(Option.some.inj hx).symm
  subst ex;obtain⟨rd,bp⟩:=hK i _ hd;have lp:Low p:=rd.2.2.2.2.1;have bp:Bd (kb i) p:=bp;have ptm:dL (m:Int) u v:=⟨rd.1,rd.2.1,rd.2.2.1,rd.2.2.2.1⟩
  have ptW:dL (W:Int) u v:=⟨rd.1,by have:=rd.2.1;show u < (W:Int);have h2:u < (m:Int):=this;lia,rd.2.2.1,by have h2:v < (m:Int):=rd.2.2.2.1;show v < (W:Int);lia⟩
  have rw6:=rw0.same s6;have fz6:Fq Z.K H6 z p:=s6.fq fz0;obtain⟨dr,hy⟩:=id rw6;have et:ds.take (i+1)=ds.take i++[(k0,u,v,p)]:=by rw[take_add_one,hd];rfl
  have hh:=Cp (ds:=ds) (i+1);rw[et,gO] at hh;have hh:bZ (ds.take i)+cF k0<=bZ ds:=hh;have eN:mV kb (i+1)+1=(mV kb i+1)+(4*kb i+20):=by show mV kb i+(4*kb i+20)+1=_;lia
  have leN:mV kb i+(4*kb i+20)<=mV kb ds.length:=zP kb (i:=i+1) hi;have eM:∀x y,eqM m (ds.take (i+1)) x y=eqM m (ds.take i) x y+cM (k0,u,v,p) (m+bZ (ds.take i)) x y:=λx y=>by rw[et,yK]
  have eRr:∀x,eqR m (ds.take (i+1)) x=eqR m (ds.take i) x+cR (k0,u,v,p) (m+bZ (ds.take i)) x:=λx=>by rw[et,wW]
  have eH:bZ (ds.take (i+1))=bZ (ds.take i)+cF k0:=by rw[et,gO]
  rw[eN,eH];have lst:=mx.lsts
  cases k0 with
  |pc=>
   have p0:0 < p.1:=rd.2.2.2.2.2.1 rfl;exists _,rfl,Kd.pc,y,dr,_,rfl,hy,(gH _ _ _ ∅ ∅ ∅),_,rfl,rfl,_,rfl,ifT (zzT .pc .pc rfl) ?_;exists _,rfl,_,rfl,D,y,z,as,M,(.pc,u,v,p),W,mV kb i+1,kb i,rfl,mx,mb,rw6,fz6,ptW,lp,p0,bp,(),λH7 sx7 mx7=>?_;obtain⟨mb7,v7⟩:=qq9 (d:=(.pc,u,v,p)) (h:=m+bZ (ds.take i)) mb ptm hmW rfl lp p0 bp;have eR7:=sx7 _ _ eR nRa;exists SX.same s6 sx7 fr,_,ys,rs,_,rfl,mx7,mb7.mono (),eR7,SX.fqs lst sx7 FR,lb.mono (),λx y=>by rw[v7,vM,eM],λx=>?_;rw[vR,eRr];show _=_+(0:Rat)
   rw[Rat.add_zero]
  |pu=>
   exists _,rfl,Kd.pu,y,dr,_,rfl,hy,(gH _ _ _ ∅ ∅ ∅),_,rfl,rfl,_,rfl,ifF (zzF .pu .pc ∅) ?_;exists _,rfl,Kd.pu,y,dr,_,rfl,hy,(gH _ _ _ ∅ ∅ ∅),_,rfl,rfl,_,rfl,ifT (zzT .pu .pu rfl) ?_;exists _,rfl,_,rfl,R,y,z,ys,rs,(.pu,u,v,p),W,mV kb i+1,kb i,rfl,eR,FR,lb,rw6,fz6,ptW,lp,bp,(),λys' H7 sx7 eR7 F7=>?_;obtain⟨lb7,v7⟩:=qo0 (d:=(.pu,u,v,p)) (h:=m+bZ (ds.take i)) lb ptm hmW rfl lp bp;have mx7:Mx Z.K H7 D as M:=⟨sx7 _ _ mx.d (by simp;exact Ne.symm nRD),mx.n,mx.nd,mx.la,λi' b ps h1 h2=>by
    obtain⟨ws,h,f⟩:=mx.r i' b ps h1 h2;refine⟨ws,sx7 _ _ h (by simp;exact λz=>nRa (by rw[<- z];exact mem_of_getElem? h1)),SX.fqs (as:=[R]) (λc hc=>?_) sx7 f⟩;have:c=R:=by simpa using hc
    exact⟨ys,by rw[this];exact eR⟩⟩
   refine⟨SX.same s6 sx7 (λc hc=>by have:c=R:=(by simpa using hc);rw[this];exact nRH),M,ys',_,_,rfl,mx7,mb.mono (),eR7,F7,lb7.mono (),λx y=>?_,λx=>by rw[v7,vR,eRr]⟩;rw[vM,eM];show _=_+(0:Rat)
   rw[Rat.add_zero]
  |ho=>
   have hc1:cF Kd.ho=1:=rfl;rw[hc1] at hh;have hcW:m+bZ (ds.take i) < W:=by lia
   exists _,rfl,Kd.ho,y,dr,_,rfl,hy,(gH _ _ _ ∅ ∅ ∅),_,rfl,rfl,_,rfl,ifF (zzF .ho .pc ∅) ?_;exists _,rfl,Kd.ho,y,dr,_,rfl,hy,(gH _ _ _ ∅ ∅ ∅),_,rfl,rfl,_,rfl,ifF (zzF .ho .pu ∅) ?_;exists _,rfl,_,rfl,_,rfl,_,rfl,D,R,y,z,as,M,ys,rs,(.ho,u,v,p),W,mV kb i+1,m+bZ (ds.take i),rfl,mx,mb,eR,FR,lb.w,nRD,nRa,rw6,fz6,ptW,hcW,(),λys' H7 sx7 mx7 eR7 F7=>?_;obtain⟨mb7,v7⟩:=ql3 (d:=(.ho,u,v,p)) mb ptm hmW hcW rfl;have z0:Mq.val (rs.getD (m+bZ (ds.take i)) (0,1))=0:=by
    rw[vR];exact tD (m:=m) _ _ _ (λd hd'=>by
     obtain⟨i1,hi1⟩:=getElem?_of_mem (mem_of_mem_take hd');have:=(hK i1 d hi1).1;exact⟨this.1,this.2.1,this.2.2.1,this.2.2.2.1⟩) (Nat.le_refl _) (Nat.le_refl _)
   obtain⟨lb7,w7⟩:=qp8 (m:=m) (d:=(.ho,u,v,p)) lb hcW rfl lp bp z0;exists _,rfl,_,_,rfl,rfl,?_;refine⟨SX.same s6 sx7 allN,_,ys',_,some (.ref y),?_,mx7,mb7.mono (),eR7,F7,lb7.mono (),λx y=>by rw[v7,vM,eM],λx=>by rw[w7,vR,eRr]⟩;have e1:((m+bZ (ds.take i):Nat):Int)+1=((m+(bZ (ds.take i)+cF Kd.ho):Nat):Int):=by rw[hc1];lia
   rw[<- e1];rfl
 rintro σ H6 ⟨s6,M,ys,rs,z7,rfl,mx,mb,eR,FR,lb,vM,vR⟩;rw[lxs] at mb lb vM vR;rw[take_length] at vM vR;exists _,rfl,1,rfl,D,_,rfl,SqL.of mx.d,λC hC=>?_;rw[Aj];obtain⟨H7,zq,s7,e7⟩:=nw hC (.lst ((as.map V.ref).drop 1));rw[zq];have mx7:=mx.same s7;exists C,rfl,⟨_,SqL.of e7⟩,λP hP=>?_;refine Dz mx7 e7 hP (by rw[mb.h];exact hW60) λus H8 s8 e8 fm nP=>?_;have s78:=s7.trans s8;have eR8:=s78 _ _ eR;exists _,rfl,1,rfl,R,_,rfl,SqL.of eR8,λr hr'=>?_;rw[Aj];obtain⟨H9,zq,s9,e9⟩:=nw hr' (.lst (ys.drop 1));rw[zq];exists zl9 2,λt ht=>?_;have sT:=aG ht (.tup [.ref P,.ref r]);have s9T:=s9.trans sT;have s0:aX H (upd H9 t (.tup [.ref P,.ref r])):=s1.trans (s12.trans (s6.trans (s78.trans s9T)));have s07:aX H H7:=s1.trans (s12.trans (s6.trans s7));have fl:∀c,H7 c=none->H c=none:=λc h=>s07.free h;refine q t P r us (ys.drop 1) ((M.drop 1).map (List.drop 1)) (rs.drop 1) _ s0 aB (fl P hP) ((s07.trans s8).free hr') (s9T _ _ e8) (sT _ _ e9) ⟨fm.l,λi x ps h1 h2=>?_⟩ (Fqs.drop1 (FR.same (s78.trans s9T))) (λx hx=>⟨nP x hx,?_⟩) ⟨?_,?_,?_,?_⟩
 .obtain⟨a',xs',q1,q2,q3,q4⟩:=fm.r i x ps h1 h2;exists a',xs',q1,fl a' q2,s9T _ _ q3,q4.same s9T
 .intro z;obtain⟨i,hi⟩:=getElem?_of_mem hx;have il:i < ((M.drop 1).map (List.drop 1)).length:=by rw[<- fm.l];exact(wq.mp hi).1
  obtain⟨a',xs',q1,q2,q3,q4⟩:=fm.r i x _ hi (getElem?_eq_getElem il);rw[q1] at z;have:a'=r:=by injection z
  rw[<- this,q3] at hr'
  cases hr'
 .have:=Qz mb
  rwa [show W - 1=m - 1+bZ ds by lia] at this
 .have:=Qc lb
  rwa [show W - 1=m - 1+bZ ds by lia] at this
 .intro i j;rw[zX];exact vM _ _
 .intro i;rw[qH];exact vR _
theorem Y50:DZ 2 Z.f50 Z.d50 ["some"] (Shp.Mb Z.K) "in_wholes":=by
 exists ?_,F50.b1 _ (by intros;rfl),F50.kp,m50
 refine F50.ok9 Wl λ_ _ _ s H _ Q E hr h=>?_;obtain⟨a,xs,ps,n,rfl,hS,hF,hP,hB,h100,hn,q⟩:=h;refine⟨_,(aC (aT (i:=1) Wl.nd rfl (Or.inr rfl) aE)
  (aC (eO PassesOwn.never rfl (cG (pv 0)) (qQ0 (i:=2) Wl.nd)
   (aF (aT (i:=1) Wl.nd rfl (Or.inr rfl) (bC cP (bC kC (pv 1) (d9 Y4 hr rfl (aA (pv 1) (aA (aK aY (pv 2) aE) aD)))) (aK aY (pv 2) aE)))))
  (aF (aW (dA (aA (dD (nl:=1) (fr:=[1]) (Nc:=["one","bottom"]) (cl:=[("bottom",s.heap.objs.size+1)]) rfl ⟨rfl,rfl,∅,∅,λx c h=>h,dI rfl,rfl,λi n h=>match i,h with | 0,h=>by cases h;exact⟨1,rfl,rfl,rfl,rfl,.inl rfl⟩ | k+1,h=>by rw[show 1+(k+1)=k+2 by lia] at h;cases h⟩
    (cG (pv 0)) (λ_ _ _ _ _=>(qQ0 (i:=0) yY)) (λ_ _ _ _ _=>dC)
    (λ_ _ _ _ _=>(bC cP (aK (kM (K:=Z.K) rfl) (pv 0) aE) (bC kC (pv 1) (aK (kM (K:=Z.K) rfl) (pv 0) aE))))) (aA (pv 1) aD))))))),?_⟩
 have lx:=hF.length;exists _,rfl,a,rfl,⟨_,hS⟩,?_;refine eU (xs:=xs) (λi σ H'=>H'=H/\i<=ps.length/\∃z,σ=[some (.ref a),some (.int (dR (ps.take i))),z]) ⟨rfl,Nat.zero_le _,none,rfl⟩ (λi σ H' _ h=>by rw[h.1];exact hS) ?_ ?_
 .rintro i x σ H' hx ⟨rfl,hi,z,rfl⟩;obtain⟨u,p,rfl,ep,fu⟩:=hF.get hx;have hi':i < ps.length:=(wq.mp ep).1;obtain⟨f1,f2,_⟩:=pX hP hB i hi;have mono:=Nat.mul_le_mul_left n hi;have hp:=hP p (mem_of_getElem? ep);have pb:=(hB p (mem_of_getElem? ep)).b;have g0:gc (dR (ps.take i)) p.2≠0:=by have:=Mq.yM (a:=dR (ps.take i)) (show p.2≠0 by lia);lia
  have gb:Mq.B n (gc (dR (ps.take i)) p.2):=by
   have:=Hb (t:=dR (ps.take i)) (show p.2≠0 by lia);rw[Shp.Cc ()] at this;exact pb.le this
  have qb:Mq.B (1+n*i) (Int.fdiv (dR (ps.take i)) (gc (dR (ps.take i)) p.2)):=by
   have d1:gc (dR (ps.take i)) p.2 ∣ dR (ps.take i):=by unfold gc;exact Int.gcd_dvd_left ..
   obtain⟨k,hk⟩:=d1;have:=Mq.kG g0 hk;rw[hJ g0 hk];exact f2.le this
  exists _,rfl,_,rfl,cU rfl fu ⟨_,_,rfl,iS g0 gb () (cU rfl fu (cQ qb pb () () ?_))⟩;exists rfl,hi',some (.ref u),?_;rw[Mq.oY ep];rfl
 rintro σ H' ⟨rfl,_,z,rfl⟩;rw[lx,take_length];obtain⟨f1,f2,f3⟩:=pX hP hB ps.length (Nat.le_refl _);rw[take_length] at f1 f2 f3;exists _,rfl,a,rfl,⟨_,hS⟩,λD hD=>?_;refine clS hD (xs:=xs) (λi zs H1=>zs=((ps.take i).map (Gi (dR ps))).map V.int) rfl (λ_ h=>h.seq hS) ?_ ?_
 .rintro i zs x H1 hx ⟨s1,e1,rfl⟩ C hC;obtain⟨u,p,rfl,ep,fu⟩:=hF.get hx;have hi':i < ps.length:=(wq.mp ep).1;have mem:=mem_of_getElem? ep;have hp:=hP p mem;obtain⟨k,hk⟩:=f3 p mem;have fu1:=s1.fq fu;have kb:Mq.B (1+n*ps.length) (Int.fdiv (dR ps) p.2):=by
   have e:=hJ (show p.2≠0 by lia) (show dR ps=p.2*k by rw[hk,Int.mul_comm]);rw[e];refine f2.le ?_;rw[hk,Int.natAbs_mul];exact Nat.le_mul_of_pos_right _ ()
  exists cZ.1,cZ.2,eY ?_;refine eI rfl fu1 ⟨_,rfl,cU rfl fu1 (iS (show p.2≠0 by lia) (hB p mem).b () (cQ (hB p mem).a kb () () ?_))⟩;exists e1,bH (by rw[length_map,length_map,length_take];lia),hC _ _ ⟨s1.change hD,aB,?_⟩;rw[take_add_one,ep,map_append,map_append];rfl
 rintro zs H1 ⟨s1,e1,rfl⟩;rw[lx,take_length] at e1;exists _,rfl,zl9 2,λt ht=>?_;have s2:=aG ht (.tup [.ref D,.int (dR ps)]);exact q t D _ (s1.trans s2) hD (SqT.of aB) (s2 _ _ e1)
theorem Y51:DZ 1 Z.f51 Z.d51 ["rows","rank","column"] (Shp.Sj Z.K) "pivot_place":=by
 exists ?_,F51.b3 _ _ _ (by intros;rfl),F51.kp,m51
 refine F51.ok9 Zf λ_ _ _ s H _ Q E hr h=>?_;obtain⟨l,D,zs,R,r,c,m,w',rfl,hS,hI,hm,hw,hc,hr',h100,q1,q2⟩:=h;refine⟨_,(aC (eO PassesOwn.never rfl (Nb rfl n_range (aA (pv 1) (aA (cB bV rfl n_len PySem.boot_len (aA (pv 0) aD)) aD))) (qQ0 (i:=3) Zf.nd)
   (aF (cD (bK jL (aK bX (aK bX (pv 0) (pv 3)) (pv 2)) aE (bM _)) (aF (aW (pv 3))) bQ)))
  (aF (aW xS))),?_⟩
 have lz:=hI.length;obtain⟨k,hk⟩:∃k,m=r+k:=⟨m - r,()⟩
 exists _,rfl,_,rfl,l,zs,rfl,.inl hS,(r:Int),(zs.length:Int),rfl,⟨(),(),(),()⟩,?_;rw[show ((zs.length:Int) - (r:Int)).toNat=k by lia];refine mC (lo:=(r:Int)) (n:=k) (λi σ H'=>H'=H/\(∀j,r<=j->j < r+i->ent R j c=0)/\∃z,σ=[some (.ref l),some (.int (r:Int)),some (.int (c:Int)),z]) ⟨rfl,λj h1 h2=>absurd h1 (),none,rfl⟩ ?_ ?_
 .rintro i σ H' hi ⟨rfl,hz,z,rfl⟩;obtain⟨u,eu,nu,hu⟩:=hI.at (i:=r+i) ();have eu':atI zs ((r:Int)+(i:Int))=some (.ref u):=by have:=cA eu;rwa [Int.natCast_add] at this
  have ec:=cA (kO (l:=R.getD (r+i) []) (i:=c) (by rw[hw _ ()];exact hc));exists _,rfl,_,rfl,l,zs,_,_,rfl,rfl,hS,eu',_,rfl,u,_,_,_,rfl,rfl,SqL.of hu,ec,rfl,_,rfl,yT (λe=>?_) (λe=>?_)
  .exists _,rfl,?_;have ne:ent R (r+i) c≠0:=λz=>by
    have z':(R.getD (r+i) []).getD c 0=0:=z;rw[z'] at e;simp at e
   have:=q1 (r+i) () () ne
   rwa [Int.natCast_add] at this
  .exists rfl,λj h1 h2=>?_,_,rfl
   by_cases hj:j=r+i
   .rw[hj];simp at e;exact e
   .exact hz j h1 ()
 .rintro σ H' ⟨rfl,hz,z,rfl⟩;exact q2 λi h1 h2=>hz i h1 ()
theorem Y52:DZ 1 Z.f52 Z.d52 ["row","upper","column","divisor"] (Shp.tP Z.K) "cleared":=by
 exists ?_,F52.b4 _ _ _ _ (by intros;rfl),F52.kp,m52
 refine F52.ok9 Qj λ_ _ _ s H _ Q E hr h=>?_;obtain⟨u,v,row,upper,c,n,dv,rfl,hu,hv,hl,h100,hc,hd,b1,b2,bd,hn,q⟩:=h;refine⟨_,(aC (aT (i:=4) Qj.nd rfl (Or.inr rfl) (aK bX (pv 1) (pv 2)))
  (aC (aT (i:=5) Qj.nd rfl (Or.inr rfl) (aK bX (pv 0) (pv 2)))
  (aF (aW (dD (nl:=2) (fr:=[4,5,3]) (Nc:=["here","above","own","other","divisor"]) (cl:=[("own",s.heap.objs.size+2),("other",s.heap.objs.size+3),("divisor",s.heap.objs.size+1)]) (g:=(Fi Z.K 2 (kH (iM 0) (kH (iM 1) Eg)))) rfl ⟨rfl,rfl,∅,∅,(cO rfl (cO rfl (cO rfl (iP)))),dI rfl,rfl,λi n h=>match i,h with | 0,h=>by cases h;exact⟨4,rfl,rfl,rfl,rfl,.inl rfl⟩ | 1,h=>by cases h;exact⟨5,rfl,rfl,rfl,rfl,.inl rfl⟩ | 2,h=>by cases h;exact⟨3,rfl,rfl,rfl,rfl,.inl rfl⟩ | k+3,h=>by rw[show 2+(k+3)=k+5 by lia] at h;cases h⟩
    (Db rfl n_zip rfl (aA (pv 0) (aA (pv 1) aD))) (λ_ _ _ _ _=>(fP rfl (bO (qQ0 (i:=0) fR) (bO (qQ0 (i:=1) fR) eJ)))) (λ_ _ _ _ _=>dC)
    (λ_ _ _ _ _=>(bC kC (bC jC (bC cP (pv 2) (pv 0)) (bC cP (pv 3) (pv 1))) (pv 4)))))))),?_⟩
 have e1:=cA (kO (l:=upper) (i:=c) ());have e2:=cA (kO (l:=row) (i:=c) ());exists _,rfl,_,rfl,v,_,_,_,rfl,rfl,hv,e1,?_;exists _,rfl,_,rfl,u,_,_,_,rfl,rfl,hu,e2,?_;exists _,rfl,_,rfl,u,v,rfl,⟨_,hu⟩,⟨_,hv⟩,λD hD=>?_;have sD:=aG hD (.lst []);refine Fe (xs:=row.map V.int) (ys:=upper.map V.int) (λi zs H'=>aX H H'/\H' D=some (.lst zs)/\zs=((iV upper row c dv).take i).map V.int) ⟨sD,aB,rfl⟩ (λi zs H' h=>h.2.1) (λi zs H' _ h=>⟨h.1.seq hu,h.1.seq hv⟩) ?_ ?_
 .rintro i zs x y H1 T1 ex ey ⟨s1,e1',rfl⟩ hT C hC;have hi:i < row.length:=by have:=(wq.mp ex).1;simpa using this
  have ex':x=.int (row.getD i 0):=by rw[kO hi] at ex;cases ex;rfl
  have ey':y=.int (upper.getD i 0):=by rw[kO ()] at ey;cases ey;rfl
  subst ex' ey';have sT:=aG hT (.tup [.int (row.getD i 0),.int (upper.getD i 0)]);exists T1,_,rfl,SqT.of aB,rfl,_,_,rfl,_,_,rfl,rfl,kJ.1,kJ.2,eY ?_;have mm:Mq.B (n+n+1) (upper.getD c 0*row.getD i 0 - row.getD c 0*upper.getD i 0):=Mq.B.sub ((b2 c).mul (b1 i)) ((b1 c).mul (b2 i));exists _,rfl,_,rfl,cQ (b2 c) (b1 i) () () ⟨_,rfl,_,rfl,cQ (b1 c) (b2 i) () () ⟨_,_,rfl,rfl,_,rfl,iS hd bd () ?_⟩⟩;have ll:(iV upper row c dv).length=row.length:=by unfold iV;rw[length_zipWith];lia
  have eA:=sT _ _ e1';exists eA,bH (by rw[length_map,length_take];lia),hC _ _ ⟨(s1.trans sT).change hD,aB,?_⟩;have eg:(iV upper row c dv)[i]?=some (Int.fdiv (upper.getD c 0*row.getD i 0 - row.getD c 0*upper.getD i 0) dv):=by
   unfold iV;rw[getElem?_zipWith,jX hi,jX (show i < upper.length by lia)]
  rw[take_add_one,eg,map_append];rfl
 rintro zs H1 ⟨s1,e1',rfl⟩;have ll:(iV upper row c dv).length=row.length:=by unfold iV;rw[length_zipWith];lia
 rw[length_map,length_map,take_of_length_le (by rw[ll];lia)] at e1';exact q D H1 s1 hD e1'
theorem Y53:DZ 2 Z.f53 Z.d53 ["rows","rank","column","divisor"] (Shp.sR Z.K) "cleared_rows":=by
 exists ?_,F53.b4 _ _ _ _ (by intros;rfl),F53.kp,m53
 refine F53.ok9 Af λ_ _ _ s H _ Q E hr h=>?_;obtain⟨l,D0,zs,R,r,c,m,w',n,dv,rfl,hS,hI,hm,hw,hc,hw100,hr',h100,hd,hB,bd,hn,q⟩:=h;refine⟨_,(aC (aT (i:=4) Af.nd rfl (Or.inr rfl) (aK bX (pv 0) (pv 1)))
  (aF (aW (dD (nl:=2) (fr:=[4,1,3,2]) (Nc:=["place","row","upper","rank","divisor","column"]) (cl:=[("upper",s.heap.objs.size+4),("rank",s.heap.objs.size+1),("divisor",s.heap.objs.size+3),("column",s.heap.objs.size+2)]) (g:=(Fi Z.K 2 (kH (iM 0) (kH (iM 1) Eg)))) rfl ⟨rfl,rfl,∅,∅,(cO rfl (cO rfl (cO rfl (cO rfl (iP))))),dI rfl,rfl,λi n h=>match i,h with | 0,h=>by cases h;exact⟨4,rfl,rfl,rfl,rfl,.inl rfl⟩ | 1,h=>by cases h;exact⟨1,rfl,rfl,rfl,rfl,.inl rfl⟩ | 2,h=>by cases h;exact⟨3,rfl,rfl,rfl,rfl,.inl rfl⟩ | 3,h=>by cases h;exact⟨2,rfl,rfl,rfl,rfl,.inl rfl⟩ | k+4,h=>by rw[show 2+(k+4)=k+6 by lia] at h;cases h⟩
    (vI rfl n_enumerate rfl (aA (pv 0) aD)) (λ_ _ _ _ _=>(fP rfl (bO (qQ0 (i:=0) eK) (bO (qQ0 (i:=1) eK) eJ)))) (λ_ _ _ _ _=>dC)
    (λ_ _ _ _ _=>(lH (bK dY (pv 0) (pv 3) (bM _)) (pv 1) (d9 Y52 hr rfl (aA (pv 1) (aA (pv 2) (aA (pv 5) (aA (pv 4) aD))))))))))),?_⟩
 have lz:=hI.length;obtain⟨v,ev,nv,hv⟩:=hI.at (i:=r) ();exists _,rfl,_,rfl,l,zs,_,_,rfl,rfl,hS,cA ev,?_;exists _,rfl,l,rfl,⟨_,hS⟩,λD hD=>?_;have sD:=aG hD (.lst []);have ll:=Mq.Ms R r c dv;refine zQ (xs:=zs) (λi ys H'=>aX H H'/\H' D=some (.lst ys)/\Imx D H' ys ((cY R r c dv).take i)) ⟨sD,aB,.nil⟩ (λi ys H' h=>h.2.1) (λi ys H' _ h=>h.1.seq hS) ?_ ?_
 .rintro i ys x H1 T1 ex ⟨s1,e1,I1⟩ hT C hC;have hi:i < m:=by have:=(wq.mp ex).1;lia
  obtain⟨u,eu,nu,hu⟩:=hI.at (i:=i) ();have exu:x=.ref u:=by rw[eu] at ex;cases ex;rfl
  subst exu;have lI:=I1.length;rw[length_take] at lI;have cg:=rC (R:=R) (i:=i) () r c dv;have cs:(cY R r c dv).take (i+1)=(cY R r c dv).take i++[(cY R r c dv).getD i []]:=by
   rw[take_add_one,getD_eq_getElem?_getD,getElem?_eq_getElem (show i < (cY R r c dv).length by lia)];rfl
  have sT:=aG hT (.tup [.int (i:Int),.ref u]);have uD:∀{x:Addr} {o:HO},H x=some o->x≠D:=λh z=>by rw[z,hD] at h;cases h
  exists T1,_,rfl,SqT.of aB,rfl,_,_,rfl,_,_,rfl,rfl,kJ.1,kJ.2,eY ?_;generalize upd H1 T1 (.tup [.int (i:Int),.ref u])=H2 at sT ⊢;have sA:=s1.trans sT;have eA:=sT _ _ e1;exists _,rfl,_,rfl,rfl,_,rfl,yT (λe=>?_) (λe=>?_)
  .have ei:i=r:=by simp at e;lia
   exists _,rfl,eA,bH (),hC _ _ ⟨sA.change hD,aB,?_⟩;rw[cs,cg,if_pos ei];exact((I1.same sT).app (.cons (uD hu) (sA _ _ hu) .nil)).upd
  .have ei:i≠r:=by simp at e;lia
   exists _,rfl,_,rfl,_,rfl,_,rfl,u,v,R.getD i [],R.getD r [],c,n,dv,rfl,SqL.of (sA _ _ hu),SqL.of (sA _ _ hv),by rw[hw i hi,hw r hr'],by rw[hw i hi];exact hw100,by rw[hw i hi];exact hc,hd,λj=>hB i j,λj=>hB r j,bd,hn,λl3 H3 s3 n3 e3=>?_;have eB:=s3 _ _ eA;have n3':l3≠D:=λz=>by rw[z,eA] at n3;cases n3
   exists eB,bH (),hC _ _ ⟨(sA.trans s3).change hD,aB,?_⟩;rw[cs,cg,if_neg ei];exact((I1.same (sT.trans s3)).app (.cons n3' e3 .nil)).upd
 rintro ys H1 ⟨s1,e1,I1⟩;rw[lz,take_of_length_le ()] at I1;exact q D ys H1 s1 hD e1 I1
theorem Y54:DZ 3 Z.f54 Z.d54 ["rows","width"] (Shp.vW Z.K) "eliminated":=by
 exists ?_,F54.b2 _ _ (by intros;rfl),F54.kp,m54
 refine F54.ok9 jP λ_ _ _ s H _ Q E hr h=>?_;obtain⟨l,D0,zs,R,m,w',n,Pr,rfl,hS,hI,hm,hw,hmw,hw100,hB,hn1,hn,hm31,hPr,hSt,q⟩:=h;have r1:=hr.mono (show 1<=2 by lia);refine⟨_,(aC (qQ1 (i:=0) jP.nd (iA iB rfl n_list PyProof.Rows.boot_list (aA (pv 0) aD)))
  (aC (qQ1 (i:=2) jP.nd aE)
  (aC (qQ1 (i:=3) jP.nd aE)
  (aC (qQ1 (i:=4) jP.nd aE)
  (aC (eO PassesOwn.never rfl (fA rfl n_range (aA (pv 1) aD)) (qQ0 (i:=5) jP.nd)
   (aC (qQ1 (i:=6) jP.nd (d9 Y51 r1 rfl (aA (pv 0) (aA (pv 2) (aA (pv 5) aD)))))
  (aC (cD (oN (wR (pv 6))) (aF Em) bQ)
  (aC (cD (bK jL (pv 6) (pv 2) (bM _)) (aC (qQ1 (i:=7) jP.nd (aK bX (pv 0) (pv 6)))
  (aC (jD (aK bX (pv 0) (pv 2)) (qK (pv 0) (pv 6) jW))
  (aC (jD (pv 7) (qK (pv 0) (pv 2) jW))
  (aF (qQ1 (i:=4) jP.nd (zJ rW (pv 4))))))) bQ)
  (aC (qQ1 (i:=0) jP.nd (d9 Y53 hr rfl (aA (pv 0) (aA (pv 2) (aA (pv 5) (aA (pv 3) aD))))))
  (aC (qQ1 (i:=3) jP.nd (aK bX (aK bX (pv 0) (pv 2)) (pv 5)))
  (aF (Ho (i:=2) jP.nd rfl (Or.inl rfl) aE Gx))))))))
  (aF (aW (Kt (oJ cL (pv 0) (oJ cL (pv 2) (oJ cL (pv 3) (oJ cL (pv 4) Kl)))) rfl rfl ⋯ ∅)))))))),?_⟩
 exists _,rfl,l,zs,rfl,.inl hS,λl0 hl0=>?_;obtain⟨H0,zq,s0,e0⟩:=nw hl0 (.lst zs);rw[zq];exists _,rfl,(m:Int),rfl,(),(),?_;rw[Int.toNat_natCast];have b1:Mq.B n 1:=by
  show 1 < 2 ^ n;exact Nat.one_lt_two_pow ()
 refine mC (lo:=0) (n:=m) (λi σ H'=>aX H H'/\∃(lR:Addr) (zs':wk) (R':List (List Int)) (rank:Nat) (pivot sign:Int) (z5 z6 z7:Option V),σ=[some (.ref lR),some (.int (m:Int)),some (.int (rank:Int)),some (.int pivot),some (.int sign),z5,z6,z7]/\H lR=none/\H' lR=some (.lst zs')/\Imx lR H' zs' R'/\SI m w' (Mq.at2 R) R' rank i pivot sign/\Mq.SB n m R' rank i pivot/\Pr R') ⟨s0,l0,zs,R,0,1,1,none,none,none,rfl,hl0,e0,(hI.other hl0).same s0,.start hm hw,.start hB,hPr⟩ ?_ ?_
 .rintro i σ H1 hi ⟨s1,lR,zs',R',rank,pivot,sign,z5,z6,z7,rfl,nR,eR,I1,S1,sb,p1⟩;rw[Int.zero_add];obtain⟨bR,bP⟩:=sb.bd5 S1 hm31;obtain⟨A1,c1,B1,_⟩:=S1.bar;have rm:=B1.rm;have rc:=B1.rc;have dn:pivot≠0:=λz=>B1.dne (by rw[z];simp);clear B1;exists _,rfl,_,rfl,_,rfl,lR,lR,zs',R',rank,i,m,w',rfl,SqL.of eR,I1,S1.len,S1.wid,(),rm,(),λp h1 h2 ne=>?_,λhz=>?_
  .exists _,rfl,_,rfl,dE ?_;have hrm:rank < m:=by lia
   refine(λ(hrest:∀(sg:Int) (z:Option V) (Hx:Hp) (zs2:wk) (R2:List (List Int)),aX H Hx->Hx lR=some (.lst zs2)->Imx lR Hx zs2 R2->SI m w' (Mq.at2 R) R2 rank i pivot sg->ent R2 rank i≠0->Mq.SB n m R2 rank i pivot->Pr R2->W.KIN.Hid ((?T:Int->Option V->Hp->Prop) sg z Hx))=>?main) ?rest
   case main=>
    exists _,rfl,_,rfl,rfl,_,rfl,yT (λe=>?c1) (λe=>?c2)
    case c1=>
     have npr:p≠rank:=by simp at e;lia
     obtain⟨up,eup,nup,hup⟩:=I1.at (i:=p) (by rw[S1.len];lia);obtain⟨ur,eur,nur,hur⟩:=I1.at (i:=rank) (by rw[S1.len];lia);have lz:zs'.length=m:=I1.length.trans S1.len;exists _,rfl,_,rfl,lR,zs',_,_,rfl,rfl,SqL.of eR,cA eup,?_;exists _,rfl,_,rfl,lR,zs',_,_,rfl,rfl,SqL.of eR,cA eur,_,rfl,_,rfl,lR,zs',_,p,rfl,rfl,eR,mY (),?_;have e2:upd H1 lR (.lst (zs'.set p (.ref ur))) lR=some (.lst (zs'.set p (.ref ur))):=aB;have I2:=(Imx.set nur hur p I1).upd (o:=.lst (zs'.set p (.ref ur)));have s2:aX H (upd H1 lR (.lst (zs'.set p (.ref ur)))):=s1.change nR;have hup2:upd H1 lR (.lst (zs'.set p (.ref ur))) up=some (.lst ((R'.getD p []).map V.int)):=by rw[aV nup];exact hup
     generalize upd H1 lR (.lst (zs'.set p (.ref ur)))=H2 at e2 I2 s2 hup2 ⊢;exists _,rfl,_,rfl,_,rfl,lR,_,_,rank,rfl,rfl,e2,mY (by rw[length_set];lia),?_;have e3:upd H2 lR (.lst ((zs'.set p (.ref ur)).set rank (.ref up))) lR=some (.lst ((zs'.set p (.ref ur)).set rank (.ref up))):=aB;have I3:=(Imx.set nup hup2 rank I2).upd (o:=.lst ((zs'.set p (.ref ur)).set rank (.ref up)));have s3:aX H (upd H2 lR (.lst ((zs'.set p (.ref ur)).set rank (.ref up)))):=s2.change nR;generalize upd H2 lR (.lst ((zs'.set p (.ref ur)).set rank (.ref up)))=H3 at e3 I3 s3 ⊢;exists _,rfl,_,rfl,?_;show iD _ _ _ [some (.ref lR),some (.int (m:Int)),some (.int (rank:Int)),some (.int pivot),some (.int (-sign)),some (.int (i:Int)),some (.int (p:Int)),some (.ref up)] H3;have S3:=S1.swap (p:=p) () h2;have bR3:=sb.swap S1 (p:=p) () h2;have ne3:ent (gR R' p rank) rank i≠0:=by
      unfold ent;rw[Dj (by rw[S1.len];lia) (by rw[S1.len];lia)];have:Mq.sw p rank rank=p:=by unfold Mq.sw;rw[if_pos rfl]
      rw[this];exact ne
     have I3':Imx lR H3 ((zs'.set p (.ref ur)).set rank (.ref up)) (gR R' p rank):=I3;clear I3 hup2;have p3:=hSt.sw _ _ _ _ _ _ S1 (show rank < p by lia) h2 p1;generalize -sign=sg at S3 ⊢;generalize some (V.ref up)=zz at ⊢;exact(hrest sg zz H3 _ _ s3 e3 I3' S3 ne3 bR3 p3).out
    case c2=>
     have epr:p=rank:=by simp at e;lia
     show iD _ _ _ [some (.ref lR),some (.int (m:Int)),some (.int (rank:Int)),some (.int pivot),some (.int sign),some (.int (i:Int)),some (.int (p:Int)),z7] H1;exact(hrest sign z7 H1 _ _ s1 eR I1 S1 (by rw[<- epr];exact ne) sb p1).out
   case rest=>
   intro sg z Hx zs2 R2 sx ex Ix Sx nx bx px;exists ?_;have bxx:=bx.bd5 Sx hm31;exists _,rfl,_,rfl,_,rfl,_,rfl,lR,lR,zs2,R2,rank,i,m,w',bw n m,pivot,rfl,SqL.of ex,Ix,Sx.len,Sx.wid,(),hw100,hrm,(),dn,bxx.1,bxx.2,hn,λl3 zs3 H3 s3 n3 e3 I3=>?_;have S3:=Sx.clear hrm () nx;have b3:=bx.clear Sx hrm () nx;obtain⟨u,eu,nu,hu⟩:=I3.at (i:=rank) (by rw[S3.len];lia);have ec:=cA (kO (l:=(cY R2 rank i pivot).getD rank []) (i:=i) (by rw[S3.wid _ hrm];lia));exists _,rfl,_,rfl,l3,zs3,_,_,rfl,rfl,SqL.of e3,cA eu,_,rfl,u,_,_,_,rfl,rfl,SqL.of hu,ec,?_;exists _,rfl,_,_,rfl,rfl,?_;have ev:((cY R2 rank i pivot).getD rank []).getD i 0=ent R2 rank i:=by rw[rC (by rw[Sx.len];lia),if_pos rfl];rfl
   exists sx.trans s3,l3,zs3,_,rank+1,ent R2 rank i,sg,some (.int (i:Int)),some (.int (p:Int)),z,?_,sx.free n3,e3,I3,S3,b3,hSt.cl _ _ _ _ _ Sx hrm () nx px;rw[ev];rfl
  .exists _,rfl,_,rfl,eY ?_;exists s1,lR,zs',R',rank,pivot,sign,_,_,_,rfl,nR,eR,I1,S1.skip hz,sb.skip hz,p1
 .rintro σ H1 ⟨s1,lR,zs',R',rank,pivot,sign,z5,z6,z7,rfl,nR,eR,I1,S1,sb,p1⟩;obtain⟨bR,bP⟩:=sb.bd5 S1 hm31;obtain⟨A1,c1,B1,_⟩:=S1.bar;have rm:=B1.rm;intro d hd;have nd:lR≠d:=λz=>by rw[z,hd] at eR;cases eR
  exists _,rfl,_,rfl,_,rfl,_,rfl,aB,[(.inr "rows",.ref lR),(.inr "rank",.int (rank:Int)),(.inr "pivot",.int pivot),(.inr "sign",.int sign)],rfl,by show 4<=15;decide,?_;have sd:aX H1 (upd (upd H1 d (.dK [])) d (Qk lR rank pivot sign)):=(aG hd _).change hd;exact q d lR zs' R' rank pivot sign _ (s1.trans sd) (s1.free hd) nR aB (sd _ _ eR) (I1.same sd) S1 bR bP p1
theorem Y55:DZ 5 Z.f55 Z.d55 ["matrix","right"] (Shp.tW Z.K) "solved":=by
 exists ?_,F55.b2 _ _ (by intros;rfl),F55.kp,m55
 refine F55.ok9 rR λ_ _ _ s H _ Q E hr h=>?_;obtain⟨g,bR,D0,H00,us,bs,X,qs,k,n,rfl,hU,hX,hB,hQ,ql,qL,qB,xP,xB,x4,hk,hBd,hn1,hnb,hz0,q⟩:=h;have hu:=pP hr;have r3:=hr.mono (show 3<=4 by lia);have r2:=hr.mono (show 2<=4 by lia);refine⟨_,(aC (aT (i:=2) rR.nd rfl (Or.inr rfl) (cB bV rfl n_len PySem.boot_len (aA (pv 0) aD)))
  (aC (rN (i:=3) (nl:=2) (fr:=[]) (Nc:=["row","side"]) (cl:=[]) (g:=(Fi Z.K 2 (kH (iM 0) (kH (iM 1) Eg)))) rR.nd rfl rfl rfl ⟨rfl,rfl,∅,∅,λx c h=>(by cases h),dI rfl,rfl,λi n h=>(by simp at h)⟩
    (Db rfl n_zip rfl (aA (pv 0) (aA (pv 1) aD))) (λ_ _ _ _ _=>(fP rfl (bO (qQ0 (i:=0) uO) (bO (qQ0 (i:=1) uO) eJ)))) (λ_ _ _ _ _=>dC)
    (λ_ _ _ _ _=>(aK (kM (K:=Z.K) rfl) (d9 Y50 r2 rfl (aA (bC sS (pv 0) (dZ (aA (pv 1) aD))) aD)) aE)) rfl)
  (aC (aT (i:=4) rR.nd rfl (Or.inr rfl) (d9 Y54 r3 rfl (aA (pv 3) (aA (pv 2) aD))))
  (aC (cD (bK yJ (mL hu (pv 4) cL (λ_ _=>rfl)) (pv 2) (bM _)) (aF iE) bQ)
  (aF (aW (dD (nl:=1) (fr:=[2,4]) (Nc:=["row","many","end"]) (cl:=[("many",s.heap.objs.size+1),("end",s.heap.objs.size+2)]) rfl ⟨rfl,rfl,∅,∅,(cO rfl (cO rfl (iP))),dI rfl,rfl,λi n h=>match i,h with | 0,h=>by cases h;exact⟨2,rfl,rfl,rfl,rfl,.inl rfl⟩ | 1,h=>by cases h;exact⟨4,rfl,rfl,rfl,rfl,.inl rfl⟩ | k+2,h=>by rw[show 1+(k+2)=k+3 by lia] at h;cases h⟩
    (cG (mL hu (pv 4) cL (λ_ _=>rfl))) (λ_ _ _ _ _=>(qQ0 (i:=0) nY)) (λ_ _ _ _ _=>dC)
    (λ_ _ _ _ _=>(d9 Y6 r2 rfl (aA (aK (iU (K:=Z.K) rfl) (pv 0) (pv 1)) (aA (mL hu (pv 2) cL (λ_ _=>rfl)) aD))))))))))),?_⟩
 have lu:=hX.length;have lb:=hQ.length;have hw:∀row∈X,row.length=X.length:=λrow h=>(xB row h).2;have qP:=qL.pos;have lA:=Ew ql;exists _,rfl,g,us,rfl,.inl hU,?_;exists _,rfl,_,rfl,g,bR,rfl,⟨_,hU⟩,⟨_,hB⟩,λD hD=>?_;have sD:=aG hD (.lst []);refine Fe (xs:=us) (ys:=bs) (λi zs H'=>aX H H'/\H' D=some (.lst zs)/\Imx D H' zs ((jO X qs).take i)) ⟨sD,aB,.nil⟩ (λi zs H' h=>h.2.1) (λi zs H' _ h=>⟨h.1.seq hU,h.1.seq hB⟩) ?_ ?_
 .rintro i zs x y H1 T1 ex ey ⟨s1,e1,I1⟩ hT C hC;obtain⟨u,ys,row,rfl,er,_,_,hu',fu⟩:=hX.get ex;obtain⟨v,qv,rfl,eq,fv⟩:=hQ.get ey;have hi:i < X.length:=(wq.mp er).1;have mem:=mem_of_getElem? er;have memq:=mem_of_getElem? eq;obtain⟨rb,rl⟩:=xB row mem;have lys:=fu.length;have sT:=aG hT (.tup [.ref u,.ref v]);exists T1,_,rfl,SqT.of aB,rfl,_,_,rfl,_,_,rfl,rfl,kJ.1,kJ.2,eY ?_;generalize upd H1 T1 (.tup [.ref u,.ref v])=H2 at sT ⊢;have s2:=s1.trans sT;exists _,rfl,_,rfl,zl9 1,λlo hlo=>?_;obtain⟨H3,zq,s3,e3⟩:=nw hlo (.lst [.ref v]);rw[zq];have s03:=s2.trans s3;exists u,lo,_,_,rfl,rfl,s03 _ _ hu',e3,Nat.le_of_lt (bH (by simp only[length_cons,length_nil];lia)),λp hp=>?_;obtain⟨H4,zq,s4,e4⟩:=nw hp (.lst (ys++[.ref v]));rw[zq];have s04:=s03.trans s4;have s14:=sT.trans (s3.trans s4);exists p,_,row++[qv],k,rfl,SqL.of e4,(fu.same s04).app (.cons (s04.fq fv) .nil),λz hz=>?_,λz hz=>?_,by rw[xj];simp only[length_cons,length_nil];lia,by rw[xj,rl];simp only[length_cons,length_nil];rw[show X.length+(0+1)=X.length+1 by lia];lia,λt l H5 s5 nl ht hl=>?_
  .rcases mem_append.mp hz with z1 | z1
   .exact xP row mem z z1
   .have:z=qv:=by simpa using z1
    rw[this];exact qP qv memq
  .rcases mem_append.mp hz with z1 | z1
   .exact rb z z1
   .have:z=qv:=by simpa using z1
    rw[this];exact qB qv memq
  have s15:=s14.trans s5;have e5:=s15 _ _ e1;have ne:l≠D:=λz=>by rw[z,s14 _ _ e1] at nl;cases nl
  have lz:=I1.length;rw[length_take,lA] at lz;exists t,_,_,_,rfl,rfl,ht,rfl,e5,bH (),hC _ _ ⟨(s1.trans s15).change hD,aB,?_⟩;have ee:(jO X qs).take (i+1)=(jO X qs).take i++[iw (row++[qv])]:=by
   rw[take_add_one];unfold jO oS;rw[getElem?_map,getElem?_zipWith,er,eq];rfl
  rw[ee];exact((I1.same s15).app (.cons ne hl .nil)).upd
 rintro zs H1 ⟨s1,e1,I1⟩;rw[show min us.length bs.length=(jO X qs).length by lia,take_length] at I1;have bits4:bw n X.length<=9000:=Nat.le_trans hnb ∅;have wA:∀i,i < X.length->((jO X qs).getD i []).length=X.length+1:=λi hi=>by
  rw[xY ql hi,nH,xj,hw _ (mem_of_getElem? (uS hi))];rfl
 exists _,rfl,_,rfl,D,D,zs,jO X qs,X.length,X.length+1,n,λR=>Mq.KI X.length (Mq.at2 (jO X qs)) R/\Mq.KJ X.length (Mq.at2 (jO X qs)) R,by rw[lu];rfl,SqL.of e1,I1,lA,wA,(),(),hBd,hn1,(),(),⟨λΦ _ hz=>hz,λΦ _ hz=>hz⟩,Rf,λd lE zE R' rank pivot sign H2 s2 nd nlE ed el IE SE bE bp LE=>?_;obtain⟨g1',g2',g3',g4'⟩:=qW ed;have s02:=s1.trans s2;have wr:=Uj xP qP ql hw SE;exists _,rfl,d,_,rfl,g2',_,rfl,_,_,rfl,rfl,_,rfl,yT (λe=>?_) (λe=>?_)
 .-- lame
  have hr':rank < X.length:=by simp at e;lia
  have hz:wgt X=0:=by
   rcases wr with z | z
   .exact z.2
   .lia
  exact absurd hz hz0
 .-- whole
  have hr':rank=X.length:=by
   rcases wr with z | z
   .simp at e;lia
   .exact z.1
  have hz:wgt X≠0:=by
   rcases wr with z | z
   .lia
   .exact z.2
  subst hr';have dn:=SE.dne;have pn:pivot≠0:=λz=>dn (by rw[z];simp);have lzE:=IE.length;rw[SE.len] at lzE;exists _,rfl,d,_,rfl,g1',lE,rfl,⟨_,SqL.of el⟩,λD2 hD2=>?_;refine clS hD2 (xs:=zE) (λi ws H'=>Fqs Z.K H' ws ((List.range i).map λi=>red (ent R' i X.length) pivot)) .nil (λ_ h=>h.seq (SqL.of el)) ?_ ?_
  .rintro i ws x H3 hx ⟨s3,e3,F3⟩ C hC;have hi:i < X.length:=by have:=(wq.mp hx).1;lia
   obtain⟨u,eu,nu,hu2⟩:=IE.at (i:=i) (by rw[SE.len];exact hi);have exu:x=.ref u:=by rw[eu] at hx;cases hx;rfl
   subst exu;have wid:=SE.wid i hi;have lz:=F3.length;rw[length_map,length_range] at lz;have ea:=cA (kO (l:=R'.getD i []) (i:=X.length) ());rw[<- lu] at ea;exists cZ.1,cZ.2,eY ?_;exists _,rfl,_,rfl,u,_,_,_,rfl,rfl,SqL.of (s3 _ _ hu2),ea,?_;rw[lu];exists _,rfl,d,_,rfl,qW (s3 _ _ ed) |>.2.2.1,_,_,bw n X.length,rfl,pn,bp,bits4,λr H4 s4 e4=>?_;have eD:=s4 _ _ e3;exists eD,bH (),hC _ _ ⟨(s3.trans s4).change hD2,aB,?_⟩;rw[range_succ,map_append];exact((F3.same s4).app (.cons (Fq.of e4) .nil)).upd eD
  rintro ws H3 ⟨s3,e3,F3⟩;rw[lzE] at F3;have gd:∀j,j < X.length->((List.range X.length).map λi=>red (ent R' i X.length) pivot).getD j Mq.z0=red (ent R' j X.length) pivot:=λj hj=>by
   rw[getD_eq_getElem?_getD,getElem?_map,getElem?_range hj];rfl
  refine q D2 ws _ H3 (s02.trans s3) (s02.free hD2) e3 F3 ⟨⟨⋯,λp hp=>?_,λp hp=>?_,λi hi=>?_⟩,λv hv j hj=>?_⟩ (Xi pn bp λp hp=>by obtain⟨i,hi,rfl⟩:=mem_map.mp hp;exact⟨_,bE i X.length,rfl⟩)
  .obtain⟨i,_,rfl⟩:=mem_map.mp hp;exact jH pn
  .obtain⟨i,hi,rfl⟩:=mem_map.mp hp;have le:=oF (t:=ent R' i X.length) pn;exists ((bE i X.length).le le.1).mono bits4,(bp.le le.2).mono bits4
  .rw[<- qf5 xP qP ql hw LE.1 SE hi];refine aR λj hj=>?_;rw[gd j hj,kQ pn];rfl
  .rw[gd j hj,kQ pn,<- qf7 xP qP ql hw LE.2 SE hv hj];rfl
theorem R56:FZ (CX1 Z.P Z.w) 7 Z.f56 Z.d56 ["net"] (Jp Z.c_Net Z.c_Ring Z.c_Floats Z.K):=by
 refine F56.okX Py (λvs H Q E h=>?_) λcdv A outer s H vs Q E hr h=>?_
 .obtain⟨_,_,_,_,rfl,_⟩:=h;rfl
 obtain⟨n,l,m,ds,rfl,nt,pt,mo,m20,h40,hz,rf,q⟩:=h;have r2:=hr.mono (show 2<=6 by lia);have r5:=hr.mono (show 5<=6 by lia);refine⟨_,(aC (qQ1 (i:=1) Py.nd (d9 Y42 r5 rfl (aA (pv 0) (aA (dZ (aA cL aD)) aD))))
  (aC (cD (bK uL (cB bV rfl n_len PySem.boot_len (aA (pv 1) aD)) aE (bM _)) (aF (zT rS Du rfl rfl mc_Ring qIG R2 r2 b2 (aA (aK bX (pv 1) aE) (aA (d9 Y43 r5 rfl (aA (pv 0) (aA (aK bX (pv 1) aE) aD))) aD)))) bQ)
  (aC (qQ1 (i:=2) Py.nd (d9 Y39 hr rfl (aA (pv 0) aD)))
  (aF (cD (bK uL (cB bV rfl n_len PySem.boot_len (aA (pv 2) aD)) aE (bM _)) (aF (zT rS Du rfl rfl mc_Floats qIF R1 r2 b1 (aA (pv 2) aD))) bQ))))),?_⟩
 exists _,rfl,zl9 1,λL hL=>?_;obtain⟨H1,zq,s1,e1⟩:=nw hL (.lst [.str "hold"]);rw[zq];exists n,l,.ref L,m,ds,wHo,rfl,nt.same s1,pt,m20,h40,.seq (SqL.of e1) rfl,λr us H2 s2 nr er G nx=>?_;have s02:=s1.trans s2;exists _,rfl,r,_,rfl,.inl (SqL.of er),_,_,rfl,rfl,_,rfl,?_;have ri:=lT (W:=wHo) (Lm pt) ds.length (by rw[tN];exact Nat.le_refl _)
 cases hR:rgH ds with
 |cons c rr=>
  have gl:us.length=((rgH ds).map (·.2)).length:=G.l;rw[hR] at gl;have lu:0 < us.length:=by rw[gl];simp
  obtain⟨u0,hu0⟩:∃u,us[0]?=some u:=⟨_,getElem?_eq_getElem lu⟩
  obtain⟨ra,xs,rfl,nra,era,sts⟩:=G.r 0 u0 c.2 hu0 (by show ((rgH ds).map (·.2))[0]?=_;rw[hR];rfl);refine L2.ifT (by show decide (((us.length:Nat):Int) > 0)=true;exact decide_eq_true ()) ?_;obtain⟨c1,k',u',v',st,pts,_,ec,hst,ch,stl⟩:=ri.r c (by show c∈rgH ds;rw[hR];exact mem_cons_self ..);have inb:∀t∈c.2,t.1 < ds.length/\(t.2=1\/t.2=-1):=λt ht=>by
   rw[ec] at ht;rcases mem_cons.mp ht with z | z
   .subst z;exists c1,.inl rfl
   .obtain⟨i,hi,e⟩:=getElem_of_mem z;obtain⟨_,_,_,_,u2,v2,hm,w⟩:=ch.g i t (by rw[<- e];exact getElem?_eq_getElem hi);exists ri.lt _ hm,?_;rcases w with ⟨a,_⟩ | ⟨a,_⟩
    .exact .inl a
    .exact .inr a
  have l21:c.2.length<=21:=by rw[ec,length_cons];lia
  exists _,rfl,r,us,_,_,rfl,rfl,SqL.of er,cA (j:=0) hu0,_,rfl,_,rfl,r,us,_,_,rfl,rfl,SqL.of er,cA (j:=0) hu0,?_;exists n,l,ra,_,ds,xs,c.2,rfl,nt.same s02,(),hz,SqL.of era,sts,l21,inb,λt0 H3 s3 f3=>?_;exists zl9 2,λx hx=>?_;have sx:=aG hx (iQ x (.ref Z.c_Ring) none);exists x,ra,t0,xs,rfl,aB,sx.seq (SqL.of (s3 _ _ era)),by rw[sts.length];lia,λdx l2 H4 ndx nl2 ne1 ne2 keep ex ed el=>⟨rfl,some dx,ex,?_⟩;have sd:=tU (s02.trans s3) hx keep;have sd3:=tU (aX.refl H3) hx keep;refine rf.rg c rr hR dx l2 t0 xs _ sd (by rw[jV ne1];exact ed) ((s02.trans (s3.trans sx)).free nl2) (by rw[jV ne2];exact el) ((sts.same s3).same sd3) (sd3.fq f3)
 |nil=>
  have gl:us.length=((rgH ds).map (·.2)).length:=G.l;rw[hR] at gl;have lu:us=[]:=eq_nil_of_length_eq_zero (by simpa using gl);subst lu;refine L2.ifF rfl ?_;exists _,rfl,n,l,m,ds,rfl,nt.same s02,pt,mo,m20,(),λl' H3 s3 nl e3=>?_;exists _,rfl,l',_,rfl,.inl (SqL.of e3),_,_,rfl,rfl,_,rfl,?_
  by_cases c:jJ m ds=[]
  .rw[c];exact L2.ifF rfl (q hR c H3 (s02.trans s3))
  .have l0:0 < (jJ m ds).length:=length_pos_iff.mpr c;have lf:(jJ m ds).length<=20:=by
    unfold jJ;rw[length_map];refine Nat.le_trans (length_filter_le _ _) ?_;rw[length_range];exact m20
   refine L2.ifT (by show decide (((((jJ m ds).map V.int).length:Nat):Int) > 0)=true;rw[length_map];exact decide_eq_true ()) ?_;exists _,rfl,zl9 1,λx hx=>?_;have sx:=aG hx (iQ x (.ref Z.c_Floats) none);exists x,l',_,rfl,aB,sx.seq (SqL.of e3),by rw[length_map];lia,λdx l2 H4 ndx nl2 ne1 ne2 keep ex ed el=>⟨rfl,some dx,ex,?_⟩;exact rf.fl hR c dx l2 _ (tU (s02.trans s3) hx keep) (by rw[jV ne1];exact ed) ((s02.trans (s3.trans sx)).free nl2) (by rw[jV ne2];exact el)
theorem Y57:DZ 5 Z.f57 Z.d57 ["rows","levels","held"] (Df Z.K (zz3 Z)) "flows_of":=by
 exists ?_,F57.b3 _ _ _ (by intros;rfl),F57.kp,m57
 refine F57.ok9 pA λ_ _ _ s H _ Q E hr h=>?_;obtain⟨a,b,h,xs,ls,ys,ds,lv,hs,m,rfl,ea,Rb,SA,hS,hF,hlo,hK,hh,h40,q⟩:=h;have r1:=hr.mono (show 1<=4 by lia);refine⟨_,(aC (qQ1 (i:=3) pA.nd (dZ aD))
  (aC (qQ1 (i:=4) pA.nd aE)
  (aC (eO PassesOwn.never rfl (cG (pv 0)) (qQ0 (i:=5) pA.nd)
   (aC (qQ1 (i:=6) pA.nd (d9 Y36 hr rfl (aA (pv 5) (aA (pv 1) aD))))
  (aF (cD (bK dY (iL (pv 5) T.cl mW GW r1 bW .nil aQ) cL (bM _)) (aC (cC (mH PySem.F.plainAttrs_list PySem.F.slot_list_append PySem.F.type_list_append eQ (pv 3) (aA (Eu (pv 5) T.cl mS GS hr bS .nil aQ (aA (pv 6) (aA (aK bX (pv 2) (pv 4)) aD))) aD)))
  (aF (Ho (i:=4) pA.nd rfl (Or.inl rfl) aE Gx))) (aF (cC (mH PySem.F.plainAttrs_list PySem.F.slot_list_append PySem.F.type_list_append eQ (pv 3) (aA (Eu (pv 5) T.cl mS GS hr bS .nil aQ (aA (pv 6) (aA (fL (v:=.ref Z.aN) rfl mv_NOUGHT rfl) aD))) aD))))))))
  (aF (aW (pv 3)))))),?_⟩
 have lxs:=Rb.length;have lys:=hF.length;exists zl9 0,λl hl=>?_;obtain⟨H1,zq,s1,e1⟩:=nw hl (.lst []);rw[zq];exists _,rfl,a,rfl,⟨_,SqL.of (s1 _ _ ea)⟩,?_;refine eU (xs:=xs) (λi σ H'=>aX H H'/\∃(zs:wk) (ti:Int) (z5 z6:Option V),σ=[some (.ref a),some (.ref b),some (.ref h),some (.ref l),some (.int ti),z5,z6]/\ti=((bZ (ds.take i):Nat):Int)/\H' l=some (.lst zs)/\Fqs Z.K H' zs (kI lv hs 0 (ds.take i))) ⟨s1,[],0,none,none,rfl,rfl,e1,.nil⟩ (λi σ H' _ h=>h.1.seq (SqL.of ea)) ?_ ?_
 .rintro i x σ H2 hx ⟨s2,zs,ti,z5,z6,rfl,hti,e2,F2⟩;have hi:i < ds.length:=by have:=(wq.mp hx).1;lia
  obtain⟨⟨k0,u,v,p⟩,hd⟩:∃d,ds[i]?=some d:=⟨_,getElem?_eq_getElem hi⟩
  obtain⟨y,z,ey,rw0,fz0⟩:=Rb.at hd;have ex:x=.ref y:=by rw[ey] at hx;exact(Option.some.inj hx).symm
  subst ex;have rd:=hK _ (mem_of_getElem? hd);have pt:dL (m:Int) u v:=⟨rd.1,rd.2.1,rd.2.2.1,rd.2.2.2.1⟩
  have lp:Low p:=rd.2.2.2.2.1;have p0:k0=.pc->0 < p.1:=rd.2.2.2.2.2.1;have bp:Bd 1000 p:=rd.2.2.2.2.2.2;have et:ds.take (i+1)=ds.take i++[(k0,u,v,p)]:=by rw[take_add_one,hd];rfl
  have hcnt:bZ (ds.take i)+cF k0+bZ (ds.drop (i+1))=bZ ds:=by
   have h1:ds=ds.take (i+1)++ds.drop (i+1):=(take_append_drop _ _).symm;have h2:bZ ds=bZ (ds.take (i+1))+bZ (ds.drop (i+1)):=by
    unfold bZ jM;rw[<- xj,<- filter_append,take_append_drop]
   rw[h2,et,gO]
  have rw2:=rw0.same s2;obtain⟨dr,hy⟩:=id rw2;exists _,rfl,_,rfl,y,b,(k0,u,v,p),.ref z,ls,lv,m,rfl,rw2,SA.same s2,pt,λfa H3 s3 e3=>?_;have flow:Low (flF lv (k0,u,v,p))/\Bd 7801 (flF lv (k0,u,v,p)):=by
   have hb:=SA.b;have hn:=SA.l;have Z.f36:lv.getD u.toNat (0,1)∈lv:=mem_of_getElem? (sK (by have:=pt.1;have:=pt.2.1;lia));have g2:lv.getD v.toNat (0,1)∈lv:=mem_of_getElem? (sK (by have:=pt.2.2.1;have:=pt.2.2.2;lia));exists mB (hb _ Z.f36).1.pos (hb _ g2).1.pos,(Ek (hb _ Z.f36).2 (hb _ g2).2 (hb _ Z.f36).1.pos (hb _ g2).1.pos).mono ()
  have fa3:Fq Z.K H3 fa (flF lv (k0,u,v,p)):=Fq.of e3;have s23:=s2.trans s3;have rw3:=rw0.same s23;obtain⟨dr3,hy3⟩:=id rw3;have fz3:=s23.fq fz0;have e23:=s3 _ _ e2;have lzs:=F2.length;rw[rP,length_take] at lzs;rw[et,Ad,Nat.zero_add];exists _,rfl,k0,y,dr3,_,rfl,hy3,(gH _ _ _ ∅ ∅ ∅),_,rfl,rfl,_,rfl,?_
  by_cases hk:k0=.ho
  .refine L2.ifT (zzT k0 .ho hk) ?_;have hc:cF k0=1:=by unfold cF;rw[if_pos hk]
   obtain⟨w1,ew,fw⟩:=hF.at (sK (show bZ (ds.take i) < hs.length by lia));exists _,rfl,.inl ⟨rfl,_,SqL.of e23⟩,_,rfl,k0,y,dr3,_,rfl,hy3,(gH _ _ _ ∅ ∅ ∅),?_;exists _,rfl,_,rfl,_,rfl,h,ys,_,_,rfl,rfl,s23.seq hS,by rw[hti];exact cA ew,y,z,fa,w1,.int u,.int v,p,_,_,1000,7801,rfl,rw3,fz3,fa3,s23.fq fw,lp.pos,flow.1.pos,bp,flow.2,(),p0,λr H4 s4 f4=>?_;have e4:=s4 _ _ e23;exists l,_,_,rfl,rfl,e4,bH (),?_;exists _,rfl,_,_,rfl,rfl,?_;exists (s23.trans s4).change hl,_,ti+1,_,_,rfl,by rw[gO,hti,hc];lia,aB,?_;have fl:jT lv hs (bZ (ds.take i)) (k0,u,v,p)=pK k0 (flF lv (k0,u,v,p)) (hs.getD (bZ (ds.take i)) Mq.z0) p:=by
    show pK k0 _ (if k0=.ho then _ else _) _=_;rw[if_pos hk]
   rw[fl];exact((F2.same (s3.trans s4)).app (.cons f4 .nil)).upd e4
  .refine L2.ifF (zzF k0 .ho hk) ?_;have hc:cF k0=0:=by unfold cF;rw[if_neg hk]
   exists _,rfl,.inl ⟨rfl,_,SqL.of e23⟩,_,rfl,k0,y,dr3,_,rfl,hy3,(gH _ _ _ ∅ ∅ ∅),_,rfl,y,z,fa,Z.aN,.int u,.int v,p,_,(0,1),1000,7801,rfl,rw3,fz3,fa3,fN _,lp.pos,flow.1.pos,bp,flow.2,(),p0,λr H4 s4 f4=>?_;have e4:=s4 _ _ e23;exists l,_,_,rfl,rfl,e4,bH (),?_;exists (s23.trans s4).change hl,_,ti,_,_,rfl,by rw[gO,hti,hc];rfl,aB,?_;have fl:jT lv hs (bZ (ds.take i)) (k0,u,v,p)=pK k0 (flF lv (k0,u,v,p)) (0,1) p:=by
    show pK k0 _ (if k0=.ho then _ else _) _=_;rw[if_neg hk]
   rw[fl];exact((F2.same (s3.trans s4)).app (.cons f4 .nil)).upd e4
 rintro σ H2 ⟨s2,zs,ti,z5,z6,rfl,hti,e2,F2⟩;rw[lxs,take_length] at F2;exists _,rfl,q l zs H2 s2 hl e2 F2
theorem R58:FZ (CX1 Z.P Z.w) 8 Z.f58 Z.d58 ["self","net"] (yX Z.c_Net Z.c_Answer Z.c_Ring Z.c_Floats Z.K):=by
 refine F58.okX vC (λvs H Q E h=>?_) λcdv A outer s H vs Q E hr h=>?_
 .obtain⟨_,_,_,_,_,_,rfl,_⟩:=h;rfl
 obtain⟨x,dx,n,l,m,ds,rfl,hx,nt,pt,mo,m20,h40,hz,rf,qq⟩:=h;have r1:=hr.mono (show 1<=7 by lia);have r4:=hr.mono (show 4<=7 by lia);have r5:=hr.mono (show 5<=7 by lia);have r7:=hr;refine⟨_,(aC (cC (aI R56 r7 rfl m56 F56.kp b56 .nil (Ny rS Du) (aA (pv 1) aD)))
  (aC (qQ1 (i:=2) vC.nd (aI Y49.G r7 rfl m49 F49.kp Y49.b .nil aQ (aA (pv 1) aD)))
  (aC (qQ1 (i:=3) vC.nd (aI Y55.G r5 rfl m55 F55.kp Y55.b .nil aQ (aA (aK aY (pv 2) aE) (aA (aK aY (pv 2) aE) aD))))
  (aC (qQ1 (i:=4) vC.nd (bC jC (fY (pv 1) NTx.cl X2 R31 r1 b31 .nil aQ) aE))
  (aC (oE (pv 0) (aK aY (pv 2) aE) rfl)
  (aC (oE (pv 0) (bC sS (dZ (aA (fL (v:=.ref Z.aN) rfl mv_NOUGHT rfl) aD)) (gE iT (pv 3) jG (fV (pv 4)))) rfl)
  (aF (oE (pv 0) (aI Y57.G r5 rfl m57 F57.kp Y57.b .nil aQ (aA (fY (pv 1) NTx.cl X3 R35 r4 b35 .nil aQ) (aA (cK (pv 0) rfl) (aA (gE iT (pv 3) (fV (pv 4)) jG) aD)))) rfl)))))))),?_⟩
 exists _,rfl,n,l,m,ds,rfl,nt,pt,mo,m20,h40,hz,rf,λhR hF H1 s1=>?_;obtain⟨b,kb,L,NB,hw39,h01,q⟩:=qq hR hF;have nt:=NB.nt;have hK:=NB.ok;have m20:=NB.m20;have h40:=NB.h40;have hbig:=NB.cu;have EB:=NB.eb;have mo:=EB.o.m1;exists _,rfl,n,l,m,kb,ds,rfl,nt.same s1,hK,mo,m20,h40,hbig,λtt p r us ys X Y H2 s2 et np nr ep er FM FY nx EO=>?_;have s02:=s1.trans s2;have lX:X.length=m - 1+bZ ds:=EO.x.h;have lY:Y.length=X.length:=by rw[EO.y.w,lX]
 have w26:=EB.w26;have lw:wd m ds=m - 1+bZ ds:=rfl;have yq:∀p∈Y,(Bd b p/\p.2 ∣ L)/\∃a:Int,Mq.B b a/\Mq.val p=(a:Rat) / (L:Rat):=λp hp=>by
  obtain⟨i,hi⟩:=getElem?_of_mem hp;have ep:p=Y.getD i (0,1):=by rw[getD_eq_getElem?_getD,hi];rfl
  obtain⟨z,hz,ez⟩:=h01 i;have hv:Mq.val p=(z:Rat) / (L:Rat):=by rw[ep,EO.vy,ez]
  exists yG (EO.y.l p hp).1 EB.L1 EB.LB hz hv,z,hz,hv
 exists _,rfl,tt,_,0,_,rfl,rfl,SqT.of et,rfl,_,rfl,tt,_,1,_,rfl,rfl,SqT.of et,rfl,?_;exists p,r,p,H1,us,ys,X,Y,b,b,rfl,SqL.of ep,Ly FM (λx hx=>(nx x hx).1),SqL.of er,FY,lY,λp hp=>(EO.y.l p hp).1,λp hp=>(yq p hp).1.1,EqB.pos EO,λrow hr=>⟨λp hp=>((EB.cell EO row hr).1 p hp).1,(EB.cell EO row hr).2⟩,(),by rw[lX];exact EB.hb,Yo (EqB.pos EO) (λp hp=>(EO.y.l p hp).1.pos) lY (λrow hr p hp=>((EB.cell EO row hr).1 p hp).2) (λp hp=>⟨(yq p hp).1.2,(yq p hp).2⟩) EB.L1,EB.b1,by rw[lX];exact Nat.le_trans EB.hbw ∅,EB.wgt EO,λkn zk ps H3 s3 nkn ekn Fk SU OV=>?_;rw[lX] at OV;have lps:ps.length=wd m ds:=by rw[SU.len,lX]
 have lo:=SU.low;have b39:=Cd (n:=bw b (wd m ds)) OV lo hw39;have s03:=s02.trans s3;obtain⟨dn,hn⟩:=(nt.same s03).ob;exists _,rfl,n,dn,_,rfl,hn,gQ _ _ ∅ ∅,n,l,_,ds,rfl,nt.same s03,_,_,rfl,rfl,?_;have et3:=s3 _ _ et;have hx3:=s03 _ _ hx;have em:(m:Int) - 1=((m - 1:Nat):Int):=by lia
 show iD _ _ _ [some (.ref x),some (.ref n),some (.ref tt),some (.ref kn),some (.int ((m:Int) - 1))] H3;rw[em];exists _,rfl,tt,_,0,_,rfl,rfl,SqT.of et3,rfl,_,rfl,x,Z.c_Answer,dx,[],rfl,hx3,ABx.cl,ABx.nI,(by show 0 < 1000;decide),?_;have x4:cH x H (upd H3 x (.ins Z.c_Answer dx (gD "lines" (.ref p) []))):=λb o h nb=>by rw[aV nb];exact s03 _ _ h
 have x34:cH x H3 (upd H3 x (.ins Z.c_Answer dx (gD "lines" (.ref p) []))):=λb o h nb=>by rw[aV nb];exact h
 have hx4:upd H3 x (.ins Z.c_Answer dx (gD "lines" (.ref p) [])) x=some (.ins Z.c_Answer dx (gD "lines" (.ref p) [])):=aB;have ek4:=cH.seqI hx3 x34 (SqL.of (K:=Z.K) ekn);have Fk4:=cH.fqsI hx3 x34 Fk;generalize upd H3 x (.ins Z.c_Answer dx (gD "lines" (.ref p) []))=H4 at x4 x34 hx4 ek4 Fk4 ⊢;exists zl9 1,λL1 hL1=>?_;obtain⟨H5,zq,s5,e5⟩:=nw hL1 (.lst [.ref Z.aN]);rw[zq];exists _,rfl,_,rfl,_,rfl,kn,zk,rfl,s5.seq ek4,λS hS=>?_;rw[qh4];obtain⟨H6,zq,s6,e6⟩:=nw hS (.lst (zk.take (m - 1)));rw[zq];have lzk:=Fk.length;exists L1,S,_,_,rfl,rfl,s6 _ _ e5,e6,Nat.le_of_lt (bH (by rw[length_take];simp only[length_cons,length_nil];lia)),λV1 hV1=>?_;obtain⟨H7,zq,s7,e7⟩:=nw hV1 (.lst ([.ref Z.aN]++zk.take (m - 1)));rw[zq];have s47:=s5.trans (s6.trans s7);have hx7:=s47 _ _ hx4;exists _,rfl,x,Z.c_Answer,dx,_,rfl,hx7,ABx.cl,ABx.nE,(by have:=gJ ("lines":Str) (.ref p) [];simp only[length_nil] at this;lia),?_;have x78:cH x H7 (upd H7 x (.ins Z.c_Answer dx (gD "levels" (.ref V1) (gD "lines" (.ref p) [])))):=λb o h nb=>by rw[aV nb];exact h
 have hx8:upd H7 x (.ins Z.c_Answer dx (gD "levels" (.ref V1) (gD "lines" (.ref p) []))) x=some (.ins Z.c_Answer dx (gD "levels" (.ref V1) (gD "lines" (.ref p) []))):=aB;generalize upd H7 x (.ins Z.c_Answer dx (gD "levels" (.ref V1) (gD "lines" (.ref p) [])))=H8 at x78 hx8 ⊢;have nn:=qf1 hx nt;have nt4:=fK.xI hx3 x34 nn (nt.same s03);have nt8:=fK.xI hx7 x78 nn (nt4.same s47);have ek8:=cH.seqI hx7 x78 (s47.seq ek4);have Fk8:=cH.fqsI hx7 x78 (Fk4.same s47);have nV1x:V1≠x:=gX e7 hx7 (λz=>by cases z);have ev8:=cH.seqI hx7 x78 (SqL.of (K:=Z.K) e7);have Fv8:Fqs Z.K H8 ([.ref Z.aN]++zk.take (m - 1)) (lvS m ps):=.cons (fN _) (Fqs.take _ Fk8);obtain⟨dn8,hn8⟩:=nt8.ob;exists _,rfl,n,dn8,_,rfl,hn8,gQ _ _ ∅ ∅,n,l,_,ds,rfl,nt8,(),λro xr H9 s9 nro ero Rb=>?_;have hx9:=s9 _ _ hx8;have ek9:=s9.seq ek8;exists _,rfl,x,Z.c_Answer,dx,_,_,rfl,hx9,ABx.cl,ABx.nE,(by rw[bY,if_pos rfl]),_,rfl,_,rfl,_,rfl,kn,zk,rfl,ek9,λS2 hS2=>?_;rw[tO];obtain⟨H10,zq,s10,e10⟩:=nw hS2 (.lst (zk.drop (m - 1)));rw[zq];have s80:=s9.trans s10;have lLv:(lvS m ps).length=m:=by
  unfold lvS;rw[length_cons,length_take];lia
 exists ro,V1,S2,xr,_,_,ds,lvS m ps,ps.drop (m - 1),m,rfl,s10 _ _ ero,Rb.same s10,⟨s80.seq ev8,Fv8.same s80,lLv,λs hs=>?_⟩,SqL.of e10,Fqs.drop _ (Fk8.same s80),λp hp=>lo p (mem_of_mem_drop hp),λd hd=>?_,by rw[length_drop];lia,h40,λfo zf H11 s11 nfo efo Ffo=>?_
 .rcases mem_cons.mp hs with z | z
  .rw[z];exists ⟨∅,∅⟩,qs5 (n:=3899)
  .exact b39 s (mem_of_mem_take z)
 .obtain⟨i,hi⟩:=getElem?_of_mem hd;exact(hK i d hi).1
 have s81:=s80.trans s11;have hx11:=s81 _ _ hx8;exists _,rfl,x,Z.c_Answer,dx,_,rfl,hx11,ABx.cl,ABx.nO,(by have:=gJ ("lines":Str) (.ref p) [];have:=gJ ("levels":Str) (.ref V1) (gD "lines" (.ref p) []);simp only[length_nil] at *;lia),?_;have x12:cH x H11 (upd H11 x (.ins Z.c_Answer dx (jK p V1 fo))):=λb o h nb=>by rw[aV nb];exact h
 have hx12:upd H11 x (.ins Z.c_Answer dx (jK p V1 fo)) x=some (.ins Z.c_Answer dx (jK p V1 fo)):=aB;show Q .non (upd H11 x (.ins Z.c_Answer dx (jK p V1 fo)));generalize upd H11 x (.ins Z.c_Answer dx (jK p V1 fo))=H12 at x12 hx12 ⊢;have px:p≠x:=gX (s3 _ _ ep) hx3 (λz=>by cases z);refine q ps H12 (λb o h nb=>x12 _ _ (s81 _ _ (x78 _ _ (s47 _ _ (x4 _ _ h nb)) nb)) nb) ⟨dx,p,V1,fo,_,zf,hx12,x12 _ _ (s81 _ _ (x78 _ _ e7 nV1x)) nV1x,cH.fqsI hx11 x12 (Fv8.same s81),x12 _ _ efo (gX efo hx11 (λz=>by cases z)),cH.fqsI hx11 x12 Ffo,λl0 o0 h0 n0=>⟨λz=>?_,λz=>?_⟩⟩ lps lo OV (EqB.sol EO SU λi _=>EO.vy i) (λZ hZ=>⟨dx,p,V1,fo,us,X,_,Y,hx12,x12 _ _ (s81 _ _ (x78 _ _ (s47 _ _ (x34 _ _ (s3 _ _ ep) px)) px)) px,He hx11 x12 ((He hx7 x78 ((He hx3 x34 ((Lp FM λx hx=>(nx x hx).1).same s3)).same s47)).same s81),EO,λy hy=>?_⟩)
 .rw[z,(s5.trans s6) _ _ (x4 _ _ h0 n0)] at hV1;cases hV1
 .rw[z,s80 _ _ (x78 _ _ (s47 _ _ (x4 _ _ h0 n0)) n0)] at nfo;cases nfo
 .obtain⟨yx,o,ho⟩:=hZ y hy;have ho1:=s1 _ _ ho;exists λz=>yx z.symm,λz=>(by rw[<- z,np] at ho1;cases ho1),λu hu z=>?_;obtain⟨a',ea,na⟩:=FM.new hu;rw[ea] at z
  cases z
  rw[na] at ho1;cases ho1
theorem Y59:DZ 3 Z.f59 Z.d59 ["matrix"] (Ax Z.K) "beside_unit":=by
 exists ?_,F59.b1 _ (by intros;rfl),F59.kp,m59
 refine F59.ok9 yN λ_ _ _ s H _ Q E hr h=>?_;obtain⟨g,D0,us,X,L,b,rfl,hU,hX,MX,q⟩:=h;refine⟨_,(aC (qQ1 (i:=1) yN.nd (dZ aD))
  (aC (eO PassesOwn.never rfl (vI rfl n_enumerate rfl (aA (pv 0) aD)) (fP rfl (bO (aM (i:=2) yN.nd rfl (Or.inr rfl)) (bO (qQ0 (i:=3) yN.nd) eJ)))
   (aC (aT (i:=4) yN.nd rfl (Or.inr rfl) (d9 Y50 hr rfl (aA (pv 3) aD)))
  (aF (cC (mH PySem.F.plainAttrs_list PySem.F.slot_list_append PySem.F.type_list_append eQ (pv 1) (aA (bC sS (aK aY (pv 4) aE) (dD (nl:=1) (fr:=[4,2]) (Nc:=["column","whole","place"]) (cl:=[("whole",s.heap.objs.size+2),("place",s.heap.objs.size+1)]) rfl ⟨rfl,rfl,∅,∅,(cO rfl (cO rfl (iP))),dI rfl,rfl,λi n h=>match i,h with | 0,h=>by cases h;exact⟨4,rfl,rfl,rfl,rfl,.inl rfl⟩ | 1,h=>by cases h;exact⟨2,rfl,rfl,rfl,rfl,.inl rfl⟩ | k+2,h=>by rw[show 1+(k+2)=k+3 by lia] at h;cases h⟩
    (fA rfl n_range (aA (cB bV rfl n_len PySem.boot_len (aA (pv 0) aD)) aD)) (λ_ _ _ _ _=>(qQ0 (i:=0) oB)) (λ_ _ _ _ _=>dC)
    (λ_ _ _ _ _=>(lH (bK dY (pv 0) (pv 2) (bM _)) (aK (kM (K:=Z.K) rfl) (pv 1) aE) aE)))) aD))))))
  (aF (aW (pv 1))))),?_⟩
 have lu:=hX.length;have xP:=MX.p;have xB:∀row∈X,(∀p∈row,Bd b p)/\row.length=X.length:=λrow h=>⟨λp hp=>((MX.c row h).1 p hp).1,(MX.c row h).2⟩
 have x4:=MX.n;have xh:∀n,n<=X.length+1->10+b+b*n<=8000:=λn h=>Nat.le_trans (Nat.add_le_add_left (Nat.mul_le_mul_left _ h) _) MX.hb;exists zl9 0,λl0 hl0=>?_;obtain⟨H0,zq,s0,e0⟩:=nw hl0 (.lst []);rw[zq];exists _,rfl,g,rfl,⟨_,s0.seq hU⟩,?_;refine Ea (xs:=us) (λi σ H'=>aX H H'/\∃zs z2 z3 z4,H' l0=some (.lst zs)/\Imx l0 H' zs ((iC X).take i)/\σ=[some (.ref g),some (.ref l0),z2,z3,z4]) ⟨s0,[],none,none,none,e0,.nil,rfl⟩ (λi σ H' _ h=>h.1.seq hU) ?_ ?_
 .rintro i x σ H1 T1 hx ⟨s1,zs,z2,z3,z4,e1,I1,rfl⟩ hT;obtain⟨u,ys,row,rfl,er,hu',fu⟩:=hX.get hx;have hi:i < X.length:=(wq.mp er).1;have mem:=mem_of_getElem? er;obtain⟨rb,rl⟩:=xB row mem;have sT:=aG hT (.tup [.int (i:Int),.ref u]);exists T1,_,rfl,SqT.of aB,rfl,_,_,rfl,_,_,rfl,rfl,?_;generalize upd H1 T1 (.tup [.int (i:Int),.ref u])=H2 at sT ⊢;have s2:=s1.trans sT;exists _,rfl,u,ys,row,b,rfl,s2.seq hu',fu.same s2,xP row mem,rb,(),xh _ (),λt l H3 s3 nl ht hl=>?_;have s13:=sT.trans s3;have e3:=s13 _ _ e1;exists _,rfl,.inl ⟨rfl,_,SqL.of e3⟩,_,rfl,t,_,_,_,rfl,rfl,ht,rfl,_,rfl,g,us,rfl,.inl ((s1.trans s13).seq hU),(us.length:Int),rfl,(),(),λD hD=>?_;rw[Int.toNat_natCast,lu];have sD:=aG hD (.lst []);have ff:∀c:Nat,((if c=i then dR row else 0:Int))=if c=i then dR row else 0:=λ_=>rfl
  refine iJ (n:=X.length) (λc ws H'=>aX H3 H'/\H' D=some (.lst ws)/\ws=((List.range c).map λc=>if c=i then dR row else (0:Int)).map V.int) ⟨sD,aB,rfl⟩ (λc ws H' h=>h.2.1) ?_ ?_
  .rintro c ws H4 hc ⟨s4,e4,rfl⟩ C hC;have fin:∀z:Int,z=(if c=i then dR row else 0)->aX H3 (upd H4 D (.lst (((List.range c).map λc=>if c=i then dR row else (0:Int)).map V.int++[V.int z])))/\upd H4 D (.lst (((List.range c).map λc=>if c=i then dR row else (0:Int)).map V.int++[V.int z])) D=some (.lst (((List.range c).map λc=>if c=i then dR row else (0:Int)).map V.int++[V.int z]))/\((List.range c).map λc=>if c=i then dR row else (0:Int)).map V.int++[V.int z]=((List.range (c+1)).map λc=>if c=i then dR row else (0:Int)).map V.int:=λz hz=>⟨s4.change hD,aB,by rw[range_succ,map_append,map_append,hz];rfl⟩
   exists cZ.1,cZ.2,eY ?_;rw[Int.zero_add];exists _,rfl,_,rfl,rfl,_,rfl,yT (λe=>?_) (λe=>?_)
   .exists _,rfl,t,_,_,_,rfl,rfl,s4.seqT ht,rfl,e4,bH (by simp;lia),hC _ _ (fin _ ?_);rw[if_pos (by simp at e;lia)]
   .exists e4,bH (by simp;lia),hC _ _ (fin _ ?_);rw[if_neg (by simp at e;lia)]
  rintro ws H4 ⟨s4,e4,rfl⟩;exists l,D,_,_,rfl,rfl,s4 _ _ hl,e4,Nat.le_of_lt (bH (by simp[wh,nH];lia)),λp hp=>?_;have eR:(wh row).1.map V.int++((List.range X.length).map λc=>if c=i then dR row else (0:Int)).map V.int=(gN X.length i row).map V.int:=by unfold gN wh;rw[map_append]
  have eR':(iw row).map V.int++((List.range X.length).map λc=>if c=i then dR row else (0:Int)).map V.int=(gN X.length i row).map V.int:=eR;rw[eR'];have s5:=aG hp (.lst ((gN X.length i row).map V.int));have e5:upd H4 p (.lst ((gN X.length i row).map V.int)) p=some (.lst ((gN X.length i row).map V.int)):=aB;have s15:=(s13.trans s4).trans s5;have np:p≠l0:=λz=>by
   have:=(s13.trans s4) _ _ e1;rw[z,this] at hp;cases hp
  generalize upd H4 p (.lst ((gN X.length i row).map V.int))=H5 at s5 e5 s15 ⊢;have lz:=I1.length;rw[length_take,oK] at lz;exists l0,zs,.ref p,rfl,rfl,s15 _ _ e1,bH (),?_;exists (s1.trans s15).change hl0,_,_,_,_,aB,?_,rfl;have ee:(iC X).take (i+1)=(iC X).take i++[gN X.length i row]:=by
   rw[take_add_one];unfold iC;rw[getElem?_mapIdx,er];rfl
  rw[ee];exact((I1.same s15).app (.cons np e5 .nil)).upd
 .rintro σ H1 ⟨s1,zs,z2,z3,z4,e1,I1,rfl⟩;rw[lu,<- oK X,take_length] at I1;exists _,rfl,q l0 zs H1 s1 hl0 e1 I1
theorem Y60:DZ 3 Z.f60 Z.d60 ["tops","pivot"] (Shp.Jj Z.K) "over_pivot":=by
 exists ?_,F60.b2 _ _ (by intros;rfl),F60.kp,m60
 refine F60.ok9 Wa λ_ _ _ s H _ Q E hr h=>?_;obtain⟨l,ts,pq,n,rfl,hS,h100,h0,bP,hn,q⟩:=h;refine⟨_,(aF (aW (dD (nl:=1) (fr:=[1]) (Nc:=["top","pivot"]) (cl:=[("pivot",s.heap.objs.size+1)]) rfl ⟨rfl,rfl,∅,∅,λx c h=>h,dI rfl,rfl,λi n h=>match i,h with | 0,h=>by cases h;exact⟨1,rfl,rfl,rfl,rfl,.inl rfl⟩ | k+1,h=>by rw[show 1+(k+1)=k+2 by lia] at h;cases h⟩
    (cG (pv 0)) (λ_ _ _ _ _=>(qQ0 (i:=0) Bf)) (λ_ _ _ _ _=>dC)
    (λ_ _ _ _ _=>(d9 Y6 hr rfl (aA (pv 0) (aA (pv 1) aD))))))),?_⟩
 exists _,rfl,l,rfl,⟨_,hS⟩,λD hD=>?_;refine clS hD (xs:=ts.map V.int) (λi zs H'=>Fqs Z.K H' zs ((ts.map λt=>red t pq).take i)) .nil (λ_ h=>h.seq hS) ?_ ?_
 .rintro i zs x H1 hx ⟨s1,e1,F1⟩ C hC;have hi:i < ts.length:=by have:=(wq.mp hx).1;simpa using this
  have ex:x=.int (ts.getD i 0):=by rw[kO hi] at hx;cases hx;rfl
  subst ex;have lz:=F1.length;rw[length_take,length_map] at lz;exists cZ.1,cZ.2,eY ?_;exists _,rfl,_,rfl,_,_,n,rfl,h0,bP,(),λr H2 s2 e2=>?_;have eA:=s2 _ _ e1;exists eA,bH (),hC _ _ ⟨(s1.trans s2).change hD,aB,?_⟩;rw[take_add_one,getElem?_map,jX hi];exact((F1.same s2).app (.cons (Fq.of e2) .nil)).upd eA
 rintro zs H1 ⟨s1,e1,F1⟩;rw[length_map,take_of_length_le ⋯] at F1;exact q D zs H1 s1 hD e1 F1
theorem Y61:DZ 5 Z.f61 Z.d61 ["matrix"] (Ba Z.K) "multiples":=by
 exists ?_,F61.b1 _ (by intros;rfl),F61.kp,m61
 refine F61.ok9 Ka λcdv A outer s H vs Q E hr h=>?_;obtain⟨g,D0,us,X,L,b,rfl,hU,hX,MX,q⟩:=h;have hu:=pP hr;have r3:=hr.mono (show 3<=4 by lia);refine⟨_,(aC (aT (i:=1) Ka.nd rfl (Or.inr rfl) (cB bV rfl n_len PySem.boot_len (aA (pv 0) aD)))
  (aC (aT (i:=2) Ka.nd rfl (Or.inr rfl) (d9 Y54 r3 rfl (aA (d9 Y59 r3 rfl (aA (pv 0) aD)) (aA (pv 1) aD))))
  (aC (cD (bK yJ (mL hu (pv 2) cL (λ_ _=>rfl)) (pv 1) (bM _)) (aF iE) bQ)
  (aF (aW (dD (nl:=1) (fr:=[1,2]) (Nc:=["row","many","end"]) (cl:=[("many",s.heap.objs.size+1),("end",s.heap.objs.size+2)]) rfl ⟨rfl,rfl,∅,∅,(cO rfl (cO rfl (iP))),dI rfl,rfl,λi n h=>match i,h with | 0,h=>by cases h;exact⟨1,rfl,rfl,rfl,rfl,.inl rfl⟩ | 1,h=>by cases h;exact⟨2,rfl,rfl,rfl,rfl,.inl rfl⟩ | k+2,h=>by rw[show 1+(k+2)=k+3 by lia] at h;cases h⟩
    (cG (mL hu (pv 2) cL (λ_ _=>rfl))) (λ_ _ _ _ _=>(qQ0 (i:=0) nY)) (λ_ _ _ _ _=>dC)
    (λ_ _ _ _ _=>(d9 Y60 r3 rfl (aA (gE (Ge (K:=Z.K) rfl) (pv 0) (fV (pv 1)) jG) (aA (mL hu (pv 2) cL (λ_ _=>rfl)) aD)))))))))),?_⟩
 have lu:=hX.length;have xP:=MX.p;have x4:=MX.n;have hw:∀row∈X,row.length=X.length:=λrow h=>(MX.c row h).2;exists _,rfl,g,us,rfl,.inl hU,?_;exists _,rfl,g,D0,us,X,L,b,rfl,hU,hX,MX,λl zs H1 s1 nl e1 I1=>?_;have bits4:bw b X.length<=9000:=Nat.le_trans MX.hw ∅;exists _,rfl,l,l,zs,iC X,X.length,X.length+X.length,b,Mq.LI X.length (pJ X),by rw[lu];rfl,SqL.of e1,I1,oK X,λi hi=>by rw[oR hi,uI,hw _ (mem_of_getElem? (uS hi))],(),(),Us MX,MX.b1,bits4,(),Tn MX,Pq,λd lE zE R' rank pivot sign H2 s2 nd nlE ed el IE SE bE bp LE=>?_;obtain⟨g1',g2',g3',g4'⟩:=qW ed;have s02:=s1.trans s2;have wr:=Ev xP (Lz λi j hi hj=>tT xP hw hi hj) SE;have hr':rank=X.length:=by
  rcases wr with z | z
  .exact absurd z.2 MX.w
  .exact z.1
 exists _,rfl,d,_,rfl,g2',_,rfl,_,_,rfl,rfl,_,rfl,L2.ifF (decide_eq_false (by rw[hr',lu];lia)) ?_;subst hr';have dn:=SE.dne;have pn:pivot≠0:=λz=>dn (by rw[z];simp);have lzE:=IE.length;rw[SE.len] at lzE;exists _,rfl,d,_,rfl,g1',lE,rfl,⟨_,SqL.of el⟩,λD hD=>?_;refine clS hD (xs:=zE) (λi ws H'=>Fmd Z.K H D H' ws ((List.range i).map λi=>((R'.getD i []).drop X.length).map λt=>red t pivot)) .nil (λ_ h=>h.seq (SqL.of el)) ?_ ?_
 .rintro i ws x H3 hx ⟨s3,e3,F3⟩ C hC;have hi:i < X.length:=by have:=(wq.mp hx).1;lia
  obtain⟨u,eu,nu,hu2⟩:=IE.at (i:=i) (by rw[SE.len];exact hi);have exu:x=.ref u:=by rw[eu] at hx;cases hx;rfl
  subst exu;have wid:=SE.wid i hi;have lz:=F3.length;rw[length_map,length_range] at lz;exists cZ.1,cZ.2,eY ?_;exists _,rfl,_,rfl,(us.length:Int),rfl,u,_,rfl,SqL.of (s3 _ _ hu2),λlf hlf=>?_;rw[lu,tO,<- map_drop];obtain⟨H4,zq,s4,e4⟩:=nw hlf (.lst (((R'.getD i []).drop X.length).map V.int));rw[zq];exists _,rfl,d,_,rfl,qW ((s3.trans s4) _ _ ed) |>.2.2.1,lf,(R'.getD i []).drop X.length,pivot,bw b X.length,rfl,SqL.of e4,by rw[length_drop,wid];lia,pn,bp,bits4,λl5 z5 H5 s5 nl5 e5 F5=>?_;have s35:=s4.trans s5;have eD:=s35 _ _ e3;have ne:l5≠D:=λz=>by rw[z,s4 _ _ e3] at nl5;cases nl5
  exists eD,bH (),hC _ _ ⟨(s3.trans s35).change hD,aB,?_⟩;rw[range_succ,map_append];exact((F3.same s35).app (.cons ((s02.trans (s3.trans s4)).free nl5) ne e5 F5 .nil)).upd eD
 rintro ws H3 ⟨s3,e3,F3⟩;rw[lzE] at F3;refine q D ws _ H3 (s02.trans s3) (s02.free hD) e3 F3 ⟨⋯,λrow hrow=>?_,λk x hk hx=>?_⟩ (λrow hrow p hp=>?_)
 .obtain⟨i,hi,rfl⟩:=mem_map.mp hrow;have hi':=mem_range.mp hi;have wid:=SE.wid i hi';exists by rw[length_map,length_drop,wid];lia,λp hp=>?_;obtain⟨t,_,rfl⟩:=mem_map.mp hp;exact jH pn
 .rw[<- LE.whole SE hk hx];refine aR λj hj=>?_;have e1:((List.range X.length).map λi=>((R'.getD i []).drop X.length).map λt=>red t pivot).getD k []=((R'.getD k []).drop X.length).map λt=>red t pivot:=by
   rw[getD_eq_getElem?_getD,getElem?_map,getElem?_range hk];rfl
  have wid:=SE.wid k hk;rw[e1,Be (by rw[length_drop,wid];lia),kQ pn,Ab];rfl
 .obtain⟨i,hi,rfl⟩:=mem_map.mp hrow;obtain⟨t,ht,rfl⟩:=mem_map.mp hp;have le:=oF (t:=t) pn;obtain⟨j,hj,rfl⟩:=getElem_of_mem ht;have tb:Mq.B (bw b X.length) ((R'.getD i []).drop X.length)[j]:=by
   have e1:((R'.getD i []).drop X.length)[j]=(R'.getD i []).getD (X.length+j) 0:=by
    exact(show _=((R'.getD i []).drop X.length).getD j 0 by rw[getD_eq_getElem?_getD (l:=(R'.getD i []).drop X.length),getElem?_eq_getElem hj];rfl).trans Ab
   rw[e1];exact bE i (X.length+j)
  exists (tb.le le.1).mono bits4,(bp.le le.2).mono bits4
theorem R62:FZ CX0 1 Z.f62 Z.d62 ["self"] (tJ Z.c_Answer Z.K):=by
 refine F62.ok9 qk3 λ_ _ _ s H _ Q E hr h=>?_;obtain⟨a,lv,fl,rfl,⟨⟨dx,li,le,fo,xs,ys,ha,hle,Fle,hfo,Ffo⟩⟩,q⟩:=h;exists _,(aF (aW (iA iB rfl n_list PyProof.Rows.boot_list (aA (cK (pv 0) rfl) aD)))),?_;exists _,rfl,a,Z.c_Answer,_,_,_,rfl,ha,ABx.cl,ABx.nE,Ye _ _ _,le,_,rfl,.inl hle,λl hl=>?_;have sl:=aG hl (.lst xs);exact q l _ _ sl hl aB (Fle.same sl)
theorem R63:FZ CX0 1 Z.f63 Z.d63 ["self"] (sY Z.c_Answer Z.K):=by
 refine F63.ok9 qd6 λ_ _ _ s H _ Q E hr h=>?_;obtain⟨a,lv,fl,rfl,⟨⟨dx,li,le,fo,xs,ys,ha,hle,Fle,hfo,Ffo⟩⟩,q⟩:=h;exists _,(aF (aW (iA iB rfl n_list PyProof.Rows.boot_list (aA (cK (pv 0) rfl) aD)))),?_;exists _,rfl,a,Z.c_Answer,_,_,_,rfl,ha,ABx.cl,ABx.nO,Wf _ _ _,fo,_,rfl,.inl hfo,λl hl=>?_;have sl:=aG hl (.lst ys);exact q l _ _ sl hl aB (Ffo.same sl)
theorem R64:FZ CX0 6 Z.f64 Z.d64 ["self"] (Dp Z.c_Answer Z.K):=by
 refine F64.ok9 qd0 λ_ _ _ s H _ Q E hr h=>?_;obtain⟨a,m,b,L,ds,rfl,LN,EB,w10,q⟩:=h;obtain⟨dx,li,le,fo,us,M,N,Y,ha,hl,FM,EO,_⟩:=LN.e;exists _,(aF (aW (d9 Y61 hr rfl (aA (cK (pv 0) rfl) aD)))),?_;exists _,rfl,a,Z.c_Answer,dx,_,_,rfl,ha,ABx.cl,ABx.nI,Xe _ _ _,li,li,us,M,L,b,rfl,SqL.of hl,FM,EB.mxl EO w10,λl zs P H' s' nl el FP IV bd=>q l zs P H' s' nl el FP (IV.pap EO) bd
theorem Y65:DZ 1 Z.f65 Z.d65 ["_law_script","_law_k"] (Mc Z.K) "_law_nth":=by
 exists ?_,F65.b2 _ _ (by intros;rfl),F65.kp,m65
 refine F65.ok9 Zr λ_ _ _ s H _ Q E hr h=>?_;obtain⟨a,ns,j,k,rfl,hj,hS,h63,hk,q⟩:=h;refine⟨_,(aC (eO PassesOwn.never rfl (cG (gE iT (pv 0) (fV (pv 1)) (fV (bC gF (pv 1) aE)))) (qQ0 (i:=2) Zr.nd)
   (aF (aW (pv 2))))
  (aF (aW (bC gG (bC cP (bC lB aE (pv 1)) (pv 1)) aE)))),?_⟩
 exists _,rfl,_,rfl,j,rfl,_,rfl,_,_,rfl,rfl,j+1,rfl,a,_,rfl,hS,λl hl=>?_;have s1:=aG hl (.lst (kU (ns.map V.int) (some j) (some (j+1))));have e1:upd H l (.lst (kU (ns.map V.int) (some j) (some (j+1)))) l=some (.lst (kU (ns.map V.int) (some j) (some (j+1)))):=aB;obtain⟨ms,em,lm⟩:=Tj ns (some j) (some (j+1));rw[em] at e1 s1 ⊢;generalize upd H l (.lst (ms.map V.int))=H1 at e1 s1 ⊢;exists l,rfl,⟨_,SqL.of e1⟩,?_;refine eU (xs:=ms.map V.int) (λi σ H'=>H'=H1/\∃z,σ=[some (.ref a),some (.int j),z]) ⟨rfl,none,rfl⟩ (λi σ H' _ h=>by rw[h.1];exact SqL.of e1) ?_ ?_
 .rintro i x σ H' hx ⟨rfl,z,rfl⟩;obtain⟨c,rfl⟩:∃c,x=.int c:=by
   rw[getElem?_map] at hx
   cases hm:ms[i]? with
   |none=>rw[hm] at hx;cases hx
   |some c=>rw[hm] at hx;cases hx;exists c,rfl
  exists _,rfl,q c _ s1
 .rintro σ H' ⟨rfl,z,rfl⟩;exists _,rfl,_,_,rfl,rfl,Or.inl ⟨∅,∅⟩,_,rfl,cQ (n:=40) (m:=40) (Ow () ()) (Ow () ()) () () ⟨_,_,rfl,rfl,(show (0:Int) < 1009 by decide),q _ _ s1⟩
theorem Y66:DZ 1 Z.f66 Z.d66 ["_law_one","_law_other"] Fa "_law_divisor":=by
 exists ?_,F66.b2 _ _ (by intros;rfl),F66.kp,m66
 refine F66.ok9 Zc λ_ _ _ s H _ Q E hr h=>?_;obtain⟨x,y,rfl,q⟩:=h;refine⟨_,(aC (xZ PassesOwn.never (bK jL (pv 1) aE (bM _)) (aF (Qy (i:=0) (j:=1) rfl Zc.nd rfl rfl ∅ rfl rfl (aA (pv 1) (aA (bC vO (pv 0) (pv 1)) aD)) rfl)))
  (aF (aW (cB Gg rfl bl.abs PyProof.Rows.boot_abs (aA (pv 0) aD))))),?_⟩
 refine wF (λσ H'=>H'=H/\∃u v,σ=[some (.int u),some (.int v)]/\gc u v=gc x y) (λσ _=>match σ with | [_,some (.int v)]=>v.natAbs | _=>0) ⟨rfl,x,y,rfl,rfl⟩ ?_ ?_
 .rintro σ H' ⟨rfl,u,v,rfl,e⟩;exists _,rfl,rfl,_,rfl,?_;refine yT (λc=>?_) (λc=>?_)
  .have hv:v≠0:=by intro q;subst q;simp at c
   exists _,rfl,_,rfl,_,rfl,_,_,rfl,rfl,hv,_,_,rfl,⟨rfl,v,Int.fmod u v,rfl,(Kh u v).trans e⟩,zI hv
  .have hv:v=0:=by
    simp at c;exact c
   subst hv;exists _,rfl,_,rfl,?_;rw[<- Kx,e];exact q
 .rintro σ H Q Q' m ⟨v,h1,h2,k,h3,h4⟩;exists v,h1,h2,k,h3,m _ _ h4
theorem Y67:DZ 2 Z.f67 Z.d67 ["_law_top","_law_bottom"] rX "_law_lowest":=by
 exists ?_,F67.b2 _ _ (by intros;rfl),F67.kp,m67
 refine F67.ok9 Gf λcdv A outer s H vs Q E hr h=>?_;obtain⟨t,b',n,rfl,hb,hB,hn,q⟩:=h;refine⟨_,(aC (qQ1 (i:=2) Gf.nd (d9 Y66 hr rfl (aA (pv 0) (aA (pv 1) aD))))
  (aF (aW (dA (aA (bC kC (pv 0) (pv 2)) (aA (bC kC (pv 1) (pv 2)) aD)))))),?_⟩
 have hd:=tH (t:=t) (show b'≠0 by lia);have hdB:Mq.B n (dvr t b'):=hB.le (Hb ());have e:=Cc (t:=t) hb;rw[e] at hd hdB;have q':uU H Q (t.fdiv (gc t b'),b'.fdiv (gc t b')):=by
  have z:=q;unfold red at z;rw[e] at z;exact z
 exists _,rfl,_,rfl,t,b',rfl,?_;exists _,rfl,_,rfl,iS hd hdB hn ⟨_,rfl,_,rfl,iS hd hdB hn ⟨zl9 2,λp hp=>?_⟩⟩;exact q' p _ (aG hp _) aB
theorem Y68:DZ 2 Z.f68 Z.d68 ["_law_found"] (Wc Z.K) "_law_is":=by
 exists ?_,F68.b1 _ (by intros;rfl),F68.kp,m68
 refine F68.ok9 qr0 λcdv A outer s H vs Q E hr h=>?_;obtain⟨a,p,rfl,fa,hp,q⟩:=h;refine⟨_,(aC (cD (PW.pt (gP (dU (cT (gL (i:=0) rfl (Or.inl rfl) bl.isi n_tuple rfl rfl PyProof.Rows.boot_tuple))) (gS (bK jL (cB bV rfl n_len PySem.boot_len (aA (pv 0) aD)) aE (bM _))))) (aF (aW fD)) bQ)
  (aC (eO PassesOwn.never rfl (qe7 (pv 0)) (qQ0 (i:=1) qr0.nd)
   (aF (cD (PW.pt (gP (dU (cT (gL (i:=1) rfl (Or.inl rfl) bl.isi bl.int rfl rfl PyProof.Rows.boot_int))) (gS (cT (gL (i:=1) rfl (Or.inl rfl) bl.isi bl.bool rfl rfl PyProof.Rows.boot_bool))))) (aF (aW fD)) bQ)))
  (aF (aW (kT (fU uL (aK aY (pv 0) aE) aE (bM _)) (oX (fU dY (d9 Y66 hr rfl (aA (aK aY (pv 0) aE) (aA (aK aY (pv 0) aE) aD))) aE (bM _)))))))),?_⟩
 exists _,_,true,rfl,.tup fa,rfl,_,rfl,dE ⟨_,rfl,a,_,rfl,.inr fa,rfl,_,rfl,dE ?_⟩;exists _,rfl,a,rfl,⟨_,fa⟩,?_;refine Xf (xs:=[.int p.1,.int p.2]) (λi σ H'=>H'=H/\∃z,σ=[some (.ref a),z]) ⟨rfl,none,rfl⟩ (λi σ H' _ h=>by rw[h.1];exact fa) ?_ ?_
 .rintro i x σ H' hx ⟨rfl,z,rfl⟩;have hint:∃j,x=.int j:=by
   match i,hx with
   |0,h=>exact⟨p.1,by simpa using h.symm⟩
   |1,h=>exact⟨p.2,by simpa using h.symm⟩
   |n+2,h=>simp at h
  obtain⟨j,rfl⟩:=hint;exists _,_,true,rfl,.of (.int j),rfl,_,rfl,dE ⟨_,_,false,rfl,.of (.int j),(by with_unfolding_all rfl),_,rfl,dE ⟨rfl,_,rfl⟩⟩
 .rintro σ H' ⟨rfl,z,rfl⟩;have h1:=hp.pos;refine cU rfl fa ⟨_,_,rfl,rfl,_,rfl,ifT (decide_eq_true (show p.2 > 0 by lia)) (eI rfl fa (cU rfl fa ⟨_,_,rfl,rfl,?_⟩))⟩;rw[hp.one];exact q
theorem Y69:DZ 3 Z.f69 Z.d69 ["_law_found","_law_many"] (vP Z.K) "_law_list":=by
 exists ?_,F69.b2 _ _ (by intros;rfl),F69.kp,m69
 refine F69.ok9 Vy λ_ _ _ s H _ Q E hr h=>?_;obtain⟨a,xs,ps,rfl,hS,hF,hP,h100,q⟩:=h;refine⟨_,(aC (cD (PW.pt (gP (dU (cT (gL (i:=0) rfl (Or.inl rfl) bl.isi n_list rfl rfl PyProof.Rows.boot_list))) (gS (bK jL (cB bV rfl n_len PySem.boot_len (aA (pv 0) aD)) (pv 1) (bM _))))) (aF (aW fD)) bQ)
  (aF (aW (cB (rQ rfl) rfl n_all PyProof.Rows.boot_all (aA (dD (nl:=1) (fr:=[]) (Nc:=["_law_one"]) (cl:=[]) rfl ⟨rfl,rfl,∅,∅,λx c h=>(by cases h),dI rfl,rfl,λi n h=>(by simp at h)⟩
    (cG (pv 0)) (λ_ _ _ _ _=>(qQ0 (i:=0) Ht)) (λ_ _ _ _ _=>dC)
    (λ_ _ _ _ _=>(d9 Y68 hr rfl (aA (pv 0) aD)))) aD))))),?_⟩
 have lx:=hF.length;exists _,_,true,rfl,.lst hS,rfl,_,rfl,dE ⟨_,rfl,a,_,rfl,.inl hS,_,rfl,rfl,_,rfl,?_⟩;rw[lx];refine ql2 rfl ?_;exists _,rfl,a,rfl,⟨_,hS⟩,λD hD=>?_;refine clS hD (xs:=xs) (λi zs H'=>zs=(replicate i true).map V.bl) rfl (λ_ h=>h.seq hS) ?_ ?_
 .rintro i zs x H1 hx ⟨s1,e1,rfl⟩ C hC;obtain⟨u,p,rfl,ep,fu⟩:=hF.get hx;have hi:i < ps.length:=(wq.mp ep).1;exists cZ.1,cZ.2,eY ?_;exists _,rfl,u,p,rfl,s1.fq fu,hP p (mem_of_getElem? ep),?_;exists e1,bH (by rw[length_map,length_replicate];lia),hC _ _ ⟨s1.change hD,aB,?_⟩;rw[replicate_succ',map_append];rfl
 .rintro zs H1 ⟨s1,e1,rfl⟩;exists D,_,rfl,SqL.of e1,?_;rw[show (replicate xs.length true).all id=true by simp];exact q _ s1
theorem Y70:DZ 1 Z.f70 Z.d70 ["_law_some","_law_others","_law_due"] (Shp.oM Z.K) "_law_meets":=by
 exists ?_,F70.b3 _ _ _ (by intros;rfl),F70.kp,m70
 refine F70.ok9 mM λcdv A outer s H vs Q E hr h=>?_;obtain⟨a,o,d,xs,ys,ms,ps,q,n,n',rfl,hX,fX,hO,fO,fd',hb,hb2,hq,hl,hn,hn',hpl,hE,z⟩:=h;refine⟨_,(aC (qQ1 (i:=3) mM.nd aE)
  (aC (qQ1 (i:=4) mM.nd aE)
  (aC (eO PassesOwn.never rfl (Db rfl n_zip rfl (aA (pv 0) (aA (pv 1) aD))) (fP rfl (bO (qQ0 (i:=5) mM.nd) (bO (qQ0 (i:=6) mM.nd) eJ)))
   (aC (qQ1 (i:=3) mM.nd (bC gF (bC cP (bC cP (pv 3) (aK aY (pv 5) aE)) (aK aY (pv 6) aE)) (bC cP (bC cP (aK aY (pv 5) aE) (aK aY (pv 6) aE)) (pv 4))))
  (aF (qQ1 (i:=4) mM.nd (bC cP (bC cP (pv 4) (aK aY (pv 5) aE)) (aK aY (pv 6) aE))))))
  (aF (aW (fU dY (bC cP (pv 3) (aK aY (pv 2) aE)) (bC cP (aK aY (pv 2) aE) (pv 4)) (bM _))))))),?_⟩
 have lx:=fX.length;have ly:=fO.length;have lL:(zipWith Mq.pp ms ps).length=ms.length:=by simp[hpl]
 exists _,rfl,_,rfl,a,o,rfl,⟨_,hX⟩,⟨_,hO⟩,?_;refine Kn (xs:=xs) (ys:=ys) (λi σ H'=>aX H H'/\i<=10/\∃z5 z6,σ=[some (.ref a),some (.ref o),some (.ref d),some (.int (Mq.N ((zipWith Mq.pp ms ps).take i))),some (.int (Mq.D ((zipWith Mq.pp ms ps).take i))),z5,z6]/\Mq.B (1+(n+n' + 10)*i) (Mq.N ((zipWith Mq.pp ms ps).take i))/\Mq.B (1+(n+n' + 10)*i) (Mq.D ((zipWith Mq.pp ms ps).take i))) ⟨aX.refl _,(),none,none,rfl,show (0:Nat) < 2 ^ (1+(n+n' + 10)*0) from Nat.two_pow_pos _,show (1:Nat) < 2 ^ (1+(n+n' + 10)*0) by simp⟩ (λi σ H' _ h=>⟨h.1.seq hX,h.1.seq hO⟩) ?_ ?_
 .rintro i x y σ H1 T1 ex ey ⟨s1,i10,z5,z6,rfl,bN,bD⟩ hT;obtain⟨u,p,rfl,ep,fu⟩:=fX.get ex;obtain⟨v,r,rfl,er,fv⟩:=fO.get ey;have hi:i < ms.length:=(wq.mp ep).1;have pb:=hb p (mem_of_getElem? ep);have ob:=hb2 r (mem_of_getElem? er);have sT:=aG hT (.tup [.ref u,.ref v]);exists T1,_,rfl,SqT.of aB,rfl,_,_,rfl,_,_,rfl,rfl,?_;have sx:=s1.trans sT;have fu':=sx.fq fu;have fv':=sx.fq fv;generalize upd H1 T1 (.tup [.ref u,.ref v])=H2 at sx fu' fv' ⊢;obtain⟨eN,eD⟩:=Mq.Yd (ps:=zipWith Mq.pp ms ps) (i:=i) (p:=Mq.pp p r) (by rw[getElem?_zipWith,ep,er]);have kb:(n+n' + 10)*i<=(n+n' + 10)*10:=Nat.mul_le_mul_left _ ();have b1:=bN.mul pb.b;have b2:=b1.mul ob.b;have b3:=pb.a.mul ob.a;have b4:=b3.mul bD;have b5:=bD.mul pb.b;have b6:=b5.mul ob.b;exists _,rfl,cU rfl fu' (cQ bN pb.b () () (cU rfl fv' (cQ b1 ob.b () () (eI rfl fu' (eI rfl fv' (cQ pb.a ob.a () () ⟨_,rfl,cQ b3 bD () () ⟨_,_,rfl,rfl,?_⟩⟩))))));exists _,rfl,cU rfl fu' (cQ bD pb.b () () (cU rfl fv' (cQ b5 ob.b () () ?_)));have x1:Mq.N ((zipWith Mq.pp ms ps).take i)*p.2*r.2+p.1*r.1*Mq.D ((zipWith Mq.pp ms ps).take i)=Mq.N ((zipWith Mq.pp ms ps).take (i+1)):=by rw[eN];show _=_*(p.2*r.2)+(p.1*r.1)*_;rw[Int.mul_assoc]
  have x2:Mq.D ((zipWith Mq.pp ms ps).take i)*p.2*r.2=Mq.D ((zipWith Mq.pp ms ps).take (i+1)):=by rw[eD];show _=_*(p.2*r.2);rw[Int.mul_assoc]
  exists sx,(),some (.ref u),some (.ref v),by rw[<- x1,<- x2];rfl,?_,?_
  .rw[<- x1];exact(Mq.B.add (n:=1+(n+n' + 10)*i+n+n') b2 (b4.mono ())).mono (by rw[Nat.mul_succ];lia)
  .rw[<- x2];exact b6.mono (by rw[Nat.mul_succ];lia)
 .rintro σ H1 ⟨s1,_,z5,z6,rfl,bN,bD⟩;rw[show min xs.length ys.length=(zipWith Mq.pp ms ps).length by lia,take_length] at bN bD ⊢;have fd1:=s1.fq fd';have kb:(n+n' + 10)*(zipWith Mq.pp ms ps).length<=(n+n' + 10)*10:=Nat.mul_le_mul_left _ ();exists _,rfl,cU rfl fd1 (cQ bN hq.b () () (eI rfl fd1 ⟨_,rfl,cQ hq.a bD () () ⟨rfl,?_⟩⟩));rw[hE,decide_eq_true rfl];exact z _ s1
theorem Y71:DZ 1 Z.f71 Z.d71 ["_law_found"] vS "_law_an_int":=by
 exists ?_,F71.b1 _ (by intros;rfl),F71.kp,m71
 refine F71.ok9 Vo λcdv A outer s H vs Q E hr h=>?_;obtain⟨i,rfl,q⟩:=h;exists _,(aF (aW (kT (gL (i:=0) rfl (Or.inl rfl) bl.isi bl.int rfl rfl PyProof.Rows.boot_int) (kT (fU zN (pv 0) fD (bM _)) (oX (fU zN (pv 0) fD (bM _))))))),?_;exists _,_,true,rfl,.of (.int i),rfl,_,rfl,eY ⟨_,rfl,i,_,rfl,rfl,_,rfl,eY ⟨_,rfl,i,_,rfl,rfl,q⟩⟩
theorem X5:iG Z.K Z.c_Net "add" Z.f33:=⟨a33_0,i33,F33.kp⟩
theorem Y72:DZ 6 Z.f72 Z.d72 ["_law_many","_law_rows_here"] (Bj Z.c_Net Z.K) "_law_net":=by
 exists ?_,F72.b2 _ _ (by intros;rfl),F72.kp,m72
 refine F72.ok9 Dw λ_ _ _ s H _ Q E hr h=>?_;obtain⟨m,r,us,ds,rfl,hm1,hm20,hU,hR,hK,h40,q⟩:=h;have r3:=hr.mono (show 3<=5 by lia);refine⟨_,(aC (qQ1 (i:=2) Dw.nd (vG MN R30 r3 rfl NTx.mN b30 .nil aQ (aA (pv 0) aD)))
  (aC (eO PassesOwn.never rfl (cG (pv 1)) (qQ0 (i:=3) Dw.nd)
   (aF (cC (Bw (pv 2) NTx.cl X5 R33 hr b33 .nil aQ (aA (d9 Y21 r3 rfl (aA (pv 3) aD)) aD)))))
  (aF (aW (pv 2))))),?_⟩
 have lus:=hR.length;exists _,rfl,λn dx h1 h2 ne=>⟨n,dx,m,rfl,aB,hm1,hm20,λl H2 nl keep hn hl=>⟨rfl,?_⟩⟩;have s2:aX H H2:=λb o e=>keep b o (by rw[aV (bL e h1),aV (bL e h2)];exact e) (bL e h1);have hl0:H l=none:=by
  cases o:H l with
  |none=>rfl
  |some o'=>
   have:(upd (upd H dx (.own n)) n (.ins Z.c_Net dx [])) l=some o':=by rw[aV (bL o h1),aV (bL o h2)];exact o
   rw[this] at nl;cases nl
 exists _,rfl,r,rfl,⟨_,s2.seq hU⟩,?_;refine eU (xs:=us) (λi σ H'=>aX H H'/\fK Z.c_Net Z.K H' n l m (ds.take i)/\∃z,σ=[some (.int m),some (.ref r),some (.ref n),z]) ⟨s2,⟨⟨dx,hn⟩,[],hl,.nil⟩,none,rfl⟩ (λi σ H' _ h=>h.1.seq hU) ?_ ?_
 .rintro i x σ H3 hx ⟨s3,N3,z,rfl⟩;have hi:i < ds.length:=by
   have:=(wq.mp hx).1;lia
  obtain⟨⟨k,u,v,p⟩,hd⟩:∃d,ds[i]?=some d:=⟨_,getElem?_eq_getElem hi⟩
  obtain⟨t,z',et,hT,fz⟩:=hR.at hd;have ex:x=.ref t:=by rw[et] at hx;exact(Option.some.inj hx).symm
  subst ex;obtain⟨dn,hn3⟩:=N3.ob;have lt:(ds.take i).length<=ds.length:=by rw[length_take];lia
  exists _,rfl,n,dn,_,rfl,hn3,gQ _ _ ∅ ∅,_,rfl,t,_,_,_,_,rfl,s3.seqT hT,k,rfl,λy H4 s4 ny rw=>?_;exists n,l,y,z',m,ds.take i,k,u,v,p,rfl,N3.same s4,rw,(s3.trans s4).fq fz,hK _ (mem_of_getElem? hd),by rw[length_take];lia,λH5 x5 N5=>?_;exists λb o e=>x5 _ _ ((s3.trans s4) _ _ e) (bL e hl0),?_,_,rfl;rw[take_add_one,hd];exact N5
 .rintro σ H3 ⟨s3,N3,z,rfl⟩;rw[lus,take_length] at N3;exists _,rfl,q n l H3 s3 hl0 N3
theorem Y73:DZ 3 Z.f73 Z.d73 ["_law_cell","_law_far"] Ji "_law_size":=by
 exists ?_,F73.b2 _ _ (by intros;rfl),F73.kp,m73
 refine F73.ok9 qc0 λ_ _ _ s H _ Q E hr h=>?_;obtain⟨c,fr,rfl,q⟩:=h;refine⟨_,(aC (cD (cT (pv 1)) (aF (aW (d9 Y67 hr rfl (aA (bC gF aE (bC gG (bC lB (pv 0) aE) aE)) (aA (bC gF aE (bC gG (bC lB (pv 0) aE) aE)) aD))))) bQ)
  (aF (aW (d9 Y67 hr rfl (aA (bC gF aE (bC gG (bC gG (bC lB (pv 0) aE) aE) aE)) (aA (bC gF aE (bC gG (bC gG (bC lB (pv 0) aE) aE) aE)) aD)))))),?_⟩
 exists _,rfl,_,rfl,?_
 cases fr
 .refine dE ⟨_,rfl,_,_,rfl,rfl,Or.inr ⟨∅,∅⟩,_,_,rfl,rfl,(show (0:Int) < 10007 by decide),_,_,rfl,rfl,(show (0:Int) < 9 by decide),_,_,rfl,rfl,_,rfl,_,_,rfl,rfl,Or.inr ⟨∅,∅⟩,_,_,rfl,rfl,(show (0:Int) < 31 by decide),_,_,rfl,rfl,(show (0:Int) < 4 by decide),_,_,rfl,rfl,?_⟩;have a1:=uH (c*48271 % 10007) (show (0:Int) < 9 by decide);have a2:=uJ (c*48271 % 10007) (show (0:Int) < 9 by decide);have b1:=uH (c*16807 % 31) (show (0:Int) < 4 by decide);have b2:=uJ (c*16807 % 31) (show (0:Int) < 4 by decide);exact Ga q () (by show _ < (16:Int);lia) () (by show _ < (16:Int);lia)
 .refine eY ⟨_,rfl,_,_,rfl,rfl,Or.inr ⟨∅,∅⟩,_,_,rfl,rfl,(show (0:Int) < 999999937 by decide),_,_,rfl,rfl,_,rfl,_,_,rfl,rfl,Or.inr ⟨∅,∅⟩,_,_,rfl,rfl,(show (0:Int) < 999999929 by decide),_,_,rfl,rfl,?_⟩;have a1:=uH (c*48271) (show (0:Int) < 999999937 by decide);have a2:=uJ (c*48271) (show (0:Int) < 999999937 by decide);have b1:=uH (c*69621) (show (0:Int) < 999999929 by decide);have b2:=uJ (c*69621) (show (0:Int) < 999999929 by decide);exact Ga q () (by show _ < (1073741824:Int);lia) () (by show _ < (1073741824:Int);lia)
theorem Y74:DZ 3 Z.f74 Z.d74 ["_law_cell","_law_far"] yL "_law_amount":=by
 exists ?_,F74.b2 _ _ (by intros;rfl),F74.kp,m74
 refine F74.ok9 Sc λcdv A outer s H vs Q E hr h=>?_;obtain⟨c,fr,rfl,q⟩:=h;refine⟨_,(aC (cD (cT (pv 1)) (aF (aW (d9 Y67 hr rfl (aA (bC jC (bC gG (bC lB (pv 0) aE) aE) aE) (aA (bC gF aE (bC gG (bC lB (pv 0) aE) aE)) aD))))) bQ)
  (aF (aW (d9 Y67 hr rfl (aA (bC jC (bC gG (bC gG (bC lB (pv 0) aE) aE) aE) aE) (aA (bC gF aE (bC gG (bC gG (bC lB (pv 0) aE) aE) aE)) aD)))))),?_⟩
 exists _,rfl,_,rfl,?_
 cases fr
 .refine dE ⟨_,rfl,_,_,rfl,rfl,Or.inr ⟨∅,∅⟩,_,_,rfl,rfl,(show (0:Int) < 10009 by decide),_,_,rfl,rfl,(show (0:Int) < 19 by decide),_,_,rfl,rfl,_,rfl,_,_,rfl,rfl,Or.inr ⟨∅,∅⟩,_,_,rfl,rfl,(show (0:Int) < 37 by decide),_,_,rfl,rfl,(show (0:Int) < 3 by decide),_,_,rfl,rfl,?_⟩;have a1:=uH (c*69621 % 10009) (show (0:Int) < 19 by decide);have a2:=uJ (c*69621 % 10009) (show (0:Int) < 19 by decide);have b1:=uH (c*16807 % 37) (show (0:Int) < 3 by decide);have b2:=uJ (c*16807 % 37) (show (0:Int) < 3 by decide);exact wC q (by show -(16:Int) < _;lia) (by show _ < (16:Int);lia) () (by show _ < (16:Int);lia)
 .refine eY ⟨_,rfl,_,_,rfl,rfl,Or.inr ⟨∅,∅⟩,_,_,rfl,rfl,(show (0:Int) < 1999999973 by decide),_,_,rfl,rfl,_,rfl,_,_,rfl,rfl,Or.inr ⟨∅,∅⟩,_,_,rfl,rfl,(show (0:Int) < 999999893 by decide),_,_,rfl,rfl,?_⟩;have a1:=uH (c*69621) (show (0:Int) < 1999999973 by decide);have a2:=uJ (c*69621) (show (0:Int) < 1999999973 by decide);have b1:=uH (c*48271) (show (0:Int) < 999999893 by decide);have b2:=uJ (c*48271) (show (0:Int) < 999999893 by decide);exact wC q (by show -(1073741824:Int) < _;lia) (by show _ < (1073741824:Int);lia) () (by show _ < (1073741824:Int);lia)
theorem Y75:DZ 1 Z.f75 Z.d75 ["_law_rows_here","_law_words"] (sU Z.K) "_law_closers":=by
 exists ?_,F75.b2 _ _ (by intros;rfl),F75.kp,m75
 refine F75.ok9 fZ λcdv A outer s H vs Q E hr h=>?_;obtain⟨r,wa,us,ws,ds,m,W,rfl,hU,hR,pt,h20,h40,hA,fl,hW,q⟩:=h;have hu:=hr.units;refine⟨_,(aC (aT (i:=2) fZ.nd rfl (Or.inr rfl) (dD (nl:=1) (fr:=[]) (Nc:=["_law_k"]) (cl:=[]) rfl ⟨rfl,rfl,∅,∅,λx c h=>(by cases h),dI rfl,rfl,λi n h=>(by simp at h)⟩
    (fA rfl n_range (aA aE aD)) (λ_ _ _ _ _=>(qQ0 (i:=0) qn9)) (λ_ _ _ _ _=>dC)
    (λ_ _ _ _ _=>(pv 0))))
  (aC (qQ1 (i:=3) fZ.nd Ec)
  (aC (qQ1 (i:=4) fZ.nd (dZ aD))
  (aC (eO PassesOwn.never rfl (fA rfl n_range (aA (cB bV rfl n_len PySem.boot_len (aA (pv 0) aD)) aD)) (qQ0 (i:=5) fZ.nd)
   (aC (jD (aK bX (pv 0) (pv 5)) (fP rfl (bO (qQ0 (i:=6) fZ.nd) (bO (aM (i:=7) fZ.nd rfl (Or.inr rfl)) (bO (qQ0 (i:=8) fZ.nd) (bO (qQ0 (i:=9) fZ.nd) eJ))))))
  (aF (cD (PW.pt (kY (bK rY (pv 6) (pv 1) rfl) (jI (bK dY (aK bX (pv 2) (pv 7)) (aK bX (pv 2) (pv 8)) (bM _))))) (aF (cC (mH PySem.F.plainAttrs_list PySem.F.slot_list_append PySem.F.type_list_append eQ (pv 4) (aA (pv 5) aD)))) (aF (cD (bK rY (pv 6) (pv 1) rfl) (aC (Cr (pP hr) (pv 3) (pv 5) fD rfl)
  (aC (aT (i:=10) fZ.nd rfl (Or.inr rfl) (aK bX (pv 2) (pv 8)))
  (aF (aT (i:=2) fZ.nd rfl (Or.inr rfl) (dD (nl:=1) (fr:=[7,10,2]) (Nc:=["_law_mark","_law_start","_law_old","_law_marks"]) (cl:=[("_law_start",s.heap.objs.size+2),("_law_old",s.heap.objs.size+3),("_law_marks",s.heap.objs.size+1)]) rfl ⟨rfl,rfl,∅,∅,(cO rfl (cO rfl (cO rfl (iP)))),dI rfl,rfl,λi n h=>match i,h with | 0,h=>by cases h;exact⟨7,rfl,rfl,rfl,rfl,.inl rfl⟩ | 1,h=>by cases h;exact⟨10,rfl,rfl,rfl,rfl,.inl rfl⟩ | 2,h=>by cases h;exact⟨2,rfl,rfl,rfl,rfl,.inl rfl⟩ | k+3,h=>by rw[show 1+(k+3)=k+4 by lia] at h;cases h⟩
    (cG (pv 2)) (λ_ _ _ _ _=>(qQ0 (i:=0) lZ)) (λ_ _ _ _ _=>dC)
    (λ_ _ _ _ _=>(lH (bK dY (pv 0) (pv 2) (bM _)) (aK (iU (K:=Z.K) rfl) (pv 3) (pv 1)) (pv 0)))))))) bQ))))))
  (aF (aW (dA (aA (pv 3) (aA (pv 4) aD))))))))),?_⟩
 have lus:=hR.length;have sk:=tN ds;have slt:=Lm pt;exists 20,rfl,∅,∅,λM hM=>?_;refine crS hM (n:=20) (λi zs H'=>zs=(List.range i).map λ(j:Nat)=>V.int (j:Int)) rfl ?_ ?_
 .rintro i zs H1 hi ⟨s1,e1,rfl⟩ C hC;exists cZ.1,cZ.2,eY ⟨_,rfl,e1,bH (by rw[length_map,length_range];lia),hC _ _ ⟨s1.change hM,aB,?_⟩⟩;rw[range_succ,map_append,Int.zero_add];rfl
 rintro zs H1 ⟨s1,e1,rfl⟩;have e1:H1 M=some (.lst ((mks 20 (dX [])).map V.int)):=by
  rw[e1];show _=some (HO.lst ((oO 20).map V.int));unfold oO;rw[map_map];rfl
 refine λF75 hF=>?_;have nF:H F75=none:=s1.free hF;obtain⟨H2,zq,sF,eF⟩:=nw hF (.dK []);rw[zq];exists zl9 0,λC hC=>?_;have nC:H C=none:=(s1.trans sF).free hC;have nFC:F75≠C:=bL eF hC;have nMC:M≠C:=bL (sF _ _ e1) hC;obtain⟨H3,zq,sC,eC⟩:=nw hC (.lst []);rw[zq];have s3:=s1.trans (sF.trans sC);exists _,rfl,r,us,rfl,.inl (s3.seq hU),(us.length:Int),rfl,(),(),?_;rw[Int.toNat_natCast];refine mC (λi σ H'=>aX H H'/\∃(M:Addr) (z5 z6 z7 z8 z9 z10:Option V),σ=[some (.ref r),some (.ref wa),some (.ref M),some (.ref F75),some (.ref C),z5,z6,z7,z8,z9,z10]/\M≠C/\H' M=some (.lst ((mks 20 (dX (dW W (skl ds) i).1)).map V.int))/\H' F75=some (.dK (rch ((dW W (skl ds) i).1.map (·.1))))/\H' C=some (.lst ((dW W (skl ds) i).2.map λc=>V.int (c.1:Int)))) ⟨s3,M,none,none,none,none,none,none,rfl,nMC,(sF.trans sC) _ _ e1,sC _ _ eF,eC⟩ ?_ ?_
 .rintro i σ H4 hi ⟨s4,M,z5,z6,z7,z8,z9,z10,rfl,nMC,eM,eF4,eC4⟩;have hi':i < ds.length:=by lia
  obtain⟨⟨k,u,v,p⟩,hd⟩:∃d,ds[i]?=some d:=⟨_,getElem?_eq_getElem hi'⟩
  obtain⟨t,z,et,hT,fz⟩:=(hR.same s4).at hd;have at_:atI us (0+(i:Int))=some (.ref t):=by rw[Int.zero_add];exact cA et
  obtain⟨u0,u1,v1,v2⟩:dL (m:Int) u v:=pt _ (mem_of_getElem? hd);obtain⟨uN,rfl⟩:∃n:Nat,u=(n:Int):=⟨u.toNat,()⟩
  obtain⟨vN,rfl⟩:∃n:Nat,v=(n:Int):=⟨v.toNat,()⟩
  have skd:(skl ds)[i]?=some (k,uN,vN):=by
   have:=Lc hd
   rwa [show ((k,(uN:Int),(vN:Int),p):RD).2.1.toNat=uN from Int.toNat_natCast uN,show ((k,(uN:Int),(vN:Int),p):RD).2.2.1.toNat=vN from Int.toNat_natCast vN] at this
  have ri:=lT (W:=W) slt i ();have bl':=Jd (W:=W) (sk:=skl ds) i;have succ:=iH (W:=W) skd;generalize dW W (skl ds) i=S at eM eF4 eC4 ri bl' succ;exists _,rfl,_,rfl,r,us,_,_,rfl,rfl,s4.seq hU,at_,t,_,rfl,hT,rfl,_,_,rfl,_,_,rfl,_,_,rfl,_,_,rfl,rfl,?_;have ml20:(mks 20 (dX S.1)).length=20:=pC _ _;have gi:∀{j:Nat},j < 20->atI ((mks 20 (dX S.1)).map V.int) (j:Int)=some (.int (mk 20 (dX S.1) j)):=λ{j} h=>cA (by unfold mk;rw[getElem?_map,getElem?_eq_getElem (),getD_eq_getElem?_getD,getElem?_eq_getElem ()];rfl);have hu20:uN < 20:=by lia
  have hv20:vN < 20:=by lia
  have hin:inV (.str k.wd) ws=W k:=hW k;exists _,rfl,_,rfl,wa,ws,rfl,.inl (s4.seq hA),rfl,fl,_,rfl,?_;have lS2:S.2.length<=40:=by have:=ri.rl;lia
  by_cases hk:W k=true
  .refine L2.ifT (by show (if false=true then _ else inV (V.str k.wd) ws)=true;rw[if_neg ∅,hin];exact hk) ?_;exists _,rfl,_,rfl,M,_,_,_,rfl,rfl,SqL.of eM,gi hu20,?_;exists _,rfl,_,rfl,M,_,_,_,rfl,rfl,SqL.of eM,gi hv20,rfl,_,rfl,?_;rcases Tk h20 ri (d:=(k,uN,vN)) ⟨by show uN < m;lia,by show vN < m;lia⟩ hk with ⟨same,st,eS⟩ | ⟨diff,eS⟩
   .refine L2.ifT (decide_eq_true (by rw[show mk 20 (dX S.1) uN=mk 20 (dX S.1) vN from same])) ?_;exists _,rfl,.inl ⟨rfl,_,SqL.of eC4⟩,_,rfl,C,_,_,rfl,rfl,eC4,bH (by rw[length_map];lia),?_;rw[succ,eS];exists s4.change nC,M,_,_,_,_,_,_,rfl,nMC,by rw[aV nMC];exact eM,by rw[aV nFC];exact eF4,?_;rw[aB,map_append,Int.zero_add];rfl
   .have diff:mk 20 (dX S.1) uN≠mk 20 (dX S.1) vN:=diff;refine L2.ifF (decide_eq_false λz=>diff (by injection z)) ?_;exists _,rfl,_,rfl,wa,ws,rfl,.inl (s4.seq hA),rfl,fl,_,rfl,?_;refine L2.ifT (by show (if false=true then _ else inV (V.str k.wd) ws)=true;rw[if_neg ∅,hin];exact hk) ?_;exists _,rfl,_,rfl,F75,_,rfl,Hq.k (k:=Sum.inl (0+(i:Int))) eF4 (by unfold rch;rw[length_map,length_map,sizeLine_eq];lia),?_;rw[Int.zero_add];have niS:i∉S.1.map (·.1):=λz=>by
     obtain⟨e,he,ee⟩:=mem_map.mp z;have:=ri.lt e he;lia
    rw[Mt,show Qb (S.1.map (·.1)) i=S.1.map (·.1)++[i] from if_neg niS];have s5:aX H (upd H4 F75 (.dK (rch (S.1.map (·.1)++[i])))):=s4.change nF;have nMF:M≠F75:=gX eM eF4 (λz=>by cases z);have eM5:upd H4 F75 (.dK (rch (S.1.map (·.1)++[i]))) M=some (.lst ((mks 20 (dX S.1)).map V.int)):=by rw[aV nMF];exact eM
    have eC5:upd H4 F75 (.dK (rch (S.1.map (·.1)++[i]))) C=some (.lst (S.2.map λc=>V.int (c.1:Int))):=by rw[aV (Ne.symm nFC)];exact eC4
    have eF5:upd H4 F75 (.dK (rch (S.1.map (·.1)++[i]))) F75=some (.dK (rch (S.1.map (·.1)++[i]))):=aB;generalize upd H4 F75 (.dK (rch (S.1.map (·.1)++[i])))=H5 at s5 eM5 eC5 eF5 ⊢;exists _,rfl,_,rfl,M,_,_,_,rfl,rfl,SqL.of eM5,gi hv20,?_;exists _,rfl,M,rfl,⟨_,SqL.of eM5⟩,λD hD=>?_;refine clS hD (xs:=(mks 20 (dX S.1)).map V.int) (λj zs H'=>zs=((jn (mks 20 (dX S.1)) uN vN).take j).map V.int) rfl (λ_ h=>h.seq (SqL.of eM5)) ?_ ?_
    .rintro j zs x H6 hx' ⟨s6,e6,rfl⟩ CC hCC;rw[getElem?_map] at hx';obtain⟨c,hc,rfl⟩:=Option.map_eq_some_iff.mp hx';have hj:j < (mks 20 (dX S.1)).length:=(wq.mp hc).1;have ej:(jn (mks 20 (dX S.1)) uN vN)[j]?=some (if c=mk 20 (dX S.1) vN then mk 20 (dX S.1) uN else c):=by unfold jn mk;rw[getElem?_map,hc];rfl
     exists cZ.1,cZ.2,eY ?_;exists _,rfl,_,rfl,rfl,_,rfl,?_
     by_cases h:c=mk 20 (dX S.1) vN
     .rw[if_pos h] at ej;refine L2.ifT (decide_eq_true (by rw[h])) ⟨_,rfl,_,rfl,M,_,_,_,rfl,rfl,SqL.of (s6 _ _ eM5),gi hu20,e6,bH (by rw[length_map,length_take];lia),hCC _ _ ⟨s6.change hD,aB,?_⟩⟩;rw[take_add_one,ej,map_append];rfl
     .rw[if_neg h] at ej;refine L2.ifF (decide_eq_false (λz=>h (by injection z))) ⟨_,rfl,e6,bH (by rw[length_map,length_take];lia),hCC _ _ ⟨s6.change hD,aB,?_⟩⟩;rw[take_add_one,ej,map_append];rfl
    .rintro zs H6 ⟨s6,e6,rfl⟩;have lj:(jn (mks 20 (dX S.1)) uN vN).length=(mks 20 (dX S.1)).length:=by unfold jn;rw[length_map]
     rw[length_map,<- lj,take_length] at e6;have nDC:D≠C:=Ne.symm (bL eC5 hD);rw[succ,eS];exists s5.trans s6,D,_,_,_,_,_,_,rfl,nDC,by rw[e6,qi5],?_,s6 _ _ eC5;rw[s6 _ _ eF5,map_append];rfl
  .have hkf:W k=false:=by simpa using hk
   refine L2.ifF (by show (if false=true then _ else inV (V.str k.wd) ws)=false;rw[if_neg ∅,hin];exact hkf) (L2.ifF rfl ?_);exists _,rfl,_,rfl,wa,ws,rfl,.inl (s4.seq hA),rfl,fl,_,rfl,?_;refine L2.ifF (by show (if false=true then _ else inV (V.str k.wd) ws)=false;rw[if_neg ∅,hin];exact hkf) ?_;have eS:iF W S i (k,uN,vN)=S:=by
    unfold iF;rw[if_neg hk]
   rw[succ,eS];exists s4,M,_,_,_,_,_,_,rfl,nMC,eM,eF4,eC4
 rintro σ H4 ⟨s4,M,z5,z6,z7,z8,z9,z10,rfl,nMC,eM,eF4,eC4⟩;rw[lus] at eF4 eC4;exists _,rfl,_,rfl,zl9 2,λt ht=>?_;have sT:=aG ht (.tup [.ref F75,.ref C]);exact q t F75 C _ (s4.trans sT) (SqT.of aB) (sT _ _ eF4) (sT _ _ eC4)
theorem Y76:DZ 2 Z.f76 Z.d76 ["_law_found","_law_closer","_law_rows_here","_law_forest"] (Iy Z.K) "_law_ring":=by
 exists ?_,F76.b4 _ _ _ _ (by intros;rfl),F76.kp,m76
 refine F76.ok9 kW λ_ _ _ s H _ Q E hr h=>?_;obtain⟨x,r,F76,k,xs,us,ds,ks,ring,rfl,hX,hS,hU,hR,eF,⟨kd,u,v,p,st,es,pts,hd,hring,hlt,bo,ch,h20⟩,q⟩:=h;have hu:=hr.units;refine⟨_,(aC (cD (PW.pt (gP (dU (cT (gL (i:=0) rfl (Or.inl rfl) bl.isi n_list rfl rfl PyProof.Rows.boot_list))) (gS (bK dY (cB bV rfl n_len PySem.boot_len (aA (pv 0) aD)) aE (bM _))))) (aF (aW fD)) bQ)
  (aC (qQ1 (i:=4) kW.nd (aK aY (aK bX (pv 2) (pv 1)) aE))
  (aC (qQ1 (i:=5) kW.nd Ec)
  (aC (eO PassesOwn.never rfl (cG (pv 0)) (qQ0 (i:=6) kW.nd)
   (aC (cD (PW.pt (gP (dU (cT (gL (i:=6) rfl (Or.inl rfl) bl.isi n_tuple rfl rfl PyProof.Rows.boot_tuple))) (gP (bK jL (cB bV rfl n_len PySem.boot_len (aA (pv 6) aD)) aE (bM _)) (gP (dU (cT (d9 Y71 hr rfl (aA (aK aY (pv 6) aE) aD)))) (gS (dU (cT (d9 Y71 hr rfl (aA (aK aY (pv 6) aE) aD))))))))) (aF (aW fD)) bQ)
  (aC (jD (pv 6) (fP rfl (bO (qQ0 (i:=7) kW.nd) (bO (qQ0 (i:=8) kW.nd) eJ))))
  (aC (cD (PW.pt (gP (PW.pt (kY (bK dY (cB zV rfl n_len PySem.boot_len (aA (pv 5) aD)) aE (bM _)) (jI (bK (wS hu) (pv 6) (dA (aA (pv 1) (aA aE aD))) (bM _))))) (gP (oN (qe8 (pP hr) (pv 7) (pv 5))) (gS (PW.pt (kY (bK jL (pv 8) aE (bM _)) (jI (bK jL (pv 8) (zJ rW aE) (bM _))))))))) (aF (aW fD)) bQ)
  (aC (cD (PW.pt (kY (bK uL (cB zV rfl n_len PySem.boot_len (aA (pv 5) aD)) aE (bM _)) (jI (PW.pt (gP (bK Ma (pv 7) (pv 1) (bM _)) (gS (oN (Am (pP hr) (pv 7) (pv 3))))))))) (aF (aW fD)) bQ)
  (aC (Cr (pP hr) (pv 5) (pv 7) fD rfl)
  (aC (jD (gE qj6 (aK bX (pv 2) (pv 7)) (fV aE) (fV aE)) (fP rfl (bO (qQ0 (i:=9) kW.nd) (bO (qQ0 (i:=10) kW.nd) eJ))))
  (aC (cD (bK dY (pv 8) (zJ rW aE) (bM _)) (aF (Qy (i:=9) (j:=10) rfl kW.nd rfl rfl ∅ rfl rfl (aA (pv 10) (aA (pv 9) aD)) rfl)) bQ)
  (aC (cD (bK jL (pv 9) (pv 4) (bM _)) (aF (aW fD)) bQ)
  (aF (qQ1 (i:=4) kW.nd (pv 10))))))))))))
  (aF (aW (fU dY (pv 4) (aK aY (aK bX (pv 2) (pv 1)) aE) (bM _)))))))),?_⟩
 have lx:=hS.length;have lring:ring.length=st.length+1:=by rw[hring];rfl
 have lus:=hR.length;have hk:k < ds.length:=(wq.mp hd).1;obtain⟨t0,z0,et0,hT0,fz0⟩:=hR.at hd;have at0:atI us (k:Int)=some (.ref t0):=cA et0;have nd:(ring.map (·.1)).Nodup:=by
  rw[hring,map_cons,nodup_cons];exists λz=>?_,ch.n;obtain⟨s,hs,e⟩:=mem_map.mp z;have e:s.1=k:=e;have:=(hlt s hs).1;lia
 exists _,_,true,rfl,.lst hX,rfl,_,rfl,dE ⟨_,rfl,x,_,rfl,.inl hX,rfl,_,rfl,?_⟩;refine L2.ifF (by show decide (V.int (xs.length:Int)=V.int 0)=false;exact decide_eq_false λz=>by injection z with z;lia) ?_;exists _,rfl,_,rfl,r,us,_,_,rfl,rfl,hU,at0,t0,_,1,_,rfl,rfl,hT0,rfl,?_;refine λD hD=>?_;obtain⟨H1,zq,s1,eD⟩:=nw hD (.dK []);rw[zq];have pos:∀j,j<=ring.length->∃q,(u :: pts)[j]?=some q:=λj hj=>⟨_,getElem?_eq_getElem (by rw[length_cons,ch.l];lia)⟩
 exists _,rfl,x,rfl,⟨_,s1.seq hX⟩,?_;refine eU (xs:=xs) (λj σ H'=>aX H H'/\j<=ring.length/\∃(a:Nat) (z6 z7 z8 z9 z10:Option V),σ=[some (.ref x),some (.int (k:Int)),some (.ref r),some (.ref F76),some (.int (a:Int)),some (.ref D),z6,z7,z8,z9,z10]/\(u :: pts)[j]?=some a/\H' D=some (.dK (rch ((ring.take j).map (·.1))))) ⟨s1,Nat.zero_le _,u,none,none,none,none,none,rfl,rfl,eD⟩ (λj σ H' _ h=>h.1.seq hX) ?_ ?_
 .rintro j xx σ H2 hx ⟨s2,hjl,a,z6,z7,z8,z9,z10,rfl,ea,e2⟩;obtain⟨tt,s,rfl,es',hT⟩:=(hS.same s2).get hx;have hj:j < ring.length:=(wq.mp es').1;obtain⟨nin,tk⟩:=Pb nd es';have lD:((ring.take j).map (·.1)).length=j:=by rw[length_map,length_take];lia
  have go:∃(kd':Kd) (u' v':Nat) (p':Q2) (nx:Nat),ds[s.1]?=some (kd',(u':Int),(v':Int),p')/\(u :: pts)[j+1]?=some nx/\((s.2=1/\a=u'/\nx=v')\/(s.2=-1/\a=v'/\nx=u'))/\(j=0->s=(k,1))/\(0 < j->s.1 < k/\s.1∈ks):=by
   rw[hring] at es'
   cases j with
   |zero=>
    have e:(k,(1:Int))=s:=by simpa using es'
    subst e;have ea:u=a:=by simpa using ea
    exists kd,u,v,p,v,hd,by show pts[0]?=some v;exact ch.hb,.inl ⟨rfl,ea.symm,rfl⟩,λ_=>rfl,λh=>absurd h (Nat.lt_irrefl _)
   |succ j=>
    have es':st[j]?=some s:=by simpa using es'
    have ea:pts[j]?=some a:=by simpa using ea
    obtain⟨pp,qq,h1,h2,u',v',h3,h4⟩:=ch.g j s es';have:pp=a:=by rw[h1] at ea;exact Option.some.inj ea
    subst this;obtain⟨⟨kd',i',j',p'⟩,hd',e1,e2⟩:=bo _ h3;have e1:i'=(u':Int):=e1;have e2:j'=(v':Int):=e2;subst e1;subst e2;exists kd',u',v',p',qq,hd',by show pts[j+1]?=some qq;exact h2,h4,λh=>absurd h (Nat.succ_ne_zero _),λ_=>hlt s (mem_of_getElem? es')
  obtain⟨kd',u',v',p',nx,hd',enx,hgo,h0,h1⟩:=go;obtain⟨t1,z1,et1,hT1,fz1⟩:=(hR.same s2).at hd';have at1:atI us (s.1:Int)=some (.ref t1):=cA et1;exists _,_,true,rfl,.tup hT,rfl,_,rfl,dE ⟨_,rfl,tt,_,rfl,.inr hT,rfl,_,rfl,dE ?_⟩;exists _,rfl,tt,_,0,_,rfl,rfl,hT,rfl,(s.1:Int),rfl,_,rfl,dE ?_;exists _,rfl,tt,_,1,_,rfl,rfl,hT,rfl,s.2,rfl,_,rfl,dE ?_;exists _,rfl,tt,_,rfl,hT,rfl,_,_,rfl,_,_,rfl,rfl,?_;dsimp only;refine rK (λσ' H'=>aX H2 H'/\σ'=[some (.ref x),some (.int (k:Int)),some (.ref r),some (.ref F76),some (.int (a:Int)),some (.ref D),some (.ref tt),some (.int (s.1:Int)),some (.int s.2),z9,z10]) (λX hX'=>?_) ?_
  .exists _,rfl,D,_,rfl,e2,rfl,_,rfl,?_;have wayok:s.2=1\/s.2=-1:=by rcases hgo with ⟨h,_⟩ | ⟨h,_⟩<;>simp[h]
   rw[Bh,lD]
   by_cases hj0:j=0
   .subst hj0;refine eY ?_;have hs:=h0 rfl;exists _,rfl,_,rfl,zl9 2,λt2 ht2=>?_;obtain⟨H3,zq,s3,f2⟩:=nw ht2 (.tup [.int (k:Int),.int 1]);rw[zq];have f2:Fq Z.K H3 t2 ((k:Int),1):=Fq.of f2;have f1:Fq Z.K H3 tt ((k:Int),1):=by
     have:=s3.seqT hT;rw[hs] at this;exact this
    refine Iq f1 f2 ⟨_,rfl,?_⟩;rw[decide_eq_true rfl];refine dE ?_;exists _,rfl,_,rfl,D,_,rfl,jN.k (k:=Sum.inl (s.1:Int)) (s3 _ _ e2),_,rfl,?_;rw[Dl,bx,decide_eq_false nin];refine dE ?_;exists _,rfl,rfl,_,rfl,?_;rcases wayok with h | h
    .rw[h];exact dE (dE (hX' _ _ ⟨s3,by rw[h];rfl⟩))
    .rw[h];refine eY ⟨_,rfl,_,rfl,rfl,_,rfl,dE (hX' _ _ ⟨s3,by rw[h];rfl⟩)⟩
   .have s3:=aX.refl H2;refine L2.ifF (by show decide (V.int (j:Int)=V.int 0)=false;exact decide_eq_false λz=>hj0 (by injection z with z;lia)) ?_;refine dE ?_;exists _,rfl,_,rfl,D,_,rfl,jN.k (k:=Sum.inl (s.1:Int)) (s3 _ _ e2),_,rfl,?_;rw[Dl,bx,decide_eq_false nin];refine dE ?_;exists _,rfl,rfl,_,rfl,?_;rcases wayok with h | h
    .rw[h];exact dE (dE (hX' _ _ ⟨s3,by rw[h];rfl⟩))
    .rw[h];refine eY ⟨_,rfl,_,rfl,rfl,_,rfl,dE (hX' _ _ ⟨s3,by rw[h];rfl⟩)⟩
  rintro σ' H3 ⟨s3,rfl⟩;have e3:=s3 _ _ e2;have eF3:=(s2.trans s3) _ _ eF;have nFD:F76≠D:=λz=>by rw[z,hD] at eF;cases eF
  refine rK (λσ' H'=>H'=H3/\σ'=[some (.ref x),some (.int (k:Int)),some (.ref r),some (.ref F76),some (.int (a:Int)),some (.ref D),some (.ref tt),some (.int (s.1:Int)),some (.int s.2),z9,z10]) (λX hX'=>?_) ?_
  .exists _,rfl,D,_,rfl,e3,_,_,rfl,rfl,_,rfl,?_;rw[Bh,lD]
   by_cases hj0:j=0
   .exact L2.ifF (by show decide ((0:Int) < (j:Int))=false;exact decide_eq_false ()) (dE (hX' _ _ ⟨rfl,rfl⟩))
   .obtain⟨hlk,hks⟩:=h1 ();refine L2.ifT (by show decide ((0:Int) < (j:Int))=true;exact decide_eq_true ()) ?_;exists _,rfl,_,rfl,_,_,rfl,rfl,_,rfl,?_;refine L2.ifF (by exact decide_eq_false ()) ?_;exists _,rfl,_,rfl,F76,_,rfl,jN.k (k:=Sum.inl (s.1:Int)) eF3,_,rfl,?_;rw[Dl,bx,decide_eq_true hks];exact dE (hX' _ _ ⟨rfl,rfl⟩)
  rintro σ' H' ⟨hH',rfl⟩;subst hH';exists _,rfl,_,rfl,D,_,rfl,Hq.k (k:=Sum.inl (s.1:Int)) e3 (by rw[Bh,lD,sizeLine_eq];lia),?_;rw[Mt,<- tk];have s4:aX H (upd H' D (.dK (rch ((ring.take (j+1)).map (·.1))))):=(s2.trans s3).change hD;have e4:upd H' D (.dK (rch ((ring.take (j+1)).map (·.1)))) D=some (.dK (rch ((ring.take (j+1)).map (·.1)))):=aB;generalize upd H' D (.dK (rch ((ring.take (j+1)).map (·.1))))=H4 at s4 e4 ⊢;obtain⟨t1,z1,et1,hT1,fz1⟩:=(hR.same s4).at hd';have at1:atI us (s.1:Int)=some (.ref t1):=cA et1;exists _,rfl,_,rfl,r,us,_,_,rfl,rfl,s4.seq hU,at1,1,rfl,3,rfl,t1,_,rfl,hT1,(λh=>absurd (show HT.sIx 4 0 (some 1)=0 from h.1) ∅),λp5 hp5=>?_;have ec:kU [.str ((kd',(u':Int),(v':Int),p'):RD).1.wd,.int ((kd',(u':Int),(v':Int),p'):RD).2.1,.int ((kd',(u':Int),(v':Int),p'):RD).2.2.1,.ref z1] (some 1) (some 3)=[.int (u':Int),.int (v':Int)]:=rfl;rw[ec];obtain⟨H5,zq,s5,e5⟩:=nw hp5 (.tup [.int (u':Int),.int (v':Int)]);rw[zq];have e5:SqT Z.K H5 p5 [.int (u':Int),.int (v':Int)]:=SqT.of e5;exists p5,_,rfl,e5,rfl,_,_,rfl,_,_,rfl,rfl,?_;exists _,rfl,_,rfl,rfl,_,rfl,?_;rcases hgo with ⟨hw,rfl,rfl⟩ | ⟨hw,rfl,rfl⟩
  .refine L2.ifF (by rw[hw];rfl) ?_;exists _,rfl,_,rfl,rfl,_,rfl,L2.ifF (by show (!decide (V.int (a:Int)=V.int (a:Int)))=false;rw[decide_eq_true rfl];rfl) ?_;exists _,rfl,s4.trans s5,hj,nx,_,_,_,_,_,rfl,enx,s5 _ _ e4
  .refine L2.ifT (by rw[hw];rfl) ?_;exists _,rfl,_,rfl,_,_,rfl,?_;exists _,rfl,_,rfl,rfl,_,rfl,L2.ifF (by show (!decide (V.int (a:Int)=V.int (a:Int)))=false;rw[decide_eq_true rfl];rfl) ?_;exists _,rfl,s4.trans s5,hj,nx,_,_,_,_,_,rfl,enx,s5 _ _ e4
 rintro σ H2 ⟨s2,hjl,a,z6,z7,z8,z9,z10,rfl,ea,e2⟩;have ea':a=u:=by
  rw[lx,lring] at ea;have h:pts[st.length]?=some a:=by simpa using ea
  rw[ch.he] at h;exact(Option.some.inj h).symm
 obtain⟨t1,z1,et1,hT1,fz1⟩:=(hR.same s2).at hd;exists _,rfl,_,rfl,_,rfl,r,us,_,_,rfl,rfl,s2.seq hU,at0,t0,_,1,_,rfl,rfl,s2.seqT hT0,rfl,rfl,?_;rw[ea'];have:decide (V.int (u:Int)=V.int (u:Int))=true:=decide_eq_true rfl;show Q (.bl (decide (V.int (u:Int)=V.int (u:Int)))) H2;rw[this];exact q H2 s2
theorem Y77:DZ 4 Z.f77 Z.d77 ["_law_script","_law_many","_law_far"] (qb5 Z.K) "_law_rows":=by
 exists ?_,F77.b3 _ _ _ (by intros;rfl),F77.kp,m77
 refine F77.ok9 Hf λ_ _ _ s H _ Q E hr h=>?_;obtain⟨a,ns,m,fr,rfl,hS,h63,hm1,hm4,q⟩:=h;have r1:=hr.mono (show 1<=3 by lia);refine⟨_,(aC (qQ1 (i:=3) Hf.nd (dZ aD))
  (aC (cD (bK dY (bC gG (bC Bu (d9 Y65 r1 rfl (aA (pv 0) (aA aE aD))) aE) aE) aE (bM _)) (aF (rN (i:=3) (nl:=1) (fr:=[0,2]) (Nc:=["_law_k","_law_script","_law_far"]) (cl:=[("_law_script",s.heap.objs.size+1),("_law_far",s.heap.objs.size+2)]) Hf.nd rfl rfl rfl ⟨rfl,rfl,∅,∅,(cO rfl (cO rfl (iP))),dI rfl,rfl,λi n h=>match i,h with | 0,h=>by cases h;exact⟨0,rfl,rfl,rfl,rfl,.inl rfl⟩ | 1,h=>by cases h;exact⟨2,rfl,rfl,rfl,rfl,.inl rfl⟩ | k+2,h=>by rw[show 1+(k+2)=k+3 by lia] at h;cases h⟩
    (fA rfl n_range (aA (bC jC (pv 1) aE) aD)) (λ_ _ _ _ _=>(qQ0 (i:=0) uR)) (λ_ _ _ _ _=>dC)
    (λ_ _ _ _ _=>(dA (aA cL (aA (pv 0) (aA (bC gF (pv 0) aE) (aA (d9 Y73 hr rfl (aA (d9 Y65 r1 rfl (aA (pv 1) (aA (bC gF aE (pv 0)) aD))) (aA (pv 2) aD))) aD)))))) rfl)) bQ)
  (aC (eO PassesOwn.never rfl (cG (gE iT (pv 0) (fV aE) (fV (bC gF aE (bC gG (d9 Y65 r1 rfl (aA (pv 0) (aA aE aD))) aE))))) (qQ0 (i:=4) Hf.nd)
   (aC (qQ1 (i:=5) Hf.nd (aK bX (dZ (aA cL (aA cL (aA cL (aA cL (aA cL (aA cL aD))))))) (bC gG (pv 4) aE)))
  (aC (qQ1 (i:=6) Hf.nd (d9 Y73 hr rfl (aA (pv 4) (aA (pv 2) aD))))
  (aC (cD (bK jL (pv 5) cL (bM _)) (aF (qQ1 (i:=6) Hf.nd (d9 Y74 hr rfl (aA (pv 4) (aA (pv 2) aD))))) bQ)
  (aF (cC (mH PySem.F.plainAttrs_list PySem.F.slot_list_append PySem.F.type_list_append eQ (pv 3) (aA (dA (aA (pv 5) (aA (bC vO (bC Bu (pv 4) aE) (pv 1)) (aA (bC vO (bC gG (bC lB (pv 4) aE) aE) (pv 1)) (aA (pv 6) aD))))) aD))))))))
  (aF (aW (pv 3)))))),?_⟩
 try dsimp only
 refine Yh (λσ' H'=>aX H H'/\∃(r:Addr) (us:wk) (ds:List RD),σ'=[some (.ref a),some (.int (m:Int)),some (.bl fr),some (.ref r),none,none,none]/\H r=none/\H' r=some (.lst us)/\Rts Z.K H' us ds/\(∀d∈ds,DrB fr m d)/\ds.length<=m - 1) (λX hX=>?_) ?_
 .exists zl9 0,λl0 hl0=>?_;obtain⟨H1,zq,s1,e1⟩:=nw hl0 (.lst []);rw[zq];exists _,rfl,a,ns,2,2,rfl,rfl,s1.seq hS,h63,(),λv H2 s2=>⟨_,_,rfl,rfl,⟨∅,∅⟩,_,_,rfl,rfl,(show (0:Int) < 3 by decide),rfl,_,rfl,yT (λ_=>?_) (λ_=>hX _ _ ⟨s1.trans s2,l0,[],[],rfl,hl0,s2 _ _ e1,.nil,(λd hd=>by cases hd),Nat.zero_le _⟩)⟩;have s02:=s1.trans s2;exists _,rfl,_,_,rfl,rfl,(m:Int) - 1,rfl,(),(),λD hD=>?_;rw[show ((m:Int) - 1).toNat=m - 1 by lia];refine crS hD (n:=m - 1) (λi zs H'=>∃ds,Rts Z.K H' zs ds/\(∀d∈ds,DrB fr m d)/\ds.length=i) ⟨[],.nil,(λd hd=>by cases hd),rfl⟩ ?_ ?_
  .rintro i zs H3 hi ⟨s3,e3,ds,R3,K3,l3⟩ C hC;have lz:=R3.length;exists cZ.1,cZ.2,eY ?_;rw[Int.zero_add];exists _,rfl,_,rfl,_,_,rfl,rfl,_,rfl,_,rfl,_,_,rfl,rfl,a,ns,14+(i:Int),14+i,rfl,(),(s02.trans s3).seq hS,h63,(),λc H4 s4=>⟨_,rfl,c,fr,rfl,λp pp bp z H5 s5 e5=>?_⟩;exists zl9 4,λt ht=>?_;obtain⟨H6,zq,s6,et⟩:=nw ht (.tup [.str "piece",.int (i:Int),.int ((i:Int)+1),.ref z]);rw[zq];have et:SqT Z.K H6 t [.str Kd.pc.wd,.int (i:Int),.int ((i:Int)+1),.ref z]:=SqT.of et;have s36:=s4.trans (s5.trans s6);have e6:=s36 _ _ e3;exists e6,bH (),hC _ _ ⟨(s3.trans s36).change hD,aB,ds++[(.pc,(i:Int),(i:Int)+1,p)],Rts.upd e6 ((R3.same s36).app (.cons et (s6.fq (Fq.of e5)) .nil)),λd hd=>?_,by rw[xj,l3];rfl⟩;rcases mem_append.mp hd with z | z
   .exact K3 d z
   .rw[mem_singleton.mp z];exists ⟨by show (0:Int)<=(i:Int);lia,by show (i:Int) < m;lia,by show (0:Int)<=(i:Int)+1;lia,by show (i:Int)+1 < m;lia,pp.low,λ_=>pp.pos,bp.mono (by have:=(show eP fr<=30 by cases fr<;>decide);lia)⟩,bp
  rintro zs H3 ⟨s3,e3,ds,R3,K3,l3⟩;exact hX _ _ ⟨s02.trans s3,D,zs,ds,rfl,s02.free hD,e3,R3,K3,()⟩
 rintro σ2 H2 ⟨s02,r,us0,ds0,rfl,hr0,e2,R2,K2,l2⟩;have bb:eP fr<=30:=by cases fr<;>decide
 exists _,rfl,3,rfl,_,rfl,a,ns,1,1,rfl,rfl,s02.seq hS,h63,(),λv H2b s2=>?_;have e2:=s2 _ _ e2;have R2:=R2.same s2;have s02:=s02.trans s2;have f0:=Int.emod_nonneg v (show (11:Int)≠0 by decide);have f9:=Int.emod_lt_of_pos v (show (0:Int) < 11 by decide);exists _,_,rfl,rfl,(show (0:Int) < 11 by decide),_,_,rfl,rfl,3+v % 11,rfl,a,_,rfl,s02.seq hS,λC hC=>?_;have c14:=Wp (ns.map V.int) (v % 11) (n:=10) f0 ();obtain⟨ms,em⟩:=Od ns (some 3) (some (3+v % 11));rw[em] at c14 ⊢;rw[length_map] at c14;have s3:=aG hC (.lst (ms.map V.int));have eC:upd H2b C (.lst (ms.map V.int)) C=some (.lst (ms.map V.int)):=aB;have nCr:C≠r:=Ne.symm (bL e2 hC);have e3:=s3 _ _ e2;generalize upd H2b C (.lst (ms.map V.int))=H3 at s3 eC e3 ⊢;exists C,rfl,⟨_,SqL.of eC⟩,?_;refine eU (xs:=ms.map V.int) (λn σ H'=>aX H H'/\H' C=some (.lst (ms.map V.int))/\∃(us:wk) (ds:List RD) (z4 z5 z6:Option V),σ=[some (.ref a),some (.int (m:Int)),some (.bl fr),some (.ref r),z4,z5,z6]/\H' r=some (.lst us)/\Rts Z.K H' us ds/\(∀d∈ds,DrB fr m d)/\ds.length=ds0.length+n) ⟨s02.trans s3,eC,us0,ds0,none,none,none,rfl,e3,R2.same s3,K2,rfl⟩ (λn σ H' _ h=>SqL.of h.2.1) ?_ ?_
 .rintro n x σ H4 hx ⟨s4,eC4,us,ds,z4,z5,z6,rfl,er,hR,hK,hlen⟩;have hn:n < 10:=by
   have:=(wq.mp hx).1;rw[length_map] at this;lia
  obtain⟨c,rfl⟩:∃c,x=.int c:=by
   rw[getElem?_map] at hx
   cases hm:ms[n]? with
   |none=>rw[hm] at hx;cases hx
   |some c=>rw[hm] at hx;cases hx;exists c,rfl
  have lus:=hR.length;exists zl9 6,λL hL=>?_;obtain⟨H5,zq,s5,e5⟩:=nw hL (.lst [V.str "piece",.str "push",.str "piece",.str "hold",.str "piece",.str "push"]);rw[zq];obtain⟨k,ek⟩:=qv3 (Int.emod_nonneg c (show (6:Int)≠0 by decide)) (Int.emod_lt_of_pos c (show (0:Int) < 6 by decide));exists _,rfl,_,_,rfl,rfl,(show (0:Int) < 6 by decide),L,_,_,_,rfl,rfl,SqL.of e5,ek,?_;exists _,rfl,_,rfl,c,fr,rfl,λp hp bp z H6 s6 e6=>?_;have fz:Fq Z.K H6 z p:=Fq.of e6;refine(λ(hrest:∀(z6:Option V) (zz:Addr) (p:Q2) (Hx:Hp),z6=some (.ref zz)->aX H6 Hx->Fq Z.K Hx zz p->Low p/\(k=.pc->0 < p.1)/\Bd (eP fr) p->W.KIN.Hid ((?T:Option V->Hp->Prop) z6 Hx))=>?main) ?rest
  case main=>
   by_cases hk:k=.pc
   .exists _,rfl,rfl,_,rfl,L2.ifF (by show (!decide (V.str k.wd=V.str "piece"))=false;rw[Zy,decide_eq_true hk];rfl) ?_;show iD _ _ _ [some (.ref a),some (.int (m:Int)),some (.bl fr),some (.ref r),some (.int c),some (.str k.wd),some (.ref z)] H6;generalize h6:(some (V.ref z):Option V)=z6;exact(hrest z6 z p H6 h6.symm (aX.refl _) fz ⟨hp.low,λ_=>hp.pos,bp⟩).out
   .exists _,rfl,rfl,_,rfl,L2.ifT (by show (!decide (V.str k.wd=V.str "piece"))=true;rw[Zy,decide_eq_false hk];rfl) ?_;exists _,rfl,_,rfl,c,fr,rfl,λp' hp' bp' zz H7 s7 e7=>?_;show iD _ _ _ [some (.ref a),some (.int (m:Int)),some (.bl fr),some (.ref r),some (.int c),some (.str k.wd),some (.ref zz)] H7;generalize h6:(some (V.ref zz):Option V)=z6;exact(hrest z6 zz p' H7 h6.symm s7 (Fq.of e7) ⟨hp',λh=>absurd h hk,bp'⟩).out
  case rest=>
  intro z6' zz p' H7 h6 s7 f7 hq;subst h6;exists ?_;have s47:=s5.trans (s6.trans s7);have er7:=s47 _ _ er;have m0:(m:Int)≠0:=by lia
  have mp:0 < (m:Int):=by lia
  have b1:=Int.fmod_nonneg_of_pos (a:=c / 6) mp;have b2:=Int.fmod_lt_of_pos (c / 6) mp;have b3:=Int.fmod_nonneg_of_pos (a:=c*40692 % 10037) mp;have b4:=Int.fmod_lt_of_pos (c*40692 % 10037) mp;exists _,rfl,.inl ⟨rfl,_,SqL.of er7⟩,_,rfl,_,rfl,_,_,rfl,rfl,⟨∅,∅⟩,_,rfl,_,_,rfl,rfl,m0,_,rfl,_,_,rfl,rfl,Or.inr ⟨∅,∅⟩,_,_,rfl,rfl,(show (0:Int) < 10037 by decide),_,rfl,_,_,rfl,rfl,m0,_,rfl,zl9 4,λt ht=>?_;obtain⟨H8,zq,s8,et⟩:=nw ht (.tup [.str k.wd,.int (Int.fmod (c / 6) m),.int (Int.fmod (c*40692 % 10037) m),.ref zz]);rw[zq];have et:SqT Z.K H8 t [.str k.wd,.int (Int.fmod (c / 6) m),.int (Int.fmod (c*40692 % 10037) m),.ref zz]:=SqT.of et;have er8:=s8 _ _ er7;have s48:=s47.trans s8;exists r,us,.ref t,rfl,rfl,er8,bH (),?_;refine⟨(s4.trans s48).change hr0,by rw[aV nCr];exact s48 _ _ eC4,us++[.ref t],ds++[(k,Int.fmod (c / 6) m,Int.fmod (c*40692 % 10037) m,p')],_,_,_,rfl,aB,Rts.upd er8 ((hR.same s48).app (.cons et (s8.fq f7) .nil)),λd hd=>?_,by rw[xj,hlen,length_singleton];lia⟩;rcases mem_append.mp hd with z | z
  .exact hK d z
  .have:d=(k,Int.fmod (c / 6) m,Int.fmod (c*40692 % 10037) m,p'):=by simpa using z
   rw[this];exists ⟨b1,b2,b3,b4,hq.1,hq.2.1,hq.2.2.mono (by have:=bb;lia)⟩,hq.2.2
 rintro σ H4 ⟨s4,-,us,ds,z4,z5,z6,rfl,er,hR,hK,hlen⟩;rw[length_map] at hlen;exists _,rfl,q r us ds H4 s4 hr0 er hR hK ()
theorem Y78:DZ 1 Z.f78 Z.d78 ["_law_sums","_law_at","_law_top","_law_bottom"] (Bq Z.K) "_law_more":=by
 exists ?_,F78.b4 _ _ _ _ (by intros;rfl),F78.kp,m78
 refine F78.ok9 qi8 λ_ _ _ s H _ Q E hr h=>?_;obtain⟨l,j,t,b,xs,ps,n,k,rfl,hl,hF,hj,bp,bt,bb,hn,q⟩:=h;exists _,(aF (jD (dA (aA (bC gF (bC cP (aK aY (aK bX (pv 0) (pv 1)) aE) (pv 3)) (bC cP (pv 2) (aK aY (aK bX (pv 0) (pv 1)) aE))) (aA (bC cP (aK aY (aK bX (pv 0) (pv 1)) aE) (pv 3)) aD))) (qK (pv 0) (pv 1) jW))),?_;have lx:=hF.length;obtain⟨u,eu,fu⟩:=hF.at (jS hj);have at_:atI xs (j:Int)=some (.ref u):=cA eu;exists _,rfl,_,rfl,l,xs,_,_,rfl,rfl,SqL.of hl,at_,u,_,0,_,rfl,rfl,fu,rfl,_,rfl,cQ bp.a bb () () ?_;exists _,rfl,_,rfl,_,rfl,l,xs,_,_,rfl,rfl,SqL.of hl,at_,u,_,1,_,rfl,rfl,fu,rfl,cQ bt bp.b () () ⟨_,_,rfl,rfl,?_⟩;exists _,rfl,_,rfl,l,xs,_,_,rfl,rfl,SqL.of hl,at_,u,_,1,_,rfl,rfl,fu,rfl,_,rfl,cQ bp.b bb () () ⟨zl9 2,λv hv=>?_⟩;obtain⟨H1,zq,s1,f1⟩:=nw hv (.tup [.int ((ps.getD j (0,1)).1*b+t*(ps.getD j (0,1)).2),.int ((ps.getD j (0,1)).2*b)]);rw[zq];have f1:Fq Z.K H1 v ((ps.getD j (0,1)).1*b+t*(ps.getD j (0,1)).2,(ps.getD j (0,1)).2*b):=Fq.of f1;exists _,rfl,_,rfl,l,xs,_,j,rfl,rfl,s1 _ _ hl,mY (),?_;exact q _ _ (s1.sx.write ⋯) aB ((Fqs.set f1 j (hF.same s1)).upd (s1 _ _ hl))
theorem Y79:DZ 1 Z.f79 Z.d79 ["_law_many","_law_rows_here"] (Cz Z.K) "_law_apart":=by
 exists ?_,F79.b2 _ _ (by intros;rfl),F79.kp,m79
 refine F79.ok9 jU λ_ _ _ s H _ Q E hr h=>?_;obtain⟨r,us,m,ds,rfl,hS,hR,pt,m1',hm,q⟩:=h;refine⟨_,(aC (aT (i:=2) jU.nd rfl (Or.inr rfl) (dD (nl:=1) (fr:=[]) (Nc:=["_law_k"]) (cl:=[]) rfl ⟨rfl,rfl,∅,∅,λx c h=>(by cases h),dI rfl,rfl,λi n h=>(by simp at h)⟩
    (fA rfl n_range (aA (pv 0) aD)) (λ_ _ _ _ _=>(qQ0 (i:=0) qn9)) (λ_ _ _ _ _=>dC)
    (λ_ _ _ _ _=>(pv 0))))
  (aC (eO PassesOwn.never rfl (cG (pv 1)) (fP rfl (bO (qQ0 (i:=3) jU.nd) (bO (qQ0 (i:=4) jU.nd) (bO (qQ0 (i:=5) jU.nd) (bO (qQ0 (i:=6) jU.nd) eJ)))))
   (aF (cD (bK jL (pv 3) cL (bM _)) (aC (aT (i:=7) jU.nd rfl (Or.inr rfl) (aK bX (pv 2) (pv 4)))
  (aC (aT (i:=8) jU.nd rfl (Or.inr rfl) (aK bX (pv 2) (pv 5)))
  (aF (aT (i:=2) jU.nd rfl (Or.inr rfl) (dD (nl:=1) (fr:=[8,7]) (Nc:=["_law_mark","_law_other","_law_one"]) (cl:=[("_law_other",s.heap.objs.size+3),("_law_one",s.heap.objs.size+2)]) rfl ⟨rfl,rfl,∅,∅,(cO rfl (cO rfl (iP))),dI rfl,rfl,λi n h=>match i,h with | 0,h=>by cases h;exact⟨8,rfl,rfl,rfl,rfl,.inl rfl⟩ | 1,h=>by cases h;exact⟨7,rfl,rfl,rfl,rfl,.inl rfl⟩ | k+2,h=>by rw[show 1+(k+2)=k+3 by lia] at h;cases h⟩
    (cG (pv 2)) (λ_ _ _ _ _=>(qQ0 (i:=0) qR)) (λ_ _ _ _ _=>dC)
    (λ_ _ _ _ _=>(lH (PW.pt (gP (bK dY (pv 0) (pv 2) (bM _)) (gS (bK dY (pv 0) (pv 1) (bM _))))) (cB (Oq rfl) rfl n_min PyProof.Rows.boot_min (aA (pv 2) (aA (pv 1) aD))) (pv 0)))))))) bQ)))
  (aF (aW (dD (nl:=1) (fr:=[2]) (Nc:=["_law_point","_law_marks"]) (cl:=[("_law_marks",s.heap.objs.size+1)]) rfl ⟨rfl,rfl,∅,∅,(cO rfl (iP)),dI rfl,rfl,λi n h=>match i,h with | 0,h=>by cases h;exact⟨2,rfl,rfl,rfl,rfl,.inl rfl⟩ | k+1,h=>by rw[show 1+(k+1)=k+2 by lia] at h;cases h⟩
    (fA rfl n_range (aA (pv 0) aD)) (λ_ _ _ _ _=>(qQ0 (i:=0) wZ)) (λ_ _ _ _ _=>(rF (bK jL (aK (iU (K:=Z.K) rfl) (pv 1) (pv 0)) aE (bM _))))
    (λ_ _ _ _ _=>(pv 0))))))),?_⟩
 have lus:=hR.length;refine rK (λσ' H'=>aX H H'/\∃D,H D=none/\H' D=some (.lst ((nks m (ds.take 0)).map V.int))/\σ'=[some (.int (m:Int)),some (.ref r),some (.ref D),none,none,none,none,none,none]) (λX hX=>?_) ?_
 .exists _,rfl,(m:Int),rfl,(),(),λD hD=>?_;rw[Int.toNat_natCast];have sD:=aG hD (.lst []);refine crS hD (n:=m) (λi zs H'=>zs=(oO i).map V.int) rfl ?_ ?_
  .rintro i zs H3 hi ⟨s3,e3,rfl⟩ C hC;exists cZ.1,cZ.2,eY ?_
   try rw[Int.zero_add]
   exists _,rfl,e3,bH (by unfold oO;rw[length_map,length_map,length_range];lia),hC _ _ ⟨s3.change hD,aB,?_⟩
   try rw[Int.zero_add]
   unfold oO;rw[range_succ,map_append,map_append];rfl
  .rintro zs H3 ⟨s3,e3,rfl⟩;exact hX _ _ ⟨s3,D,hD,e3,rfl⟩
 rintro σ1 H1 ⟨sD,D,hD,eD,rfl⟩;refine rK (λσ' H'=>aX H H'/\∃(c:Addr) (z4 z5 z6 z7 z8 z9:Option V),σ'=[some (.int (m:Int)),some (.ref r),some (.ref c),z4,z5,z6,z7,z8,z9]/\H' c=some (.lst ((nks m ds).map V.int))) (λX hX=>?_) ?_
 .exists _,rfl,r,rfl,⟨_,sD.seq hS⟩,?_;refine eU (xs:=us) (λi σ H'=>aX H H'/\∃(c:Addr) (z4 z5 z6 z7 z8 z9:Option V),σ=[some (.int (m:Int)),some (.ref r),some (.ref c),z4,z5,z6,z7,z8,z9]/\H c=none/\H' c=some (.lst ((nks m (ds.take i)).map V.int))) ⟨sD,D,none,none,none,none,none,none,rfl,hD,eD⟩ (λi σ H' _ h=>h.1.seq hS) ?_ ?_
  .rintro i w σ H2 hw ⟨s2,c,z4,z5,z6,z7,z8,z9,rfl,nc,ec⟩;have hi:i < ds.length:=by have:=(wq.mp hw).1;lia
   obtain⟨⟨kd,u,v,p⟩,hd⟩:∃d,ds[i]?=some d:=⟨_,getElem?_eq_getElem hi⟩
   obtain⟨t,z,et,ht,fz⟩:=hR.at hd;have ew:w=.ref t:=by rw[et] at hw;exact(Option.some.inj hw).symm
   subst ew;obtain⟨i0,i1,j0,j1⟩:dL (m:Int) u v:=pt _ (mem_of_getElem? hd);exists t,_,rfl,s2.seqT ht,rfl,_,_,rfl,_,_,rfl,_,_,rfl,_,_,rfl,rfl,?_;have eT:nks m (ds.take (i+1))=wK (nks m (ds.take i)) (kd,u,v,p):=by rw[take_add_one,hd];exact Go _ _ _
   rw[eT];have lm:=(Cy m1' _ (ds.take i) rfl λd hd=>pt d (mem_of_mem_take hd)).l;generalize nks m (ds.take i)=ms at ec lm ⊢
   by_cases hk:kd=.pu
   .have sk:wK ms (kd,u,v,p)=ms:=if_pos hk;rw[sk];exists _,rfl,rfl,_,rfl,L2.ifF (by show (!decide (V.str kd.wd=V.str Kd.pu.wd))=false;rw[dM,decide_eq_true hk];rfl) ?_;exists s2,c,_,_,_,_,z8,z9,rfl,nc,ec
   .have sk:wK ms (kd,u,v,p)=mnJ ms (ms.getD u.toNat 0) (ms.getD v.toNat 0):=if_neg hk;rw[sk];exists _,rfl,rfl,_,rfl,L2.ifT (by show (!decide (V.str kd.wd=V.str Kd.pu.wd))=true;rw[dM,decide_eq_false hk];rfl) ?_;have gi:∀{j:Int},0<=j->j < (m:Int)->atI (ms.map V.int) j=some (.int (ms.getD j.toNat 0)):=λ{j} h0 h1=>by
     have hj:j.toNat < ms.length:=by lia
     have:=cA (xs:=ms.map V.int) (j:=j.toNat) (v:=.int (ms.getD j.toNat 0)) (by rw[getElem?_map,getElem?_eq_getElem hj,getD_eq_getElem?_getD,getElem?_eq_getElem hj];rfl)
     rwa [show ((j.toNat:Nat):Int)=j by lia] at this
    exists _,rfl,_,rfl,c,_,_,_,rfl,rfl,SqL.of ec,gi i0 i1,?_;exists _,rfl,_,rfl,c,_,_,_,rfl,rfl,SqL.of ec,gi j0 j1,?_;exists _,rfl,c,rfl,⟨_,SqL.of ec⟩,λD2 hD2=>?_;have sD2:=aG hD2 (.lst []);generalize ms.getD u.toNat 0=A1;generalize ms.getD v.toNat 0=A2;have lj:(mnJ ms A1 A2).length=ms.length:=by unfold mnJ;rw[length_map]
    refine dB (xs:=ms.map V.int) (λi zs H'=>aX H2 H'/\H' D2=some (.lst zs)/\zs=((mnJ ms A1 A2).take i).map V.int) ⟨sD2,aB,rfl⟩ (λi zs H' h=>h.2.1) (λi zs H' _ h=>h.1.seq (SqL.of ec)) ?_ ?_
    .rintro i' zs x H3 hx' ⟨s3,e3,rfl⟩ C hC;rw[getElem?_map] at hx';obtain⟨cc,hc,rfl⟩:=Option.map_eq_some_iff.mp hx';have hi':i' < ms.length:=(wq.mp hc).1;have ej:(mnJ ms A1 A2)[i']?=some (if cc=A1\/cc=A2 then mnA A1 A2 else cc):=by unfold mnJ;rw[getElem?_map,hc];rfl
     have fin:∀z,z=(if cc=A1\/cc=A2 then mnA A1 A2 else cc)->aX H2 (upd H3 D2 (.lst (((mnJ ms A1 A2).take i').map V.int++[V.int z])))/\upd H3 D2 (.lst (((mnJ ms A1 A2).take i').map V.int++[V.int z])) D2=some (.lst (((mnJ ms A1 A2).take i').map V.int++[V.int z]))/\((mnJ ms A1 A2).take i').map V.int++[V.int z]=((mnJ ms A1 A2).take (i' + 1)).map V.int:=λz ez=>⟨s3.change hD2,aB,by rw[take_add_one,ej,ez,map_append];rfl⟩
     have sm3:(((mnJ ms A1 A2).take i').map V.int).length < sizeLine:=bH (by rw[length_map,length_take];lia);exists cZ.1,cZ.2,eY ?_;exists _,rfl,_,rfl,rfl,_,rfl,?_;have ln:∀{x y:Int},¬x=y->decide (V.int x=V.int y)=false:=λh=>decide_eq_false λz=>h (by injection z)
     by_cases h1:cc=A1
     .refine L2.ifT (decide_eq_true (by rw[h1])) (eY ⟨_,rfl,_,rfl,A1,A2,rfl,e3,sm3,hC _ _ (fin _ ?_)⟩);exact(show mnA A1 A2=_ from (if_pos (Or.inl h1)).symm)
     .refine L2.ifF (ln h1) ⟨_,rfl,_,rfl,rfl,_,rfl,?_⟩
      by_cases h2:cc=A2
      .refine L2.ifT (decide_eq_true (by rw[h2])) ⟨_,rfl,_,rfl,A1,A2,rfl,e3,sm3,hC _ _ (fin _ ?_)⟩;exact(show mnA A1 A2=_ from (if_pos (Or.inr h2)).symm)
      .refine L2.ifF (ln h2) ⟨_,rfl,e3,sm3,hC _ _ (fin _ ?_)⟩;exact(if_neg (λz=>z.elim h1 h2)).symm
    .rintro zs H3 ⟨s3,e3,rfl⟩;rw[length_map,<- lj,take_length] at e3;exists s2.trans s3,D2,_,_,_,_,_,_,rfl,s2.free hD2,e3
  .rintro σ H2 ⟨s2,c,z4,z5,z6,z7,z8,z9,rfl,nc,ec⟩;rw[show us.length=ds.length by lia,take_length] at ec;exact hX _ _ ⟨s2,c,z4,z5,z6,z7,z8,z9,rfl,ec⟩
 rintro σ2 H2 ⟨s2,c,z4,z5,z6,z7,z8,z9,rfl,ec⟩;have NKm:=Cy m1' _ ds rfl pt;have lm:=NKm.l;have gi:∀{j:Nat},j < m->atI ((nks m ds).map V.int) (j:Int)=some (.int ((nks m ds).getD j 0)):=λ{j} h1=>by
  have hj:j < (nks m ds).length:=by lia
  exact cA (xs:=(nks m ds).map V.int) (j:=j) (v:=.int ((nks m ds).getD j 0)) (by rw[getElem?_map,getElem?_eq_getElem hj,getD_eq_getElem?_getD,getElem?_eq_getElem hj];rfl)
 exists _,rfl,(m:Int),rfl,(),(),λD hD=>?_;rw[Int.toNat_natCast];refine crS hD (n:=m) (λi zs H'=>zs=(((List.range i).filter λp=>decide ((nks m ds).getD p 0≠0)).map (λ(p:Nat)=>(p:Int))).map V.int) rfl ?_ ?_
 .rintro i zs H4 hi ⟨s4,e4,rfl⟩ C hC
  try rw[Int.zero_add]
  exists cZ.1,cZ.2,_,rfl,_,rfl,c,_,_,_,rfl,rfl,SqL.of (s4 _ _ ec),gi hi,?_;exists rfl,_,rfl,?_
  by_cases h0:(nks m ds).getD i 0=0
  .refine L2.ifF (by rw[h0];rfl) (hC _ _ ⟨s4,e4,?_⟩);rw[range_succ,filter_append,filter_cons_of_neg (by rw[decide_eq_false (λz=>z h0)];decide)];simp
  .refine L2.ifT (by show (!decide _)=true;rw[decide_eq_false (λz=>h0 (by injection z))];rfl) ⟨_,rfl,e4,bH (by rw[length_map,length_map];have:=length_filter_le (λp=>decide ((nks m ds).getD p 0≠0)) (List.range i);rw[length_range] at this;lia),hC _ _ ⟨s4.change hD,aB,?_⟩⟩
   try rw[Int.zero_add]
   rw[range_succ,filter_append,filter_cons_of_pos (p:=λp=>decide ((nks m ds).getD p 0≠0)) (a:=i) (decide_eq_true h0),map_append,map_append];rfl
 .rintro zs H4 ⟨s4,e4,rfl⟩;rw[Vl m1' pt] at e4;exact q D H4 (s2.trans s4) (s2.free hD) e4
theorem Y80:DZ 2 Z.f80 Z.d80 ["_law_many","_law_rows_here"] (Rg Z.K) "_law_equations":=by
 exists ?_,F80.b2 _ _ (by intros;rfl),F80.kp,m80
 refine F80.ok9 rG λ_ _ _ s H _ Q E hr h=>?_;obtain⟨a,xs,m,ds,rfl,ea,Rb,hK,hm1,hm4,h20,q⟩:=h;refine⟨_,(aC (aT (i:=2) rG.nd rfl (Or.inr rfl) (bC gF (bC jC (pv 0) aE) (cB bV rfl n_len PySem.boot_len (aA (dD (nl:=1) (fr:=[]) (Nc:=["_law_row"]) (cl:=[]) rfl ⟨rfl,rfl,∅,∅,λx c h=>(by cases h),dI rfl,rfl,λi n h=>(by simp at h)⟩
    (cG (pv 1)) (λ_ _ _ _ _=>(qQ0 (i:=0) Kv)) (λ_ _ _ _ _=>(rF (bK dY (aK (kM (K:=Z.K) rfl) (pv 0) aE) cL (bM _))))
    (λ_ _ _ _ _=>(pv 0))) aD))))
  (aC (rN (i:=3) (nl:=1) (fr:=[2]) (Nc:=["_law_k","_law_size_of"]) (cl:=[("_law_size_of",s.heap.objs.size+1)]) rG.nd rfl rfl rfl ⟨rfl,rfl,∅,∅,λx c h=>h,dI rfl,rfl,λi n h=>match i,h with | 0,h=>by cases h;exact⟨2,rfl,rfl,rfl,rfl,.inl rfl⟩ | k+1,h=>by rw[show 1+(k+1)=k+2 by lia] at h;cases h⟩
    (fA rfl n_range (aA (bC gF (pv 2) aE) aD)) (λ_ _ _ _ _=>(qQ0 (i:=0) yZ)) (λ_ _ _ _ _=>dC)
    (λ_ _ _ _ _=>(bC sZ (dZ (aA (dA (aA aE (aA aE aD))) aD)) (bC gF (pv 1) aE))) rfl)
  (aC (qQ1 (i:=4) rG.nd (bC sZ (dZ (aA (dA (aA aE (aA aE aD))) aD)) (bC gF (pv 2) aE)))
  (aC (qQ1 (i:=5) rG.nd (pv 0))
  (aC (eO PassesOwn.never rfl (cG (pv 1)) (fP rfl (bO (qQ0 (i:=6) rG.nd) (bO (qQ0 (i:=7) rG.nd) (bO (qQ0 (i:=8) rG.nd) (bO (qQ0 (i:=9) rG.nd) eJ)))))
   (aC (cD (bK dY (pv 6) cL (bM _)) (aC (cC (d9 Y78 hr rfl (aA (pv 4) (aA (pv 8) (aA (aK aY (pv 9) aE) (aA (aK aY (pv 9) aE) aD))))))
  (aF (cC (d9 Y78 hr rfl (aA (pv 4) (aA (pv 7) (aA (bC jC aE (aK aY (pv 9) aE)) (aA (aK aY (pv 9) aE) aD)))))))) bQ)
  (aC (cD (bK dY (pv 6) cL (bM _)) (aF (eO PassesOwn.never rfl (cG (dZ (aA (dA (aA (pv 7) (aA (pv 8) aD))) (aA (dA (aA (pv 8) (aA (pv 7) aD))) aD)))) (fP rfl (bO (qQ0 (i:=10) rG.nd) (bO (qQ0 (i:=11) rG.nd) eJ)))
   (aC (cC (d9 Y78 hr rfl (aA (aK bX (pv 3) (pv 10)) (aA (pv 10) (aA (aK aY (pv 9) aE) (aA (aK aY (pv 9) aE) aD))))))
  (aF (cC (d9 Y78 hr rfl (aA (aK bX (pv 3) (pv 10)) (aA (pv 11) (aA (bC jC aE (aK aY (pv 9) aE)) (aA (aK aY (pv 9) aE) aD)))))))))) bQ)
  (aF (cD (bK dY (pv 6) cL (bM _)) (aC (eO PassesOwn.never rfl (cG (dZ (aA (dA (aA (pv 7) (aA aE aD))) (aA (dA (aA (pv 8) (aA (zJ rW aE) aD))) aD)))) (fP rfl (bO (qQ0 (i:=10) rG.nd) (bO (qQ0 (i:=12) rG.nd) eJ)))
   (aC (cC (d9 Y78 hr rfl (aA (aK bX (pv 3) (pv 10)) (aA (pv 5) (aA (pv 12) (aA aE aD))))))
  (aF (cC (d9 Y78 hr rfl (aA (aK bX (pv 3) (pv 5)) (aA (pv 10) (aA (pv 12) (aA aE aD)))))))))
  (aC (jD (pv 9) (qK (pv 4) (pv 5) jW))
  (aF (qQ1 (i:=5) rG.nd (bC gF (pv 5) aE))))) bQ)))))
  (aF (aW (dA (aA (dD (nl:=1) (fr:=[]) (Nc:=["_law_row"]) (cl:=[]) rfl ⟨rfl,rfl,∅,∅,λx c h=>(by cases h),dI rfl,rfl,λi n h=>(by simp at h)⟩
    (cG (gE iT (pv 3) (fV aE) jG)) (λ_ _ _ _ _=>(qQ0 (i:=0) Kv)) (λ_ _ _ _ _=>dC)
    (λ_ _ _ _ _=>(gE (Ge (K:=Z.K) rfl) (pv 0) (fV aE) jG))) (aA (gE iT (pv 4) (fV aE) jG) aD)))))))))),?_⟩
 have lxs:=Rb.length;have lh2:bZ ds<=ds.length:=length_filter_le _ _;obtain⟨W,hW⟩:∃W:Nat,W=m+bZ ds:=⟨_,rfl⟩
 have hW60:W<=24:=by lia
 have hmW:m<=W:=by lia
 refine rK (λσ' H'=>aX H H'/\σ'=[some (.int (m:Int)),some (.ref a),some (.int ((W:Int) - 1)),none,none,none,none,none,none,none,none,none,none]) (λX hX=>?_) ?_
 .exists _,rfl,_,_,rfl,rfl,_,rfl,a,rfl,⟨_,ea⟩,λC0 hC0=>?_;refine clS hC0 (xs:=xs) (λi zs H'=>zs.length=bZ (ds.take i)) rfl (λ_ h=>h.seq ea) ?_ ?_
  .rintro i zs x H2 hx ⟨s2,e2,lz⟩ C hC;have hi:i < ds.length:=by
    have:=(wq.mp hx).1;lia
   obtain⟨⟨k0,u,v,p⟩,hd⟩:∃d,ds[i]?=some d:=⟨_,getElem?_eq_getElem hi⟩
   obtain⟨y,z,ey,ty,fz⟩:=Rb.at hd;have ex:x=.ref y:=by rw[ey] at hx;exact(Option.some.inj hx).symm
   subst ex;have et:ds.take (i+1)=ds.take i++[(k0,u,v,p)]:=by rw[take_add_one,hd];rfl
   have lh:=Cp (ds:=ds) i;exists cZ.1,cZ.2,?_;exists _,rfl,y,_,_,_,rfl,rfl,s2.seqT ty,rfl,rfl,_,rfl,?_
   by_cases hk:k0=.ho
   .refine L2.ifT (zzT k0 .ho hk) ⟨_,rfl,e2,bH (),hC _ _ ⟨s2.change hC0,aB,?_⟩⟩;rw[et,gO,xj,lz];show _+1=_+cF k0;unfold cF;rw[if_pos hk]
   .refine L2.ifF (zzF k0 .ho hk) (hC _ _ ⟨s2,e2,?_⟩);rw[et,gO,lz];show _=_+cF k0;unfold cF;rw[if_neg hk];rfl
  rintro zs0 H2 ⟨s2,e2,lz0⟩;rw[lxs,take_length] at lz0;exists C0,zs0,rfl,.inl (SqL.of e2),_,_,rfl,rfl,hX _ _ ⟨s2,?_⟩;have eW:(m:Int) - 1+(zs0.length:Int)=(W:Int) - 1:=by rw[lz0,hW];lia
  rw[<- eW];rfl
 rintro σ0 H2 ⟨s12,rfl⟩;refine rK (λσ' H'=>aX H2 H'/\∃(D:Addr) (as:List Addr),H2 D=none/\(∀b∈as,H2 b=none)/\Mx Z.K H' D as (replicate W (replicate W (0,1)))/\σ'=[some (.int (m:Int)),some (.ref a),some (.int ((W:Int) - 1)),some (.ref D),none,none,none,none,none,none,none,none,none]) (λX hX=>?_) ?_
 .exists _,rfl,_,_,rfl,rfl,(W:Int) - 1+1,rfl,(),(),λD hD=>?_;rw[show ((W:Int) - 1+1).toNat=W by lia];refine Uz (K:=Z.K) hD () (λi H3 Zq s3 zQ9=>?_) λas H3 s3 mx3 fr=>hX _ _ ⟨s3,D,as,hD,fr,mx3,rfl⟩;exists zl9 2,λt0 ht0=>?_;obtain⟨H3a,zq,s3a,e3a⟩:=nw ht0 (.tup [.int 0,.int 1]);rw[zq];have e3a:Fq Z.K H3a t0 (0,1):=SqT.of e3a;exists zl9 1,λl1 hl1=>?_;obtain⟨H4,zq,s4,e4⟩:=nw hl1 (.lst [.ref t0]);rw[zq];exists _,rfl,_,_,rfl,rfl,l1,(W:Int) - 1+1,[.ref t0],rfl,rfl,e4,(),(),?_,λb hb=>?_
  .rw[sizeLine_eq];simp only[length_cons,length_nil];lia
  rw[show ((W:Int) - 1+1).toNat=W by lia,lK];have s34:=s3a.trans s4;have s5:=aG hb (.lst (replicate W (.ref t0)));exact zQ9 b _ _ (s34.trans s5) (s34.free hb) aB (mD (s5.fq (s4.fq e3a)) W)
 rintro σ1 H3 ⟨s3,D,as,nDH,fr,mx3,rfl⟩;have lW:as.length=W:=by rw[mx3.la,length_replicate]
 refine rK (λσ' H'=>∃(R:Addr),SEq Z.K H2 H' D R as (replicate W (replicate W (0,1))) (replicate W (0,1)) W 1 (λ_ _=>0) (λ_=>0)/\σ'=[some (.int (m:Int)),some (.ref a),some (.int ((W:Int) - 1)),some (.ref D),some (.ref R),none,none,none,none,none,none,none,none]) (λX hX=>?_) ?_
 .exists zl9 2,λt0 ht0=>?_;obtain⟨H3a,zq,s3a,e3a⟩:=nw ht0 (.tup [.int 0,.int 1]);rw[zq];have e3a:Fq Z.K H3a t0 (0,1):=SqT.of e3a;exists zl9 1,λl1 hl1=>?_;obtain⟨H4,zq,s4,e4⟩:=nw hl1 (.lst [.ref t0]);rw[zq];exists _,rfl,_,_,rfl,rfl,l1,(W:Int) - 1+1,[.ref t0],rfl,rfl,e4,(),(),?_,λR hR=>?_
  .rw[sizeLine_eq];simp only[length_cons,length_nil];lia
  rw[show ((W:Int) - 1+1).toNat=W by lia,lK];obtain⟨H5,zq,s5,e5⟩:=nw hR (.lst (replicate W (.ref t0)));rw[zq];have s34:=s3a.trans s4;have s35:=s34.trans s5;have F5:Fqs Z.K H5 (replicate W (.ref t0)) (replicate W (0,1)):=mD (s5.fq (s4.fq e3a)) W;exact hX _ _ ⟨R,⟨s3.trans s35,mx3.same s35,Px W,fr,nDH,(s3.trans s34).free hR,(λz=>by obtain⟨ws,h⟩:=mx3.lsts R z;rw[s34 _ _ h] at hR;cases hR),Ne.symm (bL (s34 _ _ mx3.d) hR),⟨_,e5,F5⟩,Rr W,λx _=>by rw[pF,rM]⟩,rfl⟩
 rintro σ2 H5 ⟨R,S5,rfl⟩;exists _,rfl,?_;have ea2:=s12.seq ea;have Rb2:=Rb.same s12;exists _,rfl,a,rfl,⟨_,S5.s.seq ea2⟩,?_;refine eU (xs:=xs) (λi σ H'=>∃(M:List (List Q2)) (rs:List Q2) (z6 z7 z8 z9 z10 z11 z12:Option V),σ=[some (.int (m:Int)),some (.ref a),some (.int ((W:Int) - 1)),some (.ref D),some (.ref R),some (.int ((m+bZ (ds.take i):Nat):Int)),z6,z7,z8,z9,z10,z11,z12]/\SEq Z.K H2 H' D R as M rs W (124*i+1) (eqM m (ds.take i)) (eqR m (ds.take i))) ⟨_,_,none,none,none,none,none,none,none,rfl,S5.mono () (λx y _ _=>rfl) (λx _=>rfl)⟩ (λi σ H' _ h=>by obtain⟨M,rs,_,_,_,_,_,_,_,_,h⟩:=h;exact h.s.seq ea2) ?_ ?_
 .rintro i x σ H6 hx ⟨M,rs,z6,z7,z8,z9,z10,z11,z12,rfl,S6⟩;have hi:i < ds.length:=by
   have:=(wq.mp hx).1;lia
  obtain⟨⟨kd,u',v',p⟩,hd⟩:∃d,ds[i]?=some d:=⟨_,getElem?_eq_getElem hi⟩
  obtain⟨y,z,ey,ty,fz0⟩:=Rb2.at hd;have ex:x=.ref y:=by rw[ey] at hx;exact(Option.some.inj hx).symm
  subst ex;obtain⟨rd,bp⟩:=hK _ (mem_of_getElem? hd);have pt:∀d∈ds.take i,dL (m:Int) d.2.1 d.2.2.1:=λd hd=>by
   have:=(hK d (mem_of_mem_take hd)).1;exists this.1,this.2.1,this.2.2.1,this.2.2.2.1
  obtain⟨i0,i1,j0,j1,lp,pp,_⟩:=rd;obtain⟨s,rfl⟩:∃s:Nat,u'=(s:Int):=⟨u'.toNat,by have:0<=u':=i0;lia⟩
  obtain⟨g,rfl⟩:∃g:Nat,v'=(g:Int):=⟨v'.toNat,by have:0<=v':=j0;lia⟩
  have sW:s < W:=by have:(s:Int) < (m:Int):=i1;lia
  have gW:g < W:=by have:(g:Int) < (m:Int):=j1;lia
  have lp:Low p:=lp;have bp:Bd 30 p:=bp;have p2:1<=p.2:=lp.pos;have ep:ds.take (i+1)=ds.take i++[(kd,(s:Int),(g:Int),p)]:=by rw[take_add_one,hd];rfl
  have hh:=Cp (ds:=ds) (i+1);rw[ep,gO] at hh;have hh:bZ (ds.take i)+cF kd<=bZ ds:=hh;have eM:∀x y,eqM m (ds.take (i+1)) x y=eqM m (ds.take i) x y+cM (kd,(s:Int),(g:Int),p) (m+bZ (ds.take i)) x y:=λx y=>by rw[ep,yK]
  have eR:∀x,eqR m (ds.take (i+1)) x=eqR m (ds.take i) x+cR (kd,(s:Int),(g:Int),p) (m+bZ (ds.take i)) x:=λx=>by rw[ep,wW]
  have eH:bZ (ds.take (i+1))=bZ (ds.take i)+cF kd:=by rw[ep,gO]
  have far0:∀x,m+bZ (ds.take i)<=x->eqR m (ds.take i) x=0:=λx hx=>tD (m:=m) _ _ _ pt (Nat.le_refl _) hx;rw[eH];generalize eqM m (ds.take (i+1))=vM at eM ⊢;generalize eqR m (ds.take (i+1))=vR at eR ⊢;generalize eqM m (ds.take i)=v at eM S6 ⊢;generalize eqR m (ds.take i)=u at eR S6 far0 ⊢;have hc:m+bZ (ds.take i)+cF kd<=W:=by lia
  rw[<- Nat.add_assoc];generalize m+bZ (ds.take i)=c at eM eR hc S6 far0 ⊢;have fz:=S6.s.fq fz0;exists y,_,rfl,S6.s.seqT ty,rfl,_,_,rfl,_,_,rfl,_,_,rfl,_,_,rfl,rfl,?_;obtain⟨as_,has⟩:∃b,as[s]?=some b:=⟨_,getElem?_eq_getElem ()⟩
  obtain⟨ag,hag⟩:∃b,as[g]?=some b:=⟨_,getElem?_eq_getElem ()⟩
  have b1:Mq.B 30 (1:Int):=(show (1:Nat) < 2 ^ 30 by decide)
  have dT:∀k k':Kd,k=k'->decide (V.str k.wd=V.str k'.wd)=true:=λk k' h=>by rw[dM];exact decide_eq_true h
  have dF:∀k k':Kd,k≠k'->decide (V.str k.wd=V.str k'.wd)=false:=λk k' h=>by rw[dM];exact decide_eq_false h
  cases kd with
  |pu=>
   exists _,rfl,rfl,_,rfl,L2.ifT (dT .pu .pu rfl) ?_;exists _,rfl,_,rfl,eI rfl fz (cU rfl fz ?_);obtain⟨zr,er,fr⟩:=S6.r;exists R,g,p.1,p.2,zr,rs,_,30,rfl,er,fr,by rw[S6.l.w];exact gW,(S6.l.at gW).2.2,bp.a,bp.b,(),λxs7 H7 s7 e7 f7=>?_;obtain⟨x7,S7⟩:=S6.doR gW p2 bp.a bp.b er s7 e7 f7;have fz:=SX.seqT S6.lsts x7 fz;exists _,rfl,_,rfl,eI rfl fz ⟨_,_,rfl,rfl,cU rfl fz ?_⟩;exists R,s,0 - p.1,p.2,_,_,_,30,rfl,e7,f7,by rw[S7.l.w];exact sW,(S7.l.at sW).2.2,Ex bp.a,bp.b,(),λxs8 H8 s8 e8 f8=>?_;obtain⟨x8,S8⟩:=S7.doR sW p2 (Ex bp.a) bp.b e7 s8 e8 f8;exists _,rfl,rfl,_,rfl,L2.ifF (dF .pu .pc ∅) ⟨_,rfl,rfl,_,rfl,L2.ifF (dF .pu .ho ∅) ?_⟩;exists M,_,_,_,_,_,_,_,_,rfl,S8.mono () (λx y _ _=>by rw[eM];exact(Rat.add_zero _).symm) (λx _=>by rw[eR];exact qc6 u x)
  |pc=>
   have p1:1<=p.1:=by have:0 < p.1:=pp rfl;lia
   exists _,rfl,rfl,_,rfl,L2.ifF (dF .pc .pu ∅) ⟨_,rfl,rfl,_,rfl,L2.ifT (dT .pc .pc rfl) ?_⟩;exists _,rfl,_,rfl,zl9 2,λt1 h1=>?_;obtain⟨H7,zq,s7,q7⟩:=nw h1 (.tup [.int (s:Int),.int (g:Int)]);rw[zq];have q7:SqT Z.K H7 t1 [.int (s:Int),.int (g:Int)]:=SqT.of q7;exists _,rfl,_,rfl,zl9 2,λt2 h2=>?_;obtain⟨H8,zq,s8,q8⟩:=nw h2 (.tup [.int (g:Int),.int (s:Int)]);rw[zq];have q8:SqT Z.K H8 t2 [.int (g:Int),.int (s:Int)]:=SqT.of q8;exists zl9 2,λl hl=>?_;obtain⟨H9,zq,s9,e9⟩:=nw hl (.lst [.ref t1,.ref t2]);rw[zq];have s69:=s7.trans (s8.trans s9);have q1:=s9.seqT (s8.seqT q7);have q2:=s9.seqT q8;have S9:=S6.same s69;have nl:l∉R :: as:=λz=>by obtain⟨ws,h⟩:=S6.lsts l z;rw[(s7.trans s8) _ _ h] at hl;cases hl
   exists l,rfl,⟨_,SqL.of e9⟩,?_;refine eU (xs:=[.ref t1,.ref t2]) (λk σ H'=>∃(M:List (List Q2)) (z10 z11:Option V),σ=[some (.int (m:Int)),some (.ref a),some (.int ((W:Int) - 1)),some (.ref D),some (.ref R),some (.int (c:Int)),some (.str Kd.pc.wd),some (.int (s:Int)),some (.int (g:Int)),some (.ref z),z10,z11,z12]/\SX (R :: as) H9 H'/\SEq Z.K H2 H' D R as M rs W (124*i+1+62*k) (vs3 v (qh2 p s g v) (qh2 p g s (qh2 p s g v)) k) u) ⟨M,z10,z11,rfl,(aX.refl _).sx,S9.mono () (λ_ _ _ _=>rfl) (λ_ _=>rfl)⟩ (λk σ H' _ h=>by obtain⟨_,_,_,_,sx,_⟩:=h;exact SqL.of (sx _ _ e9 nl)) ?_ ?_
   .rintro k x σ HA hx ⟨M,z10,z11,rfl,sx,SA⟩
    obtain⟨tt,h,o,ah,rfl,qt,hah,hW',oW',hk,ev⟩:∃(tt:Addr) (h o:Nat) (ah:Addr),x=.ref tt/\SqT Z.K H9 tt [.int (h:Int),.int (o:Int)]/\as[h]?=some ah/\h < W/\o < W/\k < 2/\vs3 v (qh2 p s g v) (qh2 p g s (qh2 p s g v)) (k+1)=qh2 p h o (vs3 v (qh2 p s g v) (qh2 p g s (qh2 p s g v)) k):=
     match k,hx with
     |0,hx=>by cases hx;exists t1,s,g,as_,rfl,q1,has,sW,gW,(),rfl
     |1,hx=>by cases hx;exists t2,g,s,ag,rfl,q2,hag,gW,sW,(),rfl
     |n+2,hx=>by simp at hx
    rw[ev];generalize vs3 v (qh2 p s g v) (qh2 p g s (qh2 p s g v)) k=vk at SA ⊢;have qt:=SX.seqT S9.lsts sx qt;have fz:=SX.seqT S9.lsts sx (s69.fq fz);exists tt,_,rfl,qt,rfl,_,_,rfl,_,_,rfl,rfl,?_;obtain⟨xs1,ex1,fx1,lx1,bx1⟩:=SA.gM hah hW';exists _,rfl,_,rfl,D,_,_,_,rfl,rfl,SqL.of SA.m.d,cA (by rw[getElem?_map,hah];rfl),_,rfl,cU rfl fz (eI rfl fz ?_);exists ah,h,p.2,p.1,xs1,_,_,30,rfl,ex1,fx1,by rw[lx1];exact hW',bx1 _ hW',bp.b,bp.a,(),λxsB HB sB eB fB=>?_;obtain⟨xB,SB⟩:=SA.doM hah hW' hW' p1 bp.b bp.a ex1 sB eB fB;have fz:=SX.seqT SA.lsts xB fz;obtain⟨xs2,ex2,fx2,lx2,bx2⟩:=SB.gM hah hW';exists _,rfl,_,rfl,D,_,_,_,rfl,rfl,SqL.of SB.m.d,cA (by rw[getElem?_map,hah];rfl),_,rfl,cU rfl fz ⟨_,_,rfl,rfl,eI rfl fz ?_⟩;exists ah,o,0 - p.2,p.1,xs2,_,_,30,rfl,ex2,fx2,by rw[lx2];exact oW',bx2 _ oW',Ex bp.b,bp.a,(),λxsC HC sC eC fC=>?_;obtain⟨xC,SC⟩:=SB.doM hah hW' oW' p1 (Ex bp.b) bp.a ex2 sC eC fC;exists _,_,_,rfl,sx.trans (xB.trans xC),SC.mono () (λx y _ _=>rfl) (λ_ _=>rfl)
   .rintro σ HA ⟨M,z10,z11,rfl,sx,SA⟩;exists _,rfl,rfl,_,rfl,L2.ifF (dF .pc .ho ∅) ?_;exists M,rs,_,_,_,_,_,_,_,rfl,SA.mono (by show 124*i+1+62*2<=_;lia) (λx y _ _=>by rw[eM];exact qj9 () p2 v x y) (λx _=>by rw[eR];exact(Rat.add_zero _).symm)
  |ho=>
   have c1:cF Kd.ho=1:=rfl;rw[c1] at hc;have cW:c < W:=by lia
   obtain⟨ac,hac⟩:∃b,as[c]?=some b:=⟨_,getElem?_eq_getElem ()⟩
   exists _,rfl,rfl,_,rfl,L2.ifF (dF .ho .pu ∅) ⟨_,rfl,rfl,_,rfl,L2.ifF (dF .ho .pc ∅) ⟨_,rfl,rfl,_,rfl,L2.ifT (dT .ho .ho rfl) ?_⟩⟩;exists _,rfl,zl9 2,λt1 h1=>?_;obtain⟨H7,zq,s7,q7⟩:=nw h1 (.tup [.int (s:Int),.int 1]);rw[zq];have q7:SqT Z.K H7 t1 [.int (s:Int),.int 1]:=SqT.of q7;exists _,rfl,1,rfl,zl9 2,λt2 h2=>?_;obtain⟨H8,zq,s8,q8⟩:=nw h2 (.tup [.int (g:Int),.int (-1)]);rw[zq];have q8:SqT Z.K H8 t2 [.int (g:Int),.int (-1)]:=SqT.of q8;exists zl9 2,λl hl=>?_;obtain⟨H9,zq,s9,e9⟩:=nw hl (.lst [.ref t1,.ref t2]);rw[zq];have s69:=s7.trans (s8.trans s9);have q1:=s9.seqT (s8.seqT q7);have q2:=s9.seqT q8;have S9:=S6.same s69;have nl:l∉R :: as:=λz=>by obtain⟨ws,h⟩:=S6.lsts l z;rw[(s7.trans s8) _ _ h] at hl;cases hl
   exists l,rfl,⟨_,SqL.of e9⟩,?_;refine eU (xs:=[.ref t1,.ref t2]) (λk σ H'=>∃(M:List (List Q2)) (z10 z12:Option V),σ=[some (.int (m:Int)),some (.ref a),some (.int ((W:Int) - 1)),some (.ref D),some (.ref R),some (.int (c:Int)),some (.str Kd.ho.wd),some (.int (s:Int)),some (.int (g:Int)),some (.ref z),z10,z11,z12]/\SX (R :: as) H9 H'/\SEq Z.K H2 H' D R as M rs W (124*i+1+62*k) (vs3 v (tZ 1 s c v) (tZ (-1) g c (tZ 1 s c v)) k) u) ⟨M,z10,z12,rfl,(aX.refl _).sx,S9.mono () (λ_ _ _ _=>rfl) (λ_ _=>rfl)⟩ (λk σ H' _ h=>by obtain⟨_,_,_,_,sx,_⟩:=h;exact SqL.of (sx _ _ e9 nl)) ?_ ?_
   .rintro k x σ HA hx ⟨M,z10,z12,rfl,sx,SA⟩;obtain⟨tt,h,o,ah,rfl,qt,hah,hW',bo,hk,ev⟩:∃(tt:Addr) (h:Nat) (o:Int) (ah:Addr),x=.ref tt/\SqT Z.K H9 tt [.int (h:Int),.int o]/\as[h]?=some ah/\h < W/\Mq.B 30 o/\k < 2/\vs3 v (tZ 1 s c v) (tZ (-1) g c (tZ 1 s c v)) (k+1)=tZ o h c (vs3 v (tZ 1 s c v) (tZ (-1) g c (tZ 1 s c v)) k):=
     match k,hx with
     |0,hx=>by cases hx;exists t1,s,1,as_,rfl,q1,has,sW,b1,(),rfl
     |1,hx=>by cases hx;exists t2,g,-1,ag,rfl,q2,hag,gW,(show (1:Nat) < 2 ^ 30 by decide),(),rfl
     |n+2,hx=>by simp at hx
    rw[ev];generalize vs3 v (tZ 1 s c v) (tZ (-1) g c (tZ 1 s c v)) k=vk at SA ⊢;have qt:=SX.seqT S9.lsts sx qt;exists tt,_,rfl,qt,rfl,_,_,rfl,_,_,rfl,rfl,?_;obtain⟨xs1,ex1,fx1,lx1,bx1⟩:=SA.gM hah hW';exists _,rfl,_,rfl,D,_,_,_,rfl,rfl,SqL.of SA.m.d,cA (by rw[getElem?_map,hah];rfl),_,rfl,_,rfl,?_;exists ah,c,o,1,xs1,_,_,30,rfl,ex1,fx1,by rw[lx1];exact cW,bx1 _ cW,bo,b1,(),λxsB HB sB eB fB=>?_;obtain⟨xB,SB⟩:=SA.doM hah hW' cW ∅ bo b1 ex1 sB eB fB;obtain⟨xs2,ex2,fx2,lx2,bx2⟩:=SB.gM hac cW;exists _,rfl,_,rfl,D,_,_,_,rfl,rfl,SqL.of SB.m.d,cA (by rw[getElem?_map,hac];rfl),_,rfl,_,rfl,?_;exists ac,h,o,1,xs2,_,_,30,rfl,ex2,fx2,by rw[lx2];exact hW',bx2 _ hW',bo,b1,(),λxsC HC sC eC fC=>?_;obtain⟨xC,SC⟩:=SB.doM hac cW hW' ∅ bo b1 ex2 sC eC fC;exists _,_,_,rfl,sx.trans (xB.trans xC),SC.mono () (λx y _ _=>rfl) (λ_ _=>rfl)
   .rintro σ HA ⟨M,z10,z12,rfl,sx,SA⟩;obtain⟨zr,er,fr2⟩:=SA.r;have fz:=SX.seqT S9.lsts sx (s69.fq fz);have lz:zr.length=W:=by rw[fr2.length,SA.l.w]
    have SB:=(SA.mono (n':=124*i+1+124) (by show 124*i+1+62*2<=_;lia) (λx y _ _=>rfl) (λ_ _=>rfl)).setR cW er fr2 fz p2 (bp.mono ());exists _,rfl,_,rfl,_,rfl,R,zr,_,c,rfl,rfl,er,mY (),?_;exists _,rfl,_,_,rfl,rfl,?_;exists M,_,_,_,_,_,_,_,_,rfl,SB.mono () (λx y _ _=>by rw[eM];exact qi0 v x y) (λx _=>?_);rw[eR];show _=u x+(if c=x then Mq.val p else 0)
    split
    .rw[far0 x ()];grind
    .exact(Rat.add_zero _).symm
 rintro σ H6 ⟨M,rs,z6,z7,z8,z9,z10,z11,z12,rfl,S6⟩;rw[lxs,take_length] at S6;obtain⟨ys,eR,FR⟩:=S6.r;have mx:=S6.m;have lM:=S6.e.l;exists _,rfl,1,rfl,D,_,rfl,SqL.of mx.d,λC hC=>?_;rw[Aj];obtain⟨H7,zq,s7,e7⟩:=nw hC (.lst ((as.map V.ref).drop 1));rw[zq];have mx7:=mx.same s7;exists C,rfl,⟨_,SqL.of e7⟩,λP hP=>?_;refine Dz mx7 e7 hP () λus H8 s8 e8 fm nP=>?_;have s78:=s7.trans s8;have eR8:=s78 _ _ eR;exists _,rfl,1,rfl,R,_,rfl,SqL.of eR8,λr hr'=>?_;rw[Aj];obtain⟨H9,zq,s9,e9⟩:=nw hr' (.lst (ys.drop 1));rw[zq];exists zl9 2,λt ht=>?_;have sT:=aG ht (.tup [.ref P,.ref r]);have s9T:=s9.trans sT;have s0:aX H (upd H9 t (.tup [.ref P,.ref r])):=s12.trans (S6.s.trans (s78.trans s9T));refine q t P r us (ys.drop 1) ((M.drop 1).map (List.drop 1)) (rs.drop 1) _ s0 (SqT.of aB) (SqL.of (s9T _ _ e8)) (SqL.of (sT _ _ e9)) ⟨fm.l,λi x ps h1 h2=>?_⟩ (Fqs.drop1 (FR.same (s78.trans s9T))) ?_
 .obtain⟨a',xs',q1,q2,q3,q4⟩:=fm.r i x ps h1 h2;exists a',xs',q1,s9T _ _ q3,q4.same s9T
 have w1:W - 1=m - 1+bZ ds:=by lia
 have dr:∀{row:List Q2},LnR row W (124*ds.length+1)->LnR (row.drop 1) (m - 1+bZ ds) (124*ds.length+1):=λh=>⟨by rw[length_drop,h.w,w1],λp hp=>h.l p (mem_of_mem_drop hp)⟩
 exists by rw[length_map,length_drop,lM,w1],λrow hr=>?_,dr S6.l,λi j hi hj=>?_,λi hi=>?_
 .obtain⟨row',h',rfl⟩:=mem_map.mp hr;exact dr (S6.e.r _ (mem_of_mem_drop h'))
 .rw[zX];exact S6.e.v _ _ () ()
 .rw[qH];exact S6.u _ ()
theorem Y81:DZ 4 Z.f81 Z.d81 ["_law_heights","_law_streams","_law_many","_law_rows_here"] (qe9 Z.K) "_law_walked":=by
 exists ?_,F81.b4 _ _ _ _ (by intros;rfl),F81.kp,m81
 refine F81.ok9 xE λ_ _ _ s H _ Q E hr h=>?_;obtain⟨a,b,r,xs,ys,us,m,ds,lv,fl,rfl,hx,fx,hy,fy,hS,hR,hK,FL,bl,bf,m1',m4,h20,q⟩:=h;have hu:=hr.units;have r1:=hr.mono (show 1<=3 by lia);have r2:=hr;refine⟨_,(aC (cD (PW.pt (gP (dU (cT (d9 Y69 r2 rfl (aA (pv 0) (aA (pv 2) aD))))) (gP (dU (cT (d9 Y69 r2 rfl (aA (pv 1) (aA (cB bV rfl n_len PySem.boot_len (aA (pv 3) aD)) aD))))) (gS (bK (wS hu) (aK bX (pv 0) aE) (dA (aA aE (aA aE aD))) (bM _)))))) (aF (aW fD)) bQ)
  (aC (qQ1 (i:=4) xE.nd (bC sZ (dZ (aA (dA (aA aE (aA aE aD))) aD)) (pv 2)))
  (aC (eO PassesOwn.never rfl (Db rfl n_zip rfl (aA (pv 3) (aA (pv 1) aD))) (fP rfl (bO (qQ0 (i:=5) xE.nd) (bO (qQ0 (i:=6) xE.nd) eJ)))
   (aC (jD (pv 5) (fP rfl (bO (qQ0 (i:=7) xE.nd) (bO (qQ0 (i:=8) xE.nd) (bO (qQ0 (i:=9) xE.nd) (bO (qQ0 (i:=10) xE.nd) eJ))))))
  (aC (qQ1 (i:=11) xE.nd (dZ (aA (aK bX (pv 0) (pv 8)) (aA (dA (aA (bC jC aE (aK aY (aK bX (pv 0) (pv 9)) aE)) (aA (aK aY (aK bX (pv 0) (pv 9)) aE) aD))) aD))))
  (aC (qQ1 (i:=12) xE.nd (pv 10))
  (aC (cD (bK dY (pv 7) cL (bM _)) (aF (qQ1 (i:=12) xE.nd (dA (aA (bC cP (aK aY (pv 6) aE) (aK aY (pv 10) aE)) (aA (bC cP (aK aY (pv 6) aE) (aK aY (pv 10) aE)) aD))))) bQ)
  (aC (cD (PW.pt (gP (PW.pt (kY (bK dY (pv 7) cL (bM _)) (jI (bK (wS hu) (pv 6) (pv 10) (bM _))))) (gS (PW.pt (kY (bK jL (pv 7) cL (bM _)) (jI (dU (cT (d9 Y70 r1 rfl (aA (pv 11) (aA (bC sZ (dZ (aA (dA (aA aE (aA aE aD))) aD)) aE) (aA (pv 12) aD)))))))))))) (aF (aW fD)) bQ)
  (aC (cC (d9 Y78 r1 rfl (aA (pv 4) (aA (pv 8) (aA (aK aY (pv 6) aE) (aA (aK aY (pv 6) aE) aD))))))
  (aF (cC (d9 Y78 r1 rfl (aA (pv 4) (aA (pv 9) (aA (bC jC aE (aK aY (pv 6) aE)) (aA (aK aY (pv 6) aE) aD))))))))))))))
  (aF (aW (cB (rQ rfl) rfl n_all PyProof.Rows.boot_all (aA (dD (nl:=1) (fr:=[]) (Nc:=["_law_one"]) (cl:=[]) rfl ⟨rfl,rfl,∅,∅,λx c h=>(by cases h),dI rfl,rfl,λi n h=>(by simp at h)⟩
    (cG (pv 4)) (λ_ _ _ _ _=>(qQ0 (i:=0) Ht)) (λ_ _ _ _ _=>dC)
    (λ_ _ _ _ _=>(fU dY (aK (kM (K:=Z.K) rfl) (pv 0) aE) aE (bM _)))) aD))))))),?_⟩
 have lxs:=fx.length;have lys:=fy.length;have lus:=hR.length;have f0:=FL.l0;have ll:=FL.lnl;have lf:=FL.lnf;refine rK (λσ' H'=>aX H H'/\σ'=[some (.ref a),some (.ref b),some (.int (m:Int)),some (.ref r),none,none,none,none,none,none,none,none,none]) (λX hX=>?_) ?_
 .exists _,rfl,_,rfl,a,xs,lv,by rw[ll];rfl,hx,fx,FL.ll,(),λH1 s1=>⟨_,rfl,dE ?_⟩;exists _,rfl,_,rfl,r,_,rfl,.inl (s1.seq hS),b,ys,fl,by rw[lus,lf];rfl,s1.seq hy,fy.same s1,FL.fa,(),λH2 s2=>⟨_,rfl,dE ?_⟩;have s12:=s1.trans s2;obtain⟨u0,eu0,fu0⟩:=(fx.same s12).at (sK (show 0 < lv.length by lia));exists _,rfl,a,xs,(0:Int),_,rfl,rfl,s12.seq hx,cA (j:=0) eu0,zl9 2,λt0 ht0=>?_;obtain⟨H3,zq,s3,e3⟩:=nw ht0 (.tup [.int 0,.int 1]);rw[zq];rw[f0] at fu0;refine Iq (neg:=true) (s3.fq fu0) (Fq.of e3:Fq Z.K H3 t0 (0,1)) ⟨_,rfl,dE ?_⟩;exact hX _ _ ⟨s12.trans s3,rfl⟩
 rintro σ1 H1 ⟨s1,rfl⟩;exists zl9 2,λt0 ht0=>?_;obtain⟨H2,zq,s2,e2⟩:=nw ht0 (.tup [.int 0,.int 1]);rw[zq];exists zl9 1,λl1 hl1=>?_;obtain⟨H3,zq,s3,e3⟩:=nw hl1 (.lst [.ref t0]);rw[zq];exists _,rfl,l1,(m:Int),[.ref t0],rfl,rfl,e3,(),(),?_,λo ho=>?_
 .rw[sizeLine_eq];simp only[length_cons,length_nil];lia
 rw[Int.toNat_natCast,lK];obtain⟨H4,zq,s4,e4⟩:=nw ho (.lst (replicate m (.ref t0)));rw[zq];have F4:Fqs Z.K H4 (replicate m (.ref t0)) (replicate m (0,1)):=mD ((s3.trans s4).fq (Fq.of e2:Fq Z.K H2 t0 (0,1))) m;have o0:H o=none:=(s1.trans (s2.trans s3)).free ho;have s04:=s1.trans (s2.trans (s3.trans s4));exists _,rfl,_,rfl,r,b,rfl,⟨_,s04.seq hS⟩,⟨_,s04.seq hy⟩,?_;refine Kn (xs:=us) (ys:=ys) (λi σ H'=>aX H H'/\∃(zs:wk) (os:List Q2) (z5 z6 z7 z8 z9 z10 z11 z12:Option V),σ=[some (.ref a),some (.ref b),some (.int (m:Int)),some (.ref r),some (.ref o),z5,z6,z7,z8,z9,z10,z11,z12]/\H' o=some (.lst zs)/\Fqs Z.K H' zs os/\LnR os m (16002*i+1)/\∀x,x < m->Mq.val (os.getD x (0,1))=ouR x ((ds.zip fl).take i)) ⟨s04,_,_,none,none,none,none,none,none,none,none,rfl,e4,F4,⟨length_replicate,λp hp=>by rw[eq_of_mem_replicate hp];exact⟨∅,⟨show (0:Nat) < 2 ^ 1 by decide,show (1:Nat) < 2 ^ 1 by decide⟩⟩⟩,λx _=>by rw[pF,rM];rfl⟩ (λi σ H' _ h=>⟨h.1.seq hS,h.1.seq hy⟩) ?_ ?_
 .rintro i x y σ H5 T1 ex ey ⟨s5,zs,os,z5,z6,z7,z8,z9,z10,z11,z12,rfl,eo,Fo,lo,vo⟩ hT;have hi:i < ds.length:=by have:=(wq.mp ex).1;lia
  obtain⟨⟨kd,u',v',p⟩,hd⟩:∃d,ds[i]?=some d:=⟨_,getElem?_eq_getElem hi⟩
  obtain⟨t,z,et,ht,fz0⟩:=hR.at hd;have ex':x=.ref t:=by rw[et] at ex;exact(Option.some.inj ex).symm
  subst ex';obtain⟨q1,eq⟩:∃q,fl[i]?=some q:=⟨_,getElem?_eq_getElem ()⟩
  obtain⟨w,ew,fw0⟩:=fy.at eq;have ey':y=.ref w:=by rw[ew] at ey;exact(Option.some.inj ey).symm
  subst ey';have ql:=FL.fa _ (mem_of_getElem? eq);have qb:=bf _ (mem_of_getElem? eq);obtain⟨rd,bp⟩:=hK _ (mem_of_getElem? hd);obtain⟨c1,c2,c3⟩:=FL.row i _ q1 hd eq;obtain⟨i0,i1,j0,j1,lp,pp,_⟩:=rd;obtain⟨s',rfl⟩:∃s:Nat,u'=(s:Int):=⟨u'.toNat,by have:0<=u':=i0;lia⟩
  obtain⟨g,rfl⟩:∃g:Nat,v'=(g:Int):=⟨v'.toNat,by have:0<=v':=j0;lia⟩
  have sm:s' < m:=by have:(s':Int) < (m:Int):=i1;lia
  have gm:g < m:=by have:(g:Int) < (m:Int):=j1;lia
  have lp:Low p:=lp;have bp:Bd 30 p:=bp;have c1:kd=.pc->Mq.val q1*Mq.val p=Mq.val (lv.getD s' (0,1)) - Mq.val (lv.getD g (0,1)):=c1;have c2:kd=.pu->q1=p:=c2;have c3:kd=.ho->Mq.val p=Mq.val (lv.getD s' (0,1)) - Mq.val (lv.getD g (0,1)):=c3;have ep:(ds.zip fl).take (i+1)=(ds.zip fl).take i++[((kd,(s':Int),(g:Int),p),q1)]:=by
   rw[take_add_one,(getElem?_zip_eq_some (z:=((kd,(s':Int),(g:Int),p),q1))).mpr ⟨hd,eq⟩];rfl
  have sT:=aG hT (.tup [.ref t,.ref w]);exists T1,_,rfl,SqT.of aB,rfl,_,_,rfl,_,_,rfl,rfl,?_;have eo:=sT _ _ eo;have Fo:=Fo.same sT;have s6:=s5.trans sT;generalize upd H5 T1 (.tup [.ref t,.ref w])=H6 at eo Fo s6 ⊢;obtain⟨vs_,evs,fvs⟩:=(fx.same s6).at (jS (show s' < lv.length by lia));obtain⟨vg,evg,fvg⟩:=(fx.same s6).at (jS (show g < lv.length by lia));have hs:=FL.ll _ (mem_of_getElem? (jS (show s' < lv.length by lia)));have hg:=FL.ll _ (mem_of_getElem? (jS (show g < lv.length by lia)));have bs:=bl _ (mem_of_getElem? (jS (show s' < lv.length by lia)));have bg:=bl _ (mem_of_getElem? (jS (show g < lv.length by lia)));generalize lv.getD s' (0,1)=P1 at c1 c3 fvs hs bs;generalize lv.getD g (0,1)=P2 at c1 c3 fvg hg bg;dsimp only;refine qq8 (λσ' H'=>aX H6 H'/\∃(e f:Addr) (es:wk) (pf:Q2),H' e=some (.lst es)/\Fqs Z.K H' es [P1,(0 - P2.1,P2.2)]/\Fq Z.K H' f pf/\1<=pf.2/\Bd 8030 pf/\(kd≠.pu->Mq.val P1 - Mq.val P2=Mq.val pf)/\σ'=[some (.ref a),some (.ref b),some (.int (m:Int)),some (.ref r),some (.ref o),some (.ref t),some (.ref w),some (.str kd.wd),some (.int (s':Int)),some (.int (g:Int)),some (.ref z),some (.ref e),some (.ref f)]) (λX hX=>?_) ?_
  .exists _,rfl,t,_,rfl,s6.seqT ht,rfl,_,_,rfl,_,_,rfl,_,_,rfl,_,_,rfl,rfl,?_;dsimp only;exists _,rfl,_,rfl,a,xs,_,_,rfl,rfl,s6.seq hx,cA evs,_,rfl,_,rfl,a,xs,_,_,rfl,rfl,s6.seq hx,cA evg,vg,_,_,_,rfl,rfl,fvg,rfl,_,_,rfl,rfl,?_;exists _,rfl,_,rfl,a,xs,_,_,rfl,rfl,s6.seq hx,cA evg,vg,_,_,_,rfl,rfl,fvg,rfl,zl9 2,λt2 ht2=>?_;obtain⟨H7,zq,s7,e7⟩:=nw ht2 (.tup [.int (0 - P2.1),.int P2.2]);rw[zq];exists zl9 2,λe he=>?_;obtain⟨H8,zq,s8,e8⟩:=nw he (.lst [.ref vs_,.ref t2]);rw[zq];have s68:=s7.trans s8;have FE:Fqs Z.K H8 [.ref vs_,.ref t2] [P1,(0 - P2.1,P2.2)]:=.cons (s68.fq fvs) (.cons (s8.fq (Fq.of e7)) .nil);have s08:=s6.trans s68;exists _,rfl,?_;have ee:H8 e=some (.lst [.ref vs_,.ref t2]):=e8
   .by_cases hk:kd=.pc
    .exists _,rfl,rfl,_,rfl,L2.ifT (zzT kd .pc hk) ?_;have fw:=s08.fq fw0;have fz:=s08.fq fz0;refine eI rfl fw (eI rfl fz (cQ qb.a bp.a () () (cU rfl fw (cU rfl fz (cQ qb.b bp.b () () ⟨zl9 2,λf hf=>?_⟩)))));obtain⟨H9,zq,s9,e9⟩:=nw hf (.tup [.int (q1.1*p.1),.int (q1.2*p.2)]);rw[zq];have pos:0 < q1.2*p.2:=Int.mul_pos (by have:=ql.pos;lia) (by have:=lp.pos;lia);refine hX _ _ ⟨s68.trans s9,e,f,_,(q1.1*p.1,q1.2*p.2),s9 _ _ ee,FE.same s9,Fq.of e9,by show 1<=q1.2*p.2;lia,⟨(qb.a.mul bp.a).mono (),(qb.b.mul bp.b).mono ()⟩,λ_=>?_,rfl⟩;rw[<- c1 hk];unfold Mq.val;show _=((q1.1*p.1:Int):Rat) / ((q1.2*p.2:Int):Rat);have n1:(q1.2:Rat)≠0:=by exact_mod_cast (show q1.2≠0 by have:=ql.pos;lia)
     have n2:(p.2:Rat)≠0:=by exact_mod_cast (show p.2≠0 by have:=lp.pos;lia)
     rw[Rat.intCast_mul,Rat.intCast_mul];grind
    .exists _,rfl,rfl,_,rfl,L2.ifF (zzF kd .pc hk) ?_;refine hX _ _ ⟨s68,e,z,_,p,ee,FE,s08.fq fz0,lp.pos,bp.mono (),λh=>?_,rfl⟩
     cases kd with
     |pc=>exact absurd rfl hk
     |pu=>exact absurd rfl h
     |ho=>exact(c3 rfl).symm
  rintro σ' H9 ⟨s9,e,f,es,pf,ee,FE,ff,f1,bpf,vf,rfl⟩;have eo:=s9 _ _ eo;have Fo:=Fo.same s9;have s09:=s6.trans s9;refine rK (λσ' H'=>aX H9 H'/\σ'=[some (.ref a),some (.ref b),some (.int (m:Int)),some (.ref r),some (.ref o),some (.ref t),some (.ref w),some (.str kd.wd),some (.int (s':Int)),some (.int (g:Int)),some (.ref z),some (.ref e),some (.ref f)]) (λX hX=>?_) ?_
  .by_cases hk:kd=.pu
   .have eqd:decide (V.str kd.wd=V.str Kd.pu.wd)=true:=by rw[dM];exact decide_eq_true hk
    have q2:=c2 hk;exists _,rfl,rfl,_,rfl,L2.ifT eqd ?_;exists _,rfl,_,rfl,Iq (neg:=true) (s09.fq fw0) (s09.fq fz0) ⟨_,rfl,?_⟩;rw[q2,decide_eq_true rfl];refine dE ⟨_,rfl,rfl,_,rfl,L2.ifF (by show (!decide (V.str kd.wd=V.str Kd.pu.wd))=false;rw[eqd];rfl) (dE ?_)⟩;exact hX _ _ ⟨aX.refl _,rfl⟩
   .have eqd:decide (V.str kd.wd=V.str Kd.pu.wd)=false:=by rw[dM];exact decide_eq_false hk
    exists _,rfl,rfl,_,rfl,L2.ifF eqd (dE ?_);exists _,rfl,rfl,_,rfl,L2.ifT (by show (!decide (V.str kd.wd=V.str Kd.pu.wd))=true;rw[eqd];rfl) ?_;exists _,rfl,zl9 2,λt3 ht3=>?_;obtain⟨HA,zq,sA,eA⟩:=nw ht3 (.tup [.int 1,.int 1]);rw[zq];exists zl9 1,λl3 hl3=>?_;obtain⟨HB,zq,sB,eB⟩:=nw hl3 (.lst [.ref t3]);rw[zq];exists l3,2,[.ref t3],rfl,rfl,eB,(),(),?_,λl4 hl4=>?_
    .rw[sizeLine_eq];simp only[length_cons,length_nil];lia
    have e2:(replicate (Int.toNat 2) [V.ref t3]).flatten=[.ref t3,.ref t3]:=rfl;rw[e2];obtain⟨HC,zq,sC,eC⟩:=nw hl4 (.lst [.ref t3,.ref t3]);rw[zq];have sAC:=sA.trans (sB.trans sC);have F3:Fq Z.K HC t3 (1,1):=(sB.trans sC).fq (Fq.of eA);have b11:Bd 1 ((1,1):Q2):=⟨show (1:Nat) < 2 ^ 1 by decide,show (1:Nat) < 2 ^ 1 by decide⟩
    exists _,rfl,e,l4,f,es,_,[P1,(0 - P2.1,P2.2)],[(1,1),(1,1)],pf,3900,1,rfl,SqL.of (sAC _ _ ee),FE.same sAC,SqL.of eC,.cons F3 (.cons F3 .nil),sAC.fq ff,λx hx=>?_,λx hx=>?_,bpf.mono (),(show 2<=10 by decide),(),(),rfl,Ph hs.pos hg.pos f1 (vf hk),λH' sD=>⟨_,rfl,dE ?_⟩
    .rcases mem_cons.mp hx with z | z
     .rw[z];exact bs
     .rw[mem_singleton.mp z];exists Ex bg.a,bg.b
    .rcases mem_cons.mp hx with z | z
     .rw[z];exact b11
     .rw[mem_singleton.mp z];exact b11
    .exact hX _ _ ⟨sAC.trans sD,rfl⟩
  rintro σ' H10 ⟨s10,rfl⟩;have eo:=s10 _ _ eo;have Fo:=Fo.same s10;have s010:=s09.trans s10;have fw:=s010.fq fw0;have ni:16002*i+1+8000<=1000000:=by lia
  exists _,rfl,_,rfl,eI rfl fw (cU rfl fw ?_);exists o,s',q1.1,q1.2,zs,os,_,8000,rfl,eo,Fo,by rw[lo.w];exact sm,(lo.at sm).2.2,qb.a,qb.b,(),λzs1 HA sA eA FA=>?_;obtain⟨loA,voA⟩:=Dm lo sm ql.pos qb.a qb.b;have lsO:∀{H':Hp} {xs:wk},H' o=some (.lst xs)->Di [o] H':=λh b hb=>by
   rw[mem_singleton.mp hb];exists _,h
  have fw:=SX.seqT (lsO eo) sA fw;exists _,rfl,_,rfl,eI rfl fw ⟨_,_,rfl,rfl,cU rfl fw ?_⟩;exists o,g,0 - q1.1,q1.2,zs1,_,_,8000,rfl,eA,FA,by rw[loA.w];exact gm,(loA.at gm).2.2,Ex qb.a,qb.b,(),λzs2 HB sB eB FB=>?_;obtain⟨loB,voB⟩:=Dm loA gm ql.pos (Ex qb.a) qb.b;exists SX.same s010 (sA.trans sB) (λc hc=>by rw[mem_singleton.mp hc];exact o0),zs2,_,_,_,_,_,_,_,_,_,rfl,eB,FB,loB.mono (),λx hx=>?_;rw[voB,voA,vo x hx,ep,Mm];show _=_+(dl s' g x*Mq.val q1+0)
  have e2:((0 - q1.1:Int):Rat) / (q1.2:Rat)=- Mq.val q1:=by unfold Mq.val;rw[Rat.intCast_sub];grind
  rw[e2];show (_+if s'=x then Mq.val q1 else 0)+_=_;unfold dl
  by_cases a:s'=x<;>by_cases b:g=x<;>simp only[a,b,if_true,if_false]<;>grind
 .rintro σ H5 ⟨s5,zs,os,z5,z6,z7,z8,z9,z10,z11,z12,rfl,eo,Fo,lo,vo⟩;rw[show min us.length ys.length=(ds.zip fl).length by rw[length_zip];lia,take_length] at vo;have z0:∀x,x < m->(os.getD x (0,1)).1=0:=λx hx=>by
   have:=vo x hx;rw[FL.net x hx] at this;have p1:=(lo.at hx).2.1;unfold Mq.val at this;have n1:((os.getD x (0,1)).2:Rat)≠0:=by exact_mod_cast (show (os.getD x (0,1)).2≠0 by lia)
   have:((os.getD x (0,1)).1:Rat)=0:=by grind
   exact_mod_cast this
  have lzs:=Fo.length;have los:=lo.w;exists _,rfl,o,rfl,⟨_,SqL.of eo⟩,λD hD=>?_;refine clS hD (xs:=zs) (λk us' H'=>us'=(replicate k true).map V.bl) rfl (λ_ h=>h.seq (SqL.of eo)) ?_ ?_
  .rintro k us' x H6 hx ⟨s6,e6,rfl⟩ C hC;have hk:k < m:=by have:=(wq.mp hx).1;lia
   obtain⟨u,eu,fu⟩:=(Fo.same s6).at (jS (show k < os.length by lia));have ex:x=.ref u:=by rw[eu] at hx;exact(Option.some.inj hx).symm
   subst ex;exists cZ.1,cZ.2,eY ?_;refine eI rfl fu ⟨rfl,?_⟩;rw[z0 k hk];exists e6,bH (by rw[length_map,length_replicate];lia),hC _ _ ⟨s6.change hD,aB,?_⟩;rw[replicate_succ',map_append];rfl
  .rintro us' H6 ⟨s6,e6,rfl⟩;exists D,_,rfl,SqL.of e6,?_;rw[show (replicate zs.length true).all id=true by simp];exact q H6 (s5.trans s6)
theorem Y82:DZ 4 Z.f82 Z.d82 ["_law_paper","_law_unknown","_law_many","_law_rows_here"] (qi4 Z.K) "_law_papered":=by
 exists ?_,F82.b4 _ _ _ _ (by intros;rfl),F82.kp,m82
 refine F82.ok9 Re λcdv A outer s H vs Q E hr h=>?_;obtain⟨a,u,r,zs,ys,us,m,ds,M,un,w,rfl,hA,hL,hP,hb,hU,FU,lU,aU,bU,sv,vU,w10,hS,hR,hK,m1',m4,h20,q⟩:=h;have r1:=hr.mono (show 1<=3 by lia);have r2:=hr.mono (show 2<=3 by lia);refine⟨_,(aC (jD (d9 Y80 r2 rfl (aA (pv 2) (aA (pv 3) aD))) (fP rfl (bO (qQ0 (i:=4) Re.nd) (bO (qQ0 (i:=5) Re.nd) eJ))))
  (aC (cD (PW.pt (gP (dU (cT (gL (i:=0) rfl (Or.inl rfl) bl.isi n_list rfl rfl PyProof.Rows.boot_list))) (gS (bK jL (cB bV rfl n_len PySem.boot_len (aA (pv 0) aD)) (cB bV rfl n_len PySem.boot_len (aA (pv 5) aD)) (bM _))))) (aF (aW fD)) bQ)
  (aC (eO PassesOwn.never rfl (fA rfl n_range (aA (cB bV rfl n_len PySem.boot_len (aA (pv 5) aD)) aD)) (qQ0 (i:=6) Re.nd)
   (aC (cD (PW.pt (gP (dU (cT (d9 Y69 hr rfl (aA (aK bX (pv 0) (pv 6)) (aA (cB bV rfl n_len PySem.boot_len (aA (pv 5) aD)) aD))))) (gS (dU (cT (d9 Y70 r1 rfl (aA (aK bX (pv 0) (pv 6)) (aA (pv 5) (aA (aK bX (pv 1) (pv 6)) aD))))))))) (aF (aW fD)) bQ)
  (aF (eO PassesOwn.never rfl (fA rfl n_range (aA (cB bV rfl n_len PySem.boot_len (aA (pv 5) aD)) aD)) (aM (i:=7) Re.nd rfl (Or.inr rfl))
   (aF (cD (dU (cT (d9 Y70 r1 rfl (aA (aK bX (pv 0) (pv 6)) (aA (dD (nl:=1) (fr:=[7]) (Nc:=["_law_row","_law_j"]) (cl:=[("_law_j",s.heap.objs.size+1)]) rfl ⟨rfl,rfl,∅,∅,λx c h=>h,dI rfl,rfl,λi n h=>match i,h with | 0,h=>by cases h;exact⟨7,rfl,rfl,rfl,rfl,.inl rfl⟩ | k+1,h=>by rw[show 1+(k+1)=k+2 by lia] at h;cases h⟩
    (cG (pv 4)) (λ_ _ _ _ _=>(qQ0 (i:=0) Rz)) (λ_ _ _ _ _=>dC)
    (λ_ _ _ _ _=>(aK (iU (K:=Z.K) rfl) (pv 0) (pv 1)))) (aA (dA (aA (iA Os rfl bl.int PyProof.Rows.boot_int (aA (fU dY (pv 7) (pv 6) (bM _)) aD)) (aA aE aD))) aD)))))) (aF (aW fD)) bQ))))))
  (aF (aW fD))))),?_⟩
 have lzs:=hL.l;have lM:=hP.len;exists _,rfl,_,rfl,r,us,m,ds,rfl,hS,hR,hK,m1',m4,h20,λtt p y us1 ys1 X Y H1 s1 ht hp hy1 LX FY ok=>?_;exists tt,_,rfl,ht,rfl,_,_,rfl,_,_,rfl,rfl,?_;dsimp only;obtain⟨W,hW⟩:∃W,W=wd m ds:=⟨_,rfl⟩
 have lX:=ok.l;have lY:=ok.y.w;have lus1:=LX.l;have lys1:=FY.length;have lys:=FU.length;rw[<- hW] at lM lU w10;have lX:X.length=W:=by rw[lX,hW]
 have lY:Y.length=W:=by rw[lY,hW]
 refine rK (λσ' H'=>aX H1 H'/\σ'=[some (.ref a),some (.ref u),some (.int (m:Int)),some (.ref r),some (.ref p),some (.ref y),none,none]) (λX hX=>?_) ?_
 .exists _,_,true,rfl,.lst (s1.seq hA),rfl,_,rfl,dE ⟨_,rfl,a,_,rfl,.inl (s1.seq hA),_,rfl,y,_,rfl,.inl hy1,rfl,_,rfl,?_⟩;refine L2.ifF (by rw[show zs.length=ys1.length by lia];simp) ?_;exact hX _ _ ⟨aX.refl _,rfl⟩
 rintro σ2 H2 ⟨s2,rfl⟩;have s02:=s1.trans s2;have hp:=s2.seq hp;have hy1:=s2.seq hy1;have LX:=LX.same s2;have FY:=FY.same s2;have Ypos:Mq.Pos Y:=λq hq=>(ok.y.l q hq).1;have Ybd:∀q∈Y,Bd (124*ds.length+1) q:=λq hq=>(ok.y.l q hq).2;refine rK (λσ' H'=>aX H2 H'/\∃z6 z7,σ'=[some (.ref a),some (.ref u),some (.int (m:Int)),some (.ref r),some (.ref p),some (.ref y),z6,z7]) (λX' hX=>?_) ?_
 .exists _,rfl,y,_,rfl,.inl hy1,(W:Int),by rw[lys1,lY],(),(),?_;rw[Int.toNat_natCast];refine mC (lo:=0) (n:=W) (λi σ H'=>aX H2 H'/\∃z6 z7,σ=[some (.ref a),some (.ref u),some (.int (m:Int)),some (.ref r),some (.ref p),some (.ref y),z6,z7]) ⟨aX.refl _,none,none,rfl⟩ ?_ ?_
  .rintro k σ H3 hk ⟨s3,z6,z7,rfl⟩;rw[Int.zero_add];have s03:=s02.trans s3;obtain⟨c,ws,ez,hc,fc⟩:∃(c:Addr) (ws:wk),zs[k]?=some (.ref c)/\H c=some (.lst ws)/\Fqs Z.K H ws (M.getD k []):=by
    obtain⟨x,hx⟩:∃x,zs[k]?=some x:=⟨_,getElem?_eq_getElem ()⟩
    obtain⟨c,ws,e1,e2,e3⟩:=hL.r k x _ hx (Kr (l:=M) (i:=k) () []);exists c,ws,by rw[hx,e1],e2,e3
   have n_range:=mem_of_getElem? (Kr (l:=M) (i:=k) () []);obtain⟨lr,ar⟩:=hP.row _ n_range;have br:=hb _ n_range;rw[<- hW] at lr;have Rpos:Mq.Pos (M.getD k []):=λq hq=>(ar q hq).pos;obtain⟨vu,eu,fu⟩:=FU.at (sK (show k < un.length by lia));have ul:=aU _ (mem_of_getElem? (sK (show k < un.length by lia)));have ub:=bU _ (mem_of_getElem? (sK (show k < un.length by lia)));have eq1:=Nu hP ok sv (k:=k) ();have inv:=λx=>hP.inv k x ();have vk:=vU k ();generalize M.getD k []=row at *
   generalize un.getD k Mq.z0=uk at *
   exists _,rfl,_,rfl,a,zs,_,_,rfl,rfl,s03.seq hA,cA ez,_,rfl,y,_,rfl,.inl (s3.seq hy1),c,ws,row,by rw[lys1,lY,lr];rfl,SqL.of (s03 _ _ hc),fc.same s03,ar,(),λH4 s4=>⟨_,rfl,dE ?_⟩;have s24:=s3.trans s4;have s04:=s02.trans s24;exists _,rfl,_,rfl,a,zs,_,_,rfl,rfl,s04.seq hA,cA ez,_,rfl,_,rfl,_,rfl,u,ys,_,_,rfl,rfl,s04.seq hU,cA eu,?_;exists c,y,vu,ws,ys1,row,Y,uk,9000,124*ds.length+1,rfl,SqL.of (s04 _ _ hc),fc.same s04,s24.seq hy1,FY.same s24,s04.fq fu,br,Ybd,ub,(),(),(),(),yI Rpos Ypos () ul (by rw[lr,hW,eq1,vk]),λH5 s5=>⟨_,rfl,dE ?_⟩;have s25:=s24.trans s5;have s05:=s02.trans s25;exists _,rfl,y,_,rfl,.inl (s25.seq hy1),(W:Int),by rw[lys1,lY],(),(),?_;rw[Int.toNat_natCast];refine mC (lo:=0) (n:=W) (λi σ H'=>aX H2 H'/\∃z7,σ=[some (.ref a),some (.ref u),some (.int (m:Int)),some (.ref r),some (.ref p),some (.ref y),some (.int (k:Int)),z7]) ⟨s25,z7,rfl⟩ ?_ ?_
   .rintro j σ H6 hj ⟨s6,z7,rfl⟩;rw[Int.zero_add];have s06:=s02.trans s6;exists _,rfl,_,rfl,a,zs,_,_,rfl,rfl,s06.seq hA,cA ez,_,rfl,p,rfl,⟨_,s6.seq hp⟩,λD hD=>?_;refine clS hD (xs:=us1) (λi vs H'=>Fqs Z.K H' vs ((X.take i).map λr=>r.getD j Mq.z0)) .nil (λ_ h=>(s6.trans h).seq hp) ?_ ?_
    .rintro i vs x H7 hx ⟨s7,e7,F7⟩ C hC;have hi:i < X.length:=by have:=(wq.mp hx).1;lia
     have xi:=Kr (l:=X) (i:=i) hi [];obtain⟨cx,wx,rfl,hcx,fcx⟩:=(LX.same (s6.trans s7)).r i x _ hx xi;have lr1:=(ok.r _ (mem_of_getElem? xi)).w;rw[<- show W=m - 1+bZ ds from hW] at lr1;obtain⟨v,ev,fv⟩:=fcx.at (sK (show j < (X.getD i []).length by lia));have l7:=F7.length;rw[length_map,length_take] at l7;exists cZ.1,cZ.2,eY ?_;exists _,rfl,_,rfl,cx,wx,_,_,rfl,rfl,SqL.of hcx,cA ev,?_;exists e7,bH (),hC _ _ ⟨s7.change hD,aB,?_⟩;rw[take_add_one,xi,map_append];exact(F7.app (.cons fv .nil)).upd e7
    .rintro vs H7 ⟨s7,e7,F7⟩;rw[lus1,take_length] at F7;exists _,rfl,_,rfl,rfl,.inr ⟨_,rfl,zl9 2,λt2 ht2=>?_⟩;obtain⟨dd,ed⟩:∃dd:Int,dd=(if decide (V.int (j:Int)=V.int (k:Int)) then 1 else 0):=⟨_,rfl⟩
     have dv:(dd:Rat)=if k=j then 1 else 0:=by
      rw[ed]
      by_cases c:k=j
      .rw[if_pos c,if_pos (decide_eq_true (by rw[c]))];rfl
      .rw[if_neg c,if_neg (λz=>c (by have:=of_decide_eq_true z;injection this with this;lia))];rfl
     have d01:dd=0\/dd=1:=by rw[ed];split<;>lia
     rw[<- ed];obtain⟨H8,zq,s8,e8⟩:=nw ht2 (.tup [.int dd,.int 1]);rw[zq];have e8:Fq Z.K H8 t2 (dd,1):=Fq.of e8;have s68:=s7.trans s8;have s08:=s06.trans s68;have lq:Low (dd,1):=by rcases d01 with z | z<;>rw[z]<;>exact⟨∅,∅⟩
     have bq:Bd 9000 (dd,1):=(show Bd 1 (dd,1) from ⟨show dd.natAbs < 2 ^ 1 by lia,show (1:Nat) < 2 ^ 1 by decide⟩).mono ();have cm:∀q∈X.map (λr=>r.getD j Mq.z0),1<=q.2/\Bd (124*ds.length+1) q:=λq hq=>by
      obtain⟨r',hr',rfl⟩:=mem_map.mp hq;have:=(ok.r r' hr').at (j:=j) (by rw[<- show W=m - 1+bZ ds from hW];exact hj);exists this.2.1,this.2.2
     have cv:(Mq.rs row.length λi=>Mq.val (row.getD i Mq.z0)*Mq.val ((X.map (λr=>r.getD j Mq.z0)).getD i Mq.z0))=Mq.val (dd,1):=by
      rw[lr,hW];have:=inv j ();rw[show Mq.val (dd,1)=if k=j then 1 else 0 by rw[<- dv];unfold Mq.val;show (dd:Rat) / ((1:Int):Rat)=_;rw[show ((1:Int):Rat)=1 from rfl];grind,<- this];refine aR λi hi=>?_;have iX:i < X.length:=by lia
      have:(X.map (λr=>r.getD j Mq.z0)).getD i Mq.z0=iY X i j:=by
       unfold iY;rw[getD_eq_getElem?_getD,getElem?_map,Kr iX []];rfl
      rw[this,ok.vx i j (by rw[<- show W=m - 1+bZ ds from hW];lia) (by rw[<- show W=m - 1+bZ ds from hW];lia)]
     exists c,D,t2,ws,vs,row,X.map (λr=>r.getD j Mq.z0),(dd,1),9000,124*ds.length+1,rfl,SqL.of (s08 _ _ hc),fc.same s08,SqL.of (s8 _ _ e7),F7.same s8,e8,br,λq hq=>(cm q hq).2,bq,(),(),(),by rw[length_map];lia,yI Rpos (λq hq=>(cm q hq).1) (by rw[length_map];lia) lq cv,λH9 s9=>⟨_,rfl,dE ?_⟩;exists s6.trans (s68.trans s9),_,rfl
   .rintro σ H6 ⟨s6,z7,rfl⟩;exists s6,_,_,rfl
  .rintro σ H3 ⟨s3,z6,z7,rfl⟩;exact hX _ _ ⟨s3,z6,z7,rfl⟩
 rintro σ3 H3 ⟨s3,z6,z7,rfl⟩;exact q H3 (s02.trans s3)
theorem Y83:DZ 3 Z.f83 Z.d83 ["_law_ring_here","_law_shown","_law_closer","_law_rows_here","_law_forest"] (Sz Z.K) "_law_ring_due":=by
 exists ?_,F83.b5 _ _ _ _ _ (by intros;rfl),F83.kp,m83
 refine F83.ok9 Zd λ_ _ _ s H _ Q E hr h=>?_;obtain⟨x,tt,r,F83,k,xs,us,ds,ks,ring,rfl,hX,hT,ft,hS,hR,hK,eF,rg,l10,inb,q⟩:=h;have r1:=hr.mono (show 1<=2 by lia);refine⟨_,(aC (cD (PW.pt (gP (dU (cT (d9 Y76 hr rfl (aA (pv 0) (aA (pv 2) (aA (pv 3) (aA (pv 4) aD))))))) (gS (dU (cT (d9 Y68 hr rfl (aA (pv 1) aD))))))) (aF (aW fD)) bQ)
  (aC (rN (i:=5) (nl:=2) (fr:=[3]) (Nc:=["_law_number","_law_way","_law_rows_here"]) (cl:=[("_law_rows_here",s.heap.objs.size+1)]) (g:=(Fi Z.K 2 (kH (iM 0) (kH (iM 1) Eg)))) Zd.nd rfl rfl rfl ⟨rfl,rfl,∅,∅,λx c h=>h,dI rfl,rfl,λi n h=>match i,h with | 0,h=>by cases h;exact⟨3,rfl,rfl,rfl,rfl,.inl rfl⟩ | k+1,h=>by rw[show 2+(k+1)=k+3 by lia] at h;cases h⟩
    (cG (pv 0)) (λ_ _ _ _ _=>(fP rfl (bO (qQ0 (i:=0) iK) (bO (qQ0 (i:=1) iK) eJ)))) (λ_ _ _ _ _=>dC)
    (λ_ _ _ _ _=>(aK (kM (K:=Z.K) rfl) (aK (iU (K:=Z.K) rfl) (pv 2) (pv 0)) aE)) rfl)
  (aF (aW (d9 Y70 r1 rfl (aA (pv 5) (aA (dD (nl:=2) (fr:=[]) (Nc:=["_law_number","_law_way"]) (cl:=[]) (g:=(Fi Z.K 2 (kH (iM 0) (kH (iM 1) Eg)))) rfl ⟨rfl,rfl,∅,∅,λx c h=>(by cases h),dI rfl,rfl,λi n h=>(by simp at h)⟩
    (cG (pv 0)) (λ_ _ _ _ _=>(fP rfl (bO (qQ0 (i:=0) pT) (bO (qQ0 (i:=1) pT) eJ)))) (λ_ _ _ _ _=>dC)
    (λ_ _ _ _ _=>(dA (aA (pv 1) (aA aE aD))))) (aA (pv 1) aD)))))))),?_⟩
 obtain⟨sz1,wy1,eqn⟩:=Iz hK inb;have tp:=tE hK inb;have tl:=vJ tp;have lxs:=hT.length;have tb:=Mq.qa8 tp (k:=40) (λp hp=>by
  obtain⟨s,hs,rfl⟩:=mem_map.mp hp;exact(Bk hK (inb s hs)).2)
 rw[length_map] at tb;exists _,rfl,_,rfl,_,rfl,_,rfl,x,r,F83,k,xs,us,ds,ks,ring,rfl,hX,hT,hS,hR,eF,rg,λH1 s1=>⟨_,rfl,dE ?_⟩;exists _,rfl,tt,_,rfl,s1.fq ft,tl,⟨_,rfl,dE ?_⟩;exists _,rfl,x,rfl,⟨_,s1.seq hX⟩,λD hD=>?_;refine clS hD (xs:=xs) (λi zs H'=>Fqs Z.K H' zs ((szs ds ring).take i)) .nil (λ_ h=>(s1.trans h).seq hX) ?_ ?_
 .rintro i zs y H2 hx ⟨s2,e2,F2⟩ C hC;have s02:=s1.trans s2;obtain⟨t,st,rfl,es,ht⟩:=(hT.same s02).get hx;have hi:i < ring.length:=(wq.mp es).1;obtain⟨hlt,hw⟩:=inb st (mem_of_getElem? es);have hd:ds[st.1]?=some ds[st.1]:=getElem?_eq_getElem hlt;obtain⟨t1,z1,et1,hT1,fz1⟩:=(hR.same s02).at hd;have lz:=F2.length;rw[length_take] at lz;exists t,_,rfl,ht,rfl,_,_,rfl,_,_,rfl,rfl,kJ.1,kJ.2,eY ?_;exists _,rfl,_,rfl,r,us,_,_,rfl,rfl,s02.seq hS,cA et1,t1,_,3,_,rfl,rfl,hT1,rfl,?_;exists e2,bH (),hC _ _ ⟨s2.change hD,aB,?_⟩;have e:(szs ds ring)[i]?=some ds[st.1].2.2.2:=by
   unfold szs;rw[getElem?_map,es];show some (ds.getD st.1 (.pc,0,0,(0,1))).2.2.2=_;rw[getD_eq_getElem?_getD,hd];rfl
  rw[take_add_one,e];exact(F2.app (.cons fz1 .nil)).upd e2
 rintro zs H2 ⟨s2,e2,F2⟩;have lsz:(szs ds ring).length=ring.length:=by unfold szs;rw[length_map]
 have lwy:(wys ring).length=ring.length:=by unfold wys;rw[length_map]
 rw[show xs.length=(szs ds ring).length by lia,take_length] at F2;have s02:=s1.trans s2;exists _,rfl,_,rfl,x,rfl,⟨_,s02.seq hX⟩,λD2 hD2=>?_;refine clS hD2 (xs:=xs) (λi zs H'=>Fqs Z.K H' zs ((wys ring).take i)) .nil (λ_ h=>(s02.trans h).seq hX) ?_ ?_
 .rintro i ws y H3 hx ⟨s3,e3,F3⟩ C hC;obtain⟨t,st,rfl,es,ht⟩:=(hT.same (s02.trans s3)).get hx;have hi:i < ring.length:=(wq.mp es).1;have lz:=F3.length;rw[length_take] at lz;exists t,_,rfl,ht,rfl,_,_,rfl,_,_,rfl,rfl,kJ.1,kJ.2,eY ?_;exists _,rfl,zl9 2,λt2 ht2=>?_;obtain⟨H4,zq,s4,e4⟩:=nw ht2 (.tup [.int st.2,.int 1]);rw[zq];have e34:=s4 _ _ e3;exists e34,bH (),hC _ _ ⟨(s3.trans s4).change hD2,aB,?_⟩;have e:(wys ring)[i]?=some (st.2,1):=by unfold wys;rw[getElem?_map,es];rfl
  rw[take_add_one,e];exact((F3.same s4).app (.cons (Fq.of e4) .nil)).upd e34
 rintro ws H3 ⟨s3,e3,F3⟩;rw[show xs.length=(wys ring).length by lia,take_length] at F3;have s03:=s02.trans s3;exists _,rfl,D,D2,tt,zs,ws,szs ds ring,wys ring,_,30,1,rfl,SqL.of (s3 _ _ e2),F2.same s3,SqL.of e3,F3,s03.fq ft,λp hp=>(sz1 p hp).2,λp hp=>(wy1 p hp).2,tb.mono (),(),(),(),(),eqn,λH4 s4=>q H4 (s03.trans s4)
theorem X6:iG Z.K Z.c_Net "told" Z.f32:=⟨a32_0,i32,F32.kp⟩
theorem X7:iG Z.K Z.c_Net "change" Z.f34:=⟨a34_0,i34,F34.kp⟩
theorem X8:iG Z.K Z.c_Answer "heights" Z.f62:=⟨a62_0,i62,F62.kp⟩
theorem X9:iG Z.K Z.c_Answer "streams" Z.f63:=⟨a63_0,i63,F63.kp⟩
theorem X10:iG Z.K Z.c_Answer "paper" Z.f64:=⟨a64_0,i64,F64.kp⟩
theorem Y84:DZ 7 Z.f84 Z.d84 ["_law_net_here","_law_answer","_law_many","_law_rows_here","_law_change"] (Sf Z.c_Net Z.c_Answer Z.K) "_law_answered":=by
 exists ?_,F84.b5 _ _ _ _ _ (by intros;rfl),F84.kp,m84
 refine F84.ok9 Ol λcdv A outer s H vs Q E hr h=>?_;obtain⟨n,l,a,r,us,m,b,L,ds,ps,c,rfl,nt,an,ln,al',eb,lp,al,bl,bp,bf,sv,w10,hS,rl,hR,hK,m1',m4,h20,q⟩:=h;have hu:=hr.units;have r1:=hr.mono (show 1<=6 by lia);have r3:=hr.mono (show 3<=6 by lia);have r4:=hr.mono (show 4<=6 by lia);have r5:=hr.mono (show 5<=6 by lia);refine⟨_,(aC (cD (cT (pv 4)) (aC (cC (Bw (pv 0) NTx.cl X5 R33 r5 b33 .nil aQ (aA (d9 Y21 r3 rfl (aA (dA (aA cL (aA aE (aA (bC jC (pv 2) aE) (aA (dA (aA aE (aA aE aD))) aD))))) aD)) aD)))
  (aF (cC (Bw (pv 0) NTx.cl X7 R34 r5 b34 .nil aQ (aA aE (aA (dA (aA aE (aA aE aD))) aD)))))) (aF (cD (bK (wS hu) (fY (pv 0) NTx.cl X6 R32 r1 b32 .nil aQ) (pv 3) (bM _)) (aF (aW fD)) bQ)))
  (aC (qQ1 (i:=5) Ol.nd (fY (pv 1) ABx.cl X8 R62 r1 b62 .nil aQ))
  (aC (aT (i:=6) Ol.nd rfl (Or.inr rfl) (fY (pv 1) ABx.cl X9 R63 r1 b63 .nil aQ))
  (aC (cD (dU (cT (d9 Y81 r4 rfl (aA (pv 5) (aA (pv 6) (aA (pv 2) (aA (pv 3) aD))))))) (aF (aW fD)) bQ)
  (aC (qQ1 (i:=7) Ol.nd (bC sS (gE iT (pv 5) (fV aE) jG) (dD (nl:=1) (fr:=[6,3]) (Nc:=["_law_k","_law_streams","_law_rows_here"]) (cl:=[("_law_streams",s.heap.objs.size+2),("_law_rows_here",s.heap.objs.size+1)]) rfl ⟨rfl,rfl,∅,∅,(cO rfl (cO rfl (iP))),dI rfl,rfl,λi n h=>match i,h with | 0,h=>by cases h;exact⟨6,rfl,rfl,rfl,rfl,.inl rfl⟩ | 1,h=>by cases h;exact⟨3,rfl,rfl,rfl,rfl,.inl rfl⟩ | k+2,h=>by rw[show 1+(k+2)=k+3 by lia] at h;cases h⟩
    (fA rfl n_range (aA (cB bV rfl n_len PySem.boot_len (aA (pv 3) aD)) aD)) (λ_ _ _ _ _=>(qQ0 (i:=0) mI)) (λ_ _ _ _ _=>(rF (bK dY (aK (kM (K:=Z.K) rfl) (aK (iU (K:=Z.K) rfl) (pv 2) (pv 0)) aE) cL (bM _))))
    (λ_ _ _ _ _=>(aK (iU (K:=Z.K) rfl) (pv 1) (pv 0))))))
  (aC (qQ1 (i:=8) Ol.nd (fY (pv 1) ABx.cl X10 R64 hr b64 .nil aQ))
  (aC (cD (dU (cT (d9 Y82 r4 rfl (aA (pv 8) (aA (pv 7) (aA (pv 2) (aA (pv 3) aD))))))) (aF (aW fD)) bQ)
  (aC (eO PassesOwn.never rfl (cG (pv 8)) (qQ0 (i:=9) Ol.nd)
   (aF (cC (mH PySem.F.plainAttrs_list PySem.F.slot_list_append PySem.F.type_list_append eQ (pv 9) (aA (dA (aA aE (aA aE aD))) aD)))))
  (aC (cC (mH PySem.F.plainAttrs_list PySem.F.slot_list_append PySem.F.type_list_append eQ (pv 8) (aA (dZ aD) aD)))
  (aF (aW (d9 Y82 r4 rfl (aA (fY (pv 1) ABx.cl X10 R64 hr b64 .nil aQ) (aA (pv 7) (aA (pv 2) (aA (pv 3) aD)))))))))))))))),?_⟩
 obtain⟨ts,hl,_⟩:=nt.ls;have fl:=qo4 m1' (λd hd=>(hK d hd).1) lp al sv;have lus:=hR.length;refine rK (λσ' H'=>sI l Z.c_Answer Z.K H' a (lvS m ps) (oA m ds ps)/\LnX [l] Z.c_Answer Z.K H' a m ds/\SqL Z.K H' r us/\Rts Z.K H' us ds/\σ'=[some (.ref n),some (.ref a),some (.int (m:Int)),some (.ref r),some (.bl c),none,none,none,none,none]) (λX hX=>?_) ?_
 .exists _,rfl,c,rfl,yT (λhc=>?_) (λhc=>?_)
  .obtain⟨dn,hn⟩:=nt.ob;exists _,rfl,n,dn,_,rfl,hn,gQ _ _ ∅ ∅,_,rfl,_,_,rfl,rfl,zl9 2,λz hz=>?_;obtain⟨H1,zq,s1,e1⟩:=nw hz (.tup [.int 3,.int 7]);rw[zq];exists zl9 4,λt ht=>?_;obtain⟨H2,zq,s2,e2⟩:=nw ht (.tup [.str "piece",.int 0,.int ((m:Int) - 1),.ref z]);rw[zq];have e2:SqT Z.K H2 t [.str Kd.pc.wd,.int 0,.int ((m:Int) - 1),.ref z]:=SqT.of e2;exists t,_,_,_,_,rfl,e2,.pc,rfl,λy H3 s3 ny rw=>?_;have s03:=s1.trans (s2.trans s3);have l37:Low (3,7):=⟨∅,∅⟩
   exists n,l,y,z,m,ds,.pc,0,(m:Int) - 1,(3,7),rfl,nt.same s03,rw,(s2.trans s3).fq (Fq.of e1),⟨by show (0:Int)<=0;lia,by show (0:Int) < m;lia,by show (0:Int)<=(m:Int) - 1;lia,by show (m:Int) - 1 < m;lia,l37,λ_=>(show (0:Int) < 3 by decide),(show Bd 4 (3,7) from ⟨show (3:Nat) < 2 ^ 4 by decide,show (7:Nat) < 2 ^ 4 by decide⟩).mono ()⟩,(),λH4 x4 N4=>?_;have hl3:=s03 _ _ hl;obtain⟨dn4,hn4⟩:=N4.ob;exists _,rfl,n,dn4,_,rfl,hn4,gQ _ _ ∅ ∅,zl9 2,λz2 hz2=>?_;obtain⟨H5,zq,s5,e5⟩:=nw hz2 (.tup [.int 5,.int 11]);rw[zq];obtain⟨⟨k0,i0,j0,p0⟩,e0⟩:∃d,(ds++[(Kd.pc,(0:Int),(m:Int) - 1,((3,7):Q2))])[0]?=some d:=⟨_,getElem?_eq_getElem (by rw[xj];show 0 < _+1;lia)⟩
   obtain⟨ts4,hl4,_⟩:=N4.ls;have hl5:=s5 _ _ hl4;exists n,l,z2,m,0,_,k0,i0,j0,p0,(5,11),rfl,N4.same s5,(),e0,Fq.of e5,⟨∅,∅⟩,λ_=>(show (0:Int) < 5 by decide),(show Bd 4 (5,11) from ⟨show (5:Nat) < 2 ^ 4 by decide,show (11:Nat) < 2 ^ 4 by decide⟩).mono (),λH6 x6 N6=>?_;refine hX _ _ ⟨sI.x hl5 x6 ((sI.x hl3 x4 (an.same s03)).same s5),LnX.x hl5 x6 ⋯ ((LnX.x hl3 x4 ⋯ (ln.same s03)).same s5),cH.seqN x6 rl (s5.seq (cH.seqN x4 rl (s03.seq hS))),cH.rts hl5 x6 ((cH.rts hl3 x4 (hR.same s03)).same s5),rfl⟩
  .obtain⟨dn,hn⟩:=nt.ob;exists _,rfl,n,dn,_,rfl,hn,gQ _ _ ∅ ∅,n,l,_,ds,rfl,nt,λt ts1 H1 s1 na e1 R1=>?_;exists _,rfl,qg6 (neg:=true) (SqL.of e1) (s1.seq hS) R1 (hR.same s1) ⟨_,rfl,dE ?_⟩;exact hX _ _ ⟨an.same s1,ln.same s1,s1.seq hS,hR.same s1,rfl⟩
 rintro σ1 H1 ⟨an,ln,hS,hR,rfl⟩;obtain⟨dx,li,le,fo,_,_,ha,_⟩:=an.e;refine qm9 (λσ' H'=>aX H1 H'/\∃(h f:Addr) (xs ys:wk),σ'=[some (.ref n),some (.ref a),some (.int (m:Int)),some (.ref r),some (.bl c),some (.ref h),some (.ref f),none,none,none]/\H' h=some (.lst xs)/\Fqs Z.K H' xs (lvS m ps)/\H' f=some (.lst ys)/\Fqs Z.K H' ys (oA m ds ps)) (λX hX=>?_) ?_
 .exists _,rfl,a,dx,_,rfl,ha,rO _ _ _ ∅ ∅ ∅,a,_,_,rfl,an.at,λh xs H2 s2 nh eh Fh=>?_;exists _,rfl,a,dx,_,rfl,s2 _ _ ha,rO _ _ _ ∅ ∅ ∅,a,_,_,rfl,(an.same s2).at,λf ys H3 s3 nf ef Ff=>?_;have s13:=s2.trans s3;exists _,rfl,_,rfl,_,rfl,_,rfl,h,f,r,xs,ys,us,m,ds,_,_,rfl,SqL.of (s3 _ _ eh),Fh.same s3,SqL.of ef,Ff,s13.seq hS,hR.same s13,hK,fl,bl,bf,m1',m4,h20,λH4 s4=>⟨_,rfl,dE ?_⟩;exact hX _ _ ⟨s13.trans s4,h,f,xs,ys,rfl,(s3.trans s4) _ _ eh,Fh.same (s3.trans s4),s4 _ _ ef,Ff.same s4⟩
 rintro σ2 H2 ⟨s2,h,f,xs,ys,rfl,eh,Fh,ef,Ff⟩;have an:=an.same s2;have ln:=ln.same s2;have hS:=s2.seq hS;have hR:=hR.same s2;have ha:=s2 _ _ ha;have lf:(oA m ds ps).length=ds.length:=fl.lnf;have lys:=Ff.length;refine rK (λσ' H'=>aX H2 H'/\∃(u:Addr) (zs:wk),σ'=[some (.ref n),some (.ref a),some (.int (m:Int)),some (.ref r),some (.bl c),some (.ref h),some (.ref f),some (.ref u),none,none]/\H' u=some (.lst zs)/\Fqs Z.K H' zs ps) (λX hX=>?_) ?_
 .exists _,rfl,1,rfl,h,_,rfl,SqL.of eh,λC hC=>?_;rw[Aj];obtain⟨H3,zq,s3,e3⟩:=nw hC (.lst (xs.drop 1));rw[zq];exists _,rfl,r,_,rfl,.inl (s3.seq hS),(us.length:Int),rfl,(),(),λD hD=>?_;rw[Int.toNat_natCast];refine crS hD (n:=us.length) (λi vs H'=>Fqs Z.K H' vs (hdF ((ds.zip (oA m ds ps)).take i))/\vs.length<=i) ⟨.nil,Nat.le_refl _⟩ ?_ ?_
  .rintro i vs H4 hi ⟨s4,e4,F4,l4⟩ C' hC'
   try rw[Int.zero_add]
   have hi':i < ds.length:=by lia
   have s24:=s3.trans s4;have hd:ds[i]?=some ds[i]:=getElem?_eq_getElem hi';obtain⟨t,z,et,ht,fz⟩:=(hR.same s24).at hd;have eq:(oA m ds ps)[i]?=some (oA m ds ps)[i]:=getElem?_eq_getElem ();obtain⟨w,ew,fw⟩:=(Ff.same s24).at eq;have et':(ds.zip (oA m ds ps)).take (i+1)=(ds.zip (oA m ds ps)).take i++[(ds[i],(oA m ds ps)[i])]:=by
    rw[take_add_one,(getElem?_zip_eq_some (z:=(ds[i],(oA m ds ps)[i]))).mpr ⟨hd,eq⟩];rfl
   exists cZ.1,cZ.2,?_;exists _,rfl,_,rfl,r,us,_,_,rfl,rfl,s24.seq hS,cA et,t,_,0,_,rfl,rfl,ht,rfl,rfl,_,rfl,?_
   by_cases hk:ds[i].1=.ho
   .refine L2.ifT (zzT ds[i].1 .ho hk) ?_;exists _,rfl,_,rfl,f,ys,_,_,rfl,rfl,SqL.of (s24 _ _ ef),cA ew,?_;have e1:hdF [(ds[i],(oA m ds ps)[i])]=[(oA m ds ps)[i]]:=by unfold hdF;rw[if_pos hk];rfl
    exists e4,bH (),hC' _ _ ⟨s4.change hD,aB,by rw[et',Cw,e1];exact(F4.app (.cons fw .nil)).upd e4,by rw[xj,length_singleton];lia⟩
   .have e1:hdF [(ds[i],(oA m ds ps)[i])]=[]:=by unfold hdF;rw[if_neg hk];rfl
    exact L2.ifF (zzF ds[i].1 .ho hk) (hC' _ _ ⟨s4,e4,by rw[et',Cw,e1,append_nil];exact F4,()⟩)
  .rintro vs H4 ⟨s4,e4,F4,l4⟩;rw[show us.length=(ds.zip (oA m ds ps)).length by rw[length_zip];lia,take_length] at F4;rw[Mr _ _ ds 0 (by rw[length_drop,lp,Nat.zero_add];show bZ ds<=m - 1+bZ ds - (m - 1);lia),drop_zero,take_of_length_le (by rw[length_drop,lp];show m - 1+bZ ds - (m - 1)<=bZ ds;lia)] at F4;have lxs:=Fh.length;have llv:=fl.lnl;exists C,D,_,_,rfl,rfl,s4 _ _ e3,e4,Nat.le_trans (show _<=100 by rw[length_drop];lia) ∅,λu hu=>?_;obtain⟨H5,zq,s5,e5⟩:=nw hu (.lst (xs.drop 1++vs));rw[zq];have s25:=s3.trans (s4.trans s5);refine hX _ _ ⟨s25,u,_,rfl,e5,?_⟩;have:=(Fqs.drop1 (Fh.same s25)).app (F4.same s5);rw[show (lvS m ps).drop 1=ps.take (m - 1) from rfl,take_append_drop] at this;exact this
 rintro σ3 H3 ⟨s3,u,zs,rfl,eu,Fu⟩;have an:=an.same s3;have ln:=ln.same s3;have hS:=s3.seq hS;have hR:=hR.same s3;have ha:=s3 _ _ ha;have vU:∀j,j < wd m ds->Mq.val (ps.getD j Mq.z0)=uP ps (j+1):=λj _=>by unfold uP;rw[if_neg (),Nat.add_sub_cancel]
 exists _,rfl,a,dx,_,rfl,ha,rO _ _ _ ∅ ∅ ∅,a,m,b,L,ds,rfl,ln.less (λz hz=>by cases hz),eb,w10,λpa rs M H4 s4 np ep FP PV bP=>?_;have lrs:=FP.length;have lM:=PV.len;exists _,rfl,_,rfl,_,rfl,_,rfl,?_;exists pa,u,r,rs,zs,us,m,ds,M,ps,uP ps,rfl,SqL.of ep,Mv FP,PV,bP,SqL.of (s4 _ _ eu),Fu.same s4,lp,al,bp,sv,vU,w10,s4.seq hS,hR.same s4,hK,m1',m4,h20,λH5 s5=>⟨_,rfl,dE ?_⟩;have ep5:=s5 _ _ ep;have s35:=s4.trans s5;exists _,rfl,pa,rfl,⟨_,SqL.of ep5⟩,?_;refine eU (xs:=rs) (λi σ H'=>aX H3 H'/\H' pa=some (.lst rs)/\(∀x∈rs,∃(v:Addr) (ws:wk),x=.ref v/\v≠pa/\H3 v=none/\H' v=some (.lst ws)/\ws.length<=10+i)/\∃z9,σ=[some (.ref n),some (.ref a),some (.int (m:Int)),some (.ref r),some (.bl c),some (.ref h),some (.ref f),some (.ref u),some (.ref pa),z9]) ⟨s35,ep5,λx hx=>?_,none,rfl⟩ (λi σ H' _ h=>SqL.of h.2.1) ?_ ?_
 .obtain⟨i,hi⟩:=getElem?_of_mem hx;obtain⟨v,ws,p0,e1,e2,n0,ne,hv,fv⟩:=Fmd.get FP hi;have:=fv.length;have:=(PV.row _ (mem_of_getElem? e2)).1;exists v,ws,e1,ne,n0,s5 _ _ hv,()
 .rintro i x σ H6 hx ⟨s6,e6,A6,z9,rfl⟩;have hi:i < M.length:=by have:=(wq.mp hx).1;lia
  obtain⟨v,ws,rfl,ne,n0,hv,lw⟩:=A6 x (mem_of_getElem? hx);exists _,rfl,.inl ⟨rfl,_,SqL.of hv⟩,zl9 2,λt ht=>?_;have s7:=aG ht (.tup [.int 1,.int 1]);have hv7:=s7 _ _ hv;exists v,ws,.ref t,rfl,rfl,hv7,bH (),?_;exists (s6.trans s7).change n0,by rw[aV (Ne.symm ne)];exact s7 _ _ e6,λx hx=>?_,_,rfl;obtain⟨v',ws',e1,ne',n0',hv',lw'⟩:=A6 x hx
  by_cases c1:v'=v
  .exists v,_,by rw[e1,c1],ne,n0,aB,by rw[xj,length_singleton];lia
  .exists v',ws',e1,ne',n0',by rw[aV c1];exact s7 _ _ hv',()
 rintro σ H6 ⟨s6,e6,A6,z9,rfl⟩;exists _,rfl,.inl ⟨rfl,_,SqL.of e6⟩,zl9 0,λt ht=>?_;have s7:=aG ht (.lst []);have e7:=s7 _ _ e6;exists pa,rs,.ref t,rfl,rfl,e7,bH (),?_;have s38:=(s6.trans s7).change (o:=.lst (rs++[.ref t])) np;generalize upd (upd H6 t (.lst [])) pa (.lst (rs++[.ref t]))=H8 at s38 ⊢;exists _,rfl,a,dx,_,rfl,s38 _ _ ha,rO _ _ _ ∅ ∅ ∅,a,m,b,L,ds,rfl,(ln.same s38).less (λz hz=>by cases hz),eb,w10,λpb rs2 M2 H9 s9 np2 ep2 FP2 PV2 bP2=>?_;have s39:=s38.trans s9;exists _,rfl,_,rfl,_,rfl,?_;exists pb,u,r,rs2,zs,us,m,ds,M2,ps,uP ps,rfl,SqL.of ep2,Mv FP2,PV2,bP2,SqL.of (s39 _ _ eu),Fu.same s39,lp,al,bp,sv,vU,w10,s39.seq hS,hR.same s39,hK,m1',m4,h20,λHA sA=>q HA
theorem Rlaw:FZ CX0 10 Z.f85 (W.fnOf ("law") ("law") (fI Av) (eV Av) (aH Av) .none Z.kV85 Z.dc85 Z.pm85 Z.an85 Z.cd85 Z.ct85) ["_law_script"] (Fy Z.K):=by
 refine F85.ok9 iZ λ_ _ _ s H _ Q E hr h=>?_;obtain⟨a,ns,rfl,hS,h63,q⟩:=h;have hu:=hr.units;have r1:=hr.mono (show 1<=9 by lia);have r3:=hr.mono (show 3<=9 by lia);have r4:=hr.mono (show 4<=9 by lia);have r6:=hr.mono (show 6<=9 by lia);have r7:=hr.mono (show 7<=9 by lia);refine⟨_,(aC (qQ1 (i:=1) iZ.nd (bC gF aE (bC gG (d9 Y65 r1 rfl (aA (pv 0) (aA aE aD))) aE)))
  (aC (qQ1 (i:=2) iZ.nd (kT (fU dY (bC gG (d9 Y65 r1 rfl (aA (pv 0) (aA aE aD))) aE) aE (bM _)) (oX (fU yJ (pv 1) aE (bM _)))))
  (aC (qQ1 (i:=3) iZ.nd (d9 Y77 r4 rfl (aA (pv 0) (aA (pv 1) (aA (pv 2) aD)))))
  (aC (qQ1 (i:=4) iZ.nd (d9 Y72 r6 rfl (aA (pv 1) (aA (pv 3) aD))))
  (aC (qQ1 (i:=5) iZ.nd xS)
  (aC (qQ1 (i:=6) iZ.nd xS)
  (aC (qQ1 (i:=7) iZ.nd xS)
  (aC (qQ1 (i:=8) iZ.nd xS)
  (aC (qj4 ⟨rfl,rfl,rfl⟩ (Sh (Yb (i:=5) iZ.nd rfl (Or.inl rfl) (Vq MA R58 ⟨rfl,rfl,rfl⟩ hr rfl ABx.mA b58 .nil (aA (pv 4) aD)))) bQ
   (Zw (j:=9) ⟨rfl,rfl,rfl⟩ iZ.nd rfl rfl rfl (.inl cE.mG) (λa=>aC (qQ1 (i:=6) iZ.nd (xQ (K:=Z.K) rfl (pv 9) rfl)) (aF (qQ1 (i:=7) iZ.nd (xQ (K:=Z.K) rfl (pv 9) rfl)))) (Zw (j:=9) ⟨rfl,rfl,rfl⟩ iZ.nd rfl rfl rfl (.inl cE.mF) (λa=>aF (qQ1 (i:=8) iZ.nd (xQ (K:=Z.K) rfl (pv 9) rfl))) Ts)))
  (aC (jD (d9 Y75 r1 rfl (aA (pv 3) (aA (dZ (aA cL aD)) aD))) (fP rfl (bO (qQ0 (i:=10) iZ.nd) (bO (qQ0 (i:=11) iZ.nd) eJ))))
  (aC (cD (bK uL (cB bV rfl n_len PySem.boot_len (aA (pv 11) aD)) aE (bM _)) (aF (aW (kT (qd3 (wR (pv 5))) (oX (d9 Y83 r3 rfl (aA (pv 6) (aA (pv 7) (aA (aK bX (pv 11) aE) (aA (pv 3) (aA (pv 10) aD)))))))))) bQ)
  (aC (qQ1 (i:=12) iZ.nd (d9 Y79 r1 rfl (aA (pv 1) (aA (pv 3) aD))))
  (aC (cD (bK uL (cB bV rfl n_len PySem.boot_len (aA (pv 12) aD)) aE (bM _)) (aC (cD (PW.pt (gP (oN (Wu (pv 5))) (gP (dU (cT (gL (i:=8) rfl (Or.inl rfl) bl.isi n_list rfl rfl PyProof.Rows.boot_list))) (gS (bK (wS hu) (pv 8) (pv 12) (bM _)))))) (aF (aW fD)) bQ)
  (aF (aW (cB (rQ rfl) rfl n_all PyProof.Rows.boot_all (aA (dD (nl:=1) (fr:=[]) (Nc:=["_law_one"]) (cl:=[]) rfl ⟨rfl,rfl,∅,∅,λx cE h=>(by cases h),dI rfl,rfl,λi n h=>(by simp at h)⟩
    (cG (pv 8)) (λ_ _ _ _ _=>(qQ0 (i:=0) Ht)) (λ_ _ _ _ _=>dC)
    (λ_ _ _ _ _=>(d9 Y71 r1 rfl (aA (pv 0) aD)))) aD))))) bQ)
  (aC (cD (oN (wR (pv 5))) (aF (aW fD)) bQ)
  (aF (aW (d9 Y84 r7 rfl (aA (pv 4) (aA (pv 5) (aA (pv 1) (aA (pv 3) (aA (fU dY (bC gG (bC Bu (d9 Y65 r1 rfl (aA (pv 0) (aA aE aD))) aE) aE) aE (bM _)) aD)))))))))))))))))))))),?_⟩
 refine Yh (λσ' H'=>aX H H'/\∃(M:Nat) (fr:Bool),σ'=[some (.ref a),some (.int (M:Int)),some (.bl fr),none,none,none,none,none,none,none,none,none,none]/\1<=M/\M<=4/\(fr=true->M<=2)) (λX hX=>?_) ?_
 .exists _,rfl,a,ns,0,0,rfl,rfl,hS,h63,(),λv H1 s1=>⟨_,_,rfl,rfl,(show (0:Int) < 4 by decide),_,_,rfl,rfl,?_⟩;have f0:=Int.emod_nonneg v (show (4:Int)≠0 by decide);have f9:=Int.emod_lt_of_pos v (show (0:Int) < 4 by decide);obtain⟨M,hM⟩:∃M:Nat,1+v % 4=(M:Int):=⟨(1+v % 4).toNat,()⟩
  show iD _ _ _ [some (.ref a),some (.int (1+v % 4)),none,none,none,none,none,none,none,none,none,none,none] H1;rw[hM];have M1:1<=M:=by lia
  have M4:M<=4:=by lia
  exists _,rfl,a,ns,2,2,rfl,rfl,s1.seq hS,h63,(),λv2 H2 s2=>⟨_,_,rfl,rfl,(show (0:Int) < 3 by decide),rfl,_,rfl,yT (λ_=>?_) (λ_=>?_)⟩
  .exists _,rfl,_,_,rfl,rfl,hX _ _ ⟨s1.trans s2,M,_,rfl,M1,M4,λh=>by have:=of_decide_eq_true h;lia⟩
  .exact hX _ _ ⟨s1.trans s2,M,_,rfl,M1,M4,λh=>by cases h⟩
 rintro σ1 H1 ⟨s1,M,fr,rfl,M1,M4,far⟩;refine Yh (λσ' H'=>aX H H'/\∃(r n l:Addr) (us:wk) (ds:List RD),σ'=[some (.ref a),some (.int (M:Int)),some (.bl fr),some (.ref r),some (.ref n),none,none,none,none,none,none,none,none]/\SqL Z.K H' r us/\Rts Z.K H' us ds/\(∀d∈ds,DrB fr M d)/\ds.length<=M - 1+10/\fK Z.c_Net Z.K H' n l (M:Int) ds/\r≠l) (λX hX=>?_) ?_
 .exists _,rfl,_,rfl,_,rfl,a,ns,M,fr,rfl,s1.seq hS,h63,M1,M4,λr us ds H2 s2 nr er R D len=>?_;exists _,rfl,_,rfl,(M:Int),r,us,ds,rfl,(),(),SqL.of er,R,λd hd=>(D d hd).ok,(),λn l H3 s3 nl nt=>?_;exact hX _ _ ⟨s1.trans (s2.trans s3),r,n,l,us,ds,rfl,SqL.of (s3 _ _ er),R.same s3,D,len,nt,bL er nl⟩
 rintro σ2 H2 ⟨s2,r,n,l,us,ds,rfl,hU,hR,D,len,nt,rl⟩;have pt:∀d∈ds,dL (M:Int) d.2.1 d.2.2.1:=λd hd=>(D d hd).pt;have b30:eP fr<=30:=by cases fr<;>decide
 have hz:∀d∈ds,Low d.2.2.2/\Bd 30 d.2.2.2:=λd hd=>⟨(D d hd).ok.2.2.2.2.1,(D d hd).bd.mono b30⟩
 have hK:∀d∈ds,qM (M:Int) d/\Bd 30 d.2.2.2:=λd hd=>⟨(D d hd).ok,(hz d hd).2⟩
 obtain⟨ts,hl,_⟩:=nt.ls;have sH:=s2.seq hS;refine qu3 (λσ' H'=>aX H2 H'/\∃(an rg sh flo:V),σ'=[some (.ref a),some (.int (M:Int)),some (.bl fr),some (.ref r),some (.ref n),some an,some rg,some sh,some flo,none,none,none,none]/\
  (∀c1 rr,rgH ds=c1 :: rr->an=.non/\∃(g t:Addr) (us':wk),rg=.ref g/\sh=.ref t/\SqL Z.K H' g us'/\Sts Z.K H' us' c1.2/\Fq Z.K H' t (tot (c1.2.map (iR ds))))/\
  (rgH ds=[]->jJ M ds≠[]->an=.non/\∃p:Addr,flo=.ref p/\SqL Z.K H' p ((jJ M ds).map V.int))/\
  (rgH ds=[]->jJ M ds=[]->∃(x:Addr) (bl:Nat) (L:Int) (ps:List Q2),an=.ref x/\EqB M bl L ds/\sI l Z.c_Answer Z.K H' x (lvS M ps) (oA M ds ps)/\LnX [l] Z.c_Answer Z.K H' x M ds/\x≠l/\ps.length=wd M ds/\gK ps/\Ovr (bw bl (wd M ds)) ps/\bw bl (wd M ds)<=3900/\Sv M ds (eqR M ds) (uP ps))) (λX hX=>?_) ?_
 .exists _,rfl,λx dx0 h1 h2 ne=>?_;have s3:aX H2 (upd (upd H2 dx0 (.own x)) x (.ins Z.c_Answer dx0 [])):=λbl o e=>by rw[aV (bL e h1),aV (bL e h2)];exact e
  have ex:upd (upd H2 dx0 (.own x)) x (.ins Z.c_Answer dx0 []) x=some (.ins Z.c_Answer dx0 []):=aB;generalize upd (upd H2 dx0 (.own x)) x (.ins Z.c_Answer dx0 [])=H3 at s3 ex ⊢;have nt3:=nt.same s3;have hl3:=s3 _ _ hl;have lx:l≠x:=λz=>by rw[z,ex] at hl3;cases hl3
  exists x,dx0,n,l,M,ds,rfl,ex,nt3,pt,M1,(),(),hz,⟨λc1 rr e1 dx g t us' H4 s4 ed ng eg hs ft=>?_,λe1 ne1 dx p H4 s4 ed np ep=>?_⟩,λe1 e2=>?_
  .intro a1 ha;exists true,cE.eG,?_;rw[if_pos rfl];obtain⟨H5,zq,sa,ea⟩:=nw ha (sV a1 (.ref Z.c_Ring) (some dx));rw[zq];have ed:=sa _ _ ed;exists _,rfl,a1,Z.c_Ring,dx,[("ring",.ref g),("total",.ref t)],.ref g,rfl,ea,ed,cE.xG,cE.dG,cE.nR,rfl,?_;exists _,rfl,a1,Z.c_Ring,dx,[("ring",.ref g),("total",.ref t)],.ref t,rfl,ea,ed,cE.xG,cE.dG,cE.nT,rfl,?_;refine hX _ _ ⟨s3.trans (s4.trans sa),_,_,_,_,rfl,λc2 r2 e2=>?_,λe2=>absurd (e1.symm.trans e2) ⋯,λe2=>absurd (e1.symm.trans e2) ⋯⟩;have e3:=e1.symm.trans e2;injection e3 with e3 _
   rw[<- e3];exists rfl,g,t,us',rfl,rfl,SqL.of (sa _ _ eg),hs.same sa,sa.fq ft
  .intro a1 ha;exists false,cE.eFG,?_;rw[if_neg ∅];exists true,cE.eF,?_;rw[if_pos rfl];obtain⟨H5,zq,sa,ea⟩:=nw ha (sV a1 (.ref Z.c_Floats) (some dx));rw[zq];have ed:=sa _ _ ed;exists _,rfl,a1,Z.c_Floats,dx,[("points",.ref p)],.ref p,rfl,ea,ed,cE.xF,cE.dF,cE.nF,rfl,?_;exact hX _ _ ⟨s3.trans (s4.trans sa),_,_,_,_,rfl,λc2 r2 e2=>absurd (e1.symm.trans e2) ⋯,λ_ _=>⟨rfl,p,rfl,SqL.of (sa _ _ ep)⟩,λ_ e2=>absurd e2 ne1⟩
  .obtain⟨bb,kb,L,NB,bw39,er⟩:=qh9 M1 M4 far len D nt3 e1 e2;exists bb,kb,L,NB,bw39,er,λps H4 sx AN lp al ov sv LX=>⟨rfl,?_⟩;have s4:aX H2 H4:=λbl o e=>sx _ _ (s3 _ _ e) (bL e h1);obtain⟨dx,li,le,fo,xs,ys,q1,q2,f1,q3,f2,nn⟩:=AN.e;obtain⟨n1,n2⟩:=nn l _ hl3 lx;refine hX _ _ ⟨s4,_,_,_,_,rfl,λc2 r2 e3=>absurd (e1.symm.trans e3) ⋯,λ_ ne2=>absurd e2 ne2,λ_ _=>⟨x,bb,L,ps,rfl,NB.eb,⟨dx,li,le,fo,xs,ys,q1,SqL.of q2,f1,SqL.of q3,f2,n1,n2⟩,LX [l] λy hy=>?_,Ne.symm lx,lp,al,ov,bw39,sv⟩⟩;rw[mem_singleton.mp hy];exists lx,_,hl3
 rintro σ3 H3 ⟨s3,an,rg,sh,flo,rfl,A1,A2,A3⟩;have hU3:=s3.seq hU;have hR3:=hR.same s3;exists _,rfl,zl9 1,λwl hwl=>?_;obtain⟨H4,zq,s4,e4⟩:=nw hwl (.lst [.str "hold"]);rw[zq];exists r,wl,us,_,ds,M,wHo,rfl,s4.seq hU3,hR3.same s4,pt,(),(),SqL.of e4,rfl,λk=>rfl,λt F85 C H5 s5 ht eF eC=>?_;exists t,_,rfl,ht,rfl,_,_,rfl,_,_,rfl,rfl,?_;have eC:H5 C=some (.lst ((rgH ds).map λcE=>V.int (cE.1:Int))):=eC;have s35:=s4.trans s5;have s05:=sH;have ri:=lT (W:=wHo) (Lm pt) ds.length (by rw[tN];exact Nat.le_refl _);exists _,rfl,C,_,rfl,.inl (SqL.of eC),_,_,rfl,rfl,_,rfl,?_
 cases hRg:rgH ds with
 |cons c1 rr=>
  obtain⟨rfl,g,tt,us',rfl,rfl,hg,hs,ft⟩:=A1 c1 rr hRg;rw[hRg] at eC;refine L2.ifT (by show decide (((((c1 :: rr).map λcE=>V.int (cE.1:Int)).length:Nat):Int) > 0)=true;rw[length_map,length_cons];exact decide_eq_true ()) ?_;have mc:c1∈rgH ds:=by rw[hRg];exact mem_cons_self ..
  obtain⟨rgo,_⟩:=qo7 () pt ri c1 mc;obtain⟨cc1,k',u',v',st,pts,_,ec,hst,ch,stl⟩:=ri.r c1 mc;have inb:∀t∈c1.2,t.1 < ds.length/\(t.2=1\/t.2=-1):=λt ht=>by
   rw[ec] at ht;rcases mem_cons.mp ht with z | z
   .subst z;exists cc1,.inl rfl
   .obtain⟨i,hi,e⟩:=getElem_of_mem z;obtain⟨_,_,_,_,u2,v2,hm,w⟩:=ch.g i t (by rw[<- e];exact getElem?_eq_getElem hi);exists ri.lt _ hm,?_;rcases w with ⟨a,_⟩ | ⟨a,_⟩
    .exact .inl a
    .exact .inr a
  have l10:c1.2.length<=10:=by rw[ec,length_cons];lia
  exists _,rfl,_,rfl,L2.ifT (decide_eq_true rfl) ?_;exists _,rfl,_,rfl,_,rfl,C,_,0,_,rfl,rfl,SqL.of eC,cA (j:=0) (v:=.int (c1.1:Int)) rfl,_,rfl,_,rfl,?_;exists g,tt,r,F85,c1.1,us',us,ds,_,c1.2,rfl,s35.seq hg,hs.same s35,s35.fq ft,s35.seq hU3,hR3.same s35,hz,eF,rgo,l10,inb,λH6 _=>q H6
 |nil=>
  rw[hRg] at eC;refine L2.ifF rfl ?_;exists _,rfl,_,rfl,r,us,M,ds,rfl,s35.seq hU3,hR3.same s35,pt,M1,(),λd H6 s6 nd ed=>?_;exists _,rfl,d,_,rfl,.inl (SqL.of ed),_,_,rfl,rfl,_,rfl,?_;have s36:=s35.trans s6
  by_cases hF:jJ M ds=[]
  .obtain⟨x,bb,L,ps,rfl,eb,AA,LX,xl,lp,al,ov,bw39,sv⟩:=A3 hRg hF;refine L2.ifF (by rw[hF];rfl) ?_;have lw:M - 1<=ps.length:=by rw[lp];exact Nat.le_add_right ..
   have w10:wd M ds<=10:=by
    have:=Mi M1 pt eb.o.fr;show M - 1+bZ ds<=10;lia
   exists _,rfl,_,rfl,L2.ifF (decide_eq_false ⋯) ?_;exists _,rfl,_,rfl,_,rfl,_,rfl,_,rfl,a,ns,2,2,rfl,rfl,(s3.trans s36).seq sH,h63,(),λv H7 s7=>⟨_,_,rfl,rfl,⟨∅,∅⟩,_,_,rfl,rfl,(show (0:Int) < 2 by decide),rfl,?_⟩;have s37:=s36.trans s7;exists n,l,x,r,us,M,bb,L,ds,ps,_,rfl,nt.same (s3.trans s37),AA.same s37,LX.same s37,xl,eb,lp,al,λp hp=>(Cd (Ua ov) (qZ al) bw39 p hp).2,λp hp=>(Cd ov al bw39 p hp).2.mono (),qi6 ov al bw39 hK lw,sv,w10,s37.seq hU3,rl,hR3.same s37,hK,M1,M4,(),q
  .obtain⟨rfl,p,rfl,hp⟩:=A2 hRg hF;have l0:0 < (jJ M ds).length:=length_pos_iff.mpr hF;refine L2.ifT (by show decide (((((jJ M ds).map V.int).length:Nat):Int) > 0)=true;rw[length_map];exact decide_eq_true ()) ?_;exists _,rfl,_,rfl,L2.ifF ⋯ ?_;exists _,_,true,rfl,.lst (s36.seq hp),rfl,_,rfl,dE ?_;exists _,rfl,_,rfl,qf8 (neg:=true) (s36.seq hp) (SqL.of ed) ⟨_,rfl,dE ?_⟩;have hS6:=s36.seq hp;have l20:(jJ M ds).length<=20:=by
    unfold jJ;rw[length_map];refine Nat.le_trans (length_filter_le _ _) ?_;rw[length_range];lia
   generalize jJ M ds=pts at hS6 ed l20;exists _,rfl,p,rfl,⟨_,hS6⟩,λD hD=>?_;refine clS hD (xs:=pts.map V.int) (λi zs H'=>zs=(replicate i true).map V.bl/\i<=pts.length) ⟨rfl,Nat.zero_le _⟩ (λ_ h=>h.seq hS6) ?_ ?_
   .rintro i zs x H7 hx ⟨s7,e7,rfl,_⟩ C' hC';rw[getElem?_map] at hx;obtain⟨w,hw,rfl⟩:=Option.map_eq_some_iff.mp hx;have hi:i < pts.length:=(wq.mp hw).1;exists cZ.1,cZ.2,eY ?_;exists _,rfl,w,rfl,?_;exists e7,bH (by rw[length_map,length_replicate];have:=l20;lia),hC' _ _ ⟨s7.change hD,aB,?_,hi⟩;rw[replicate_succ',map_append];rfl
   .rintro zs H7 ⟨s7,e7,rfl,_⟩;exists D,_,rfl,SqL.of e7,?_;rw[show (replicate (pts.map V.int).length true).all id=true by simp];exact q H7
end
theorem qg7 (c:CZ){fa:Addr}(hfa:c.mg "law"=some (.ref fa))(h:GZ c):
  ∃fd:FuncData,(∀(s:Shared) (v:Value),BindsTo s fd ⟨[v],[]⟩ [("_law_script",v)])/\∀base:Heap,c.K.In base->base.Ns mainGlobals c.mg->aL c.P c.w c.K c.mg base CX0 10 fa fd ["_law_script"] (Fy c.K):=by
 have e:=hfa.symm.trans h.m85
 cases e
 exists W.fnOf "law" "law" (fI Av) (eV Av) (aH Av) .none c.kV85 c.dc85 c.pm85 c.an85 c.cd85 c.ct85,λs v=>.of_eq rfl,λbase _ _=>?_
 refine Classical.byContradiction λn=>?_
 have e:=Classical.epsilon_spec (p:=λx:CZ×Heap=>GZ x.1/\¬OZ x.1 x.2) ⟨(c,base),h,n⟩
 have i:GZ Z:=by unfold Z;exact e.1
 have j:=@Rlaw i
 unfold FZ Z ZB at j;exact e.2 j
theorem qt5 {l:W.OpenLaw}{XP:(Str->Option Value)->Heap->Prop}{K:Params->Frag}(hn:l.most=some 63)(hdf:d.params.defaults=[])(hY:∀(w:World) (h:Heap),YP w h->(K w.params).In h)(F:∀(w:World) (mg:Str->Option Value) (fa:Addr) (h:Heap),(K w.params).In h->h.Ns mainGlobals mg->mg d.name=some (.ref fa)->
   ∃fd:FuncData,(∀(s:Shared) (u:Value),BindsTo s fd ⟨[u],[]⟩ [("_law_script",u)])/\∀base:Heap,(K w.params).In base->base.Ns mainGlobals mg->aL l.prog w (K w.params) mg base CX0 10 fa fd ["_law_script"] (Fy (K w.params))):
  W.WalkO q loose XP YP l.row.toRowW d [] (λf vs=>PySem.call f vs):=
 L2.Wn (n:=63) (k:=10) (x:="_law_script") (CX:=λ_=>CX0) (sp:=λw=>Fy (K w.params)) hn ∅ hdf ⟨rfl,∅,∅⟩ hY F (λ_ _ a ns hl _ hS=>⟨a,ns,rfl,hS,hl,λ_=>rfl⟩) λ_ _ _ _ _ z=>z
end K35
local macro_rules | `(tactic| walk_at "F9")=>`(tactic| (refine' L2.vH ?l9 ?c9 ?kk9;(case l9=>k_is);(case c9=>k_is);(case kk9=>show _=_;k_is)))
namespace PySem.W.Fast
noncomputable section
def Q:=Nat
local macro_rules|`(command|universe $_)=>return Lean.mkNullNode (← ((((List.range 926).map λi=>s!"o_{i}")++"env_41 heap_39 heap_46 heap_926 sts_101 sts_116 sts_131 sts_146 sts_161 sts_183 sts_205 sts_258 sts_342 sts_384 sts_427 sts_470 sts_49 sts_527 sts_536 sts_606 sts_683 sts_71 sts_737 sts_795 sts_86 sts_882 tree_100 tree_115 tree_130 tree_145 tree_160 tree_182 tree_204 tree_257 tree_341 tree_383 tree_426 tree_469 tree_47 tree_526 tree_535 tree_605 tree_682 tree_70 tree_736 tree_794 tree_85 tree_881 tree_925 view_39".splitOn).map (Lean.Name.str `PySem.Challenge.cw_ohmyard_k35_whole_only_ones_or_refused_holds)++[`PySem.Challenge.pw_ohmyard_k35_whole_only_ones_or_refused]).toArray.mapM λn=>`(command|def $(Lean.mkIdent (.mkSimple s!"tw{n.hash}")):ident:=Q))
universe u
end
end PySem.W.Fast
open PySem PySem.W PyProof.Rows
set_option maxRecDepth 100000 in
set_option maxHeartbeats 0 in
theorem PySem.Challenge.cw_ohmyard_k35_whole_only_ones_or_refused_holds : PySem.Challenge.rw_ohmyard_k35_whole_only_ones_or_refused.Holds := by
  w_on; o_law; k_head; (case hw => w_witness2)
  k_fill
  refine K35.qt5 (l := PySem.Challenge.rw_ohmyard_k35_whole_only_ones_or_refused) rfl rfl (fun w h Y => PySem.W.kIn_of Y) ?F
  case F =>
    intro w mg fa h KX G hmg
    refine' K35.qg7 {P:=PySem.Challenge.rw_ohmyard_k35_whole_only_ones_or_refused.prog,w:=w,mg:=mg,K:=PySem.Challenge.cw_ohmyard_k35_whole_only_ones_or_refused_holds.heap_39 w.params,..} hmg (.mk ?_ ?_ ?_ ?_ ?_ ?_ ?_ ?_ ?_ ?_ ?_ ?_ ?_ ?_ ?_ ?_ ?_ ?_ ?_ ?_ ?_ ?_ ?_ ?_ ?_ ?_ ?_ ?_ ?_ ?_ ?_ ?_ ?_ ?_ ?_ ?_ ?_ ?_ ?_ ?_ ?_ ?_ ?_ ?_ ?_ ?_ ?_ ?_ ?_ ?_ ?_ ?_ ?_ ?_ ?_ ?_ ?_ ?_ ?_ ?_ ?_ ?_ ?_ ?_ ?_ ?_ ?_ ?_ ?_ ?_ ?_ ?_ ?_ ?_ ?_ ?_ ?_ ?_ ?_ ?_ ?_ ?_ ?_ ?_ ?_ ?_ ?_ ?_ ?_ ?_ ?_ ?_ ?_ ?_ ?_ ?_ ?_ ?_ ?_ ?_ ?_ ?_ ?_ ?_ ?_ ?_ ?_ ?_ ?_ ?_ ?_ ?_ ?_ ?_ ?_ ?_ ?_ ?_ ?_ ?_ ?_ ?_ ?_ ?_ ?_ ?_ ?_ ?_ ?_ ?_ ?_ ?_ ?_ ?_ ?_ ?_ ?_ ?_ ?_ ?_ ?_ ?_ ?_ ?_ ?_ ?_ ?_ ?_ ?_ ?_ ?_ ?_ ?_ ?_ ?_ ?_ ?_ ?_ ?_ ?_ ?_ ?_ ?_ ?_ ?_ ?_ ?_ ?_ ?_ ?_ ?_ ?_ ?_ ?_ ?_ ?_ ?_ ?_ ?_ ?_ ?_ ?_ ?_ ?_ ?_ ?_ ?_ ?_ ?_ ?_ ?_ ?_ ?_ ?_ ?_ ?_ ?_ ?_ ?_ ?_ ?_ ?_ ?_ ?_ ?_ ?_ ?_ ?_ ?_ ?_ ?_ ?_ ?_ ⟨(mg_none_of KX G ?_),(mg_none_of KX G ?_),(mg_none_of KX G ?_),(mg_none_of KX G ?_)⟩ ⟨L2.kF ⟨?_,?_,?_,?_⟩ ⟨?_,?_,?_,?_⟩ ⟨?_,?_,?_,?_⟩,L2.kF ?_ ?_ ?_,L2.kF ?_ ?_ ?_,L2.kF ?_ ?_ ?_,L2.kF ?_ ?_ ?_,?_,?_,L2.kF ?_ ?_ ?_,L2.kF ?_ ?_ ?_,L2.kF (L2.kF (L2.xW _ _) ?_ ?_) (L2.kF ?_ (L2.xW _ _) ?_) (L2.kF ?_ ?_ (L2.xW _ _)),(mg_of KX G ?_),L2.kF (mg_of KX G ?_) (mg_of KX G ?_) (mg_of KX G ?_)⟩ (L2.Fq.mod ?_) (L2.Fq.mod ?_) ⟨⟨?_,?_,?_,?_⟩,?_,?_,?_,?_,?_,?_,(mg_of KX G ?_)⟩ ⟨⟨?_,?_,?_,?_⟩,?_,?_,?_,(mg_of KX G ?_)⟩ ⟨(mg_of KX G ?_),(mg_of KX G ?_),⟨?_,?_,?_,?_,?_,?_,?_,?_⟩,⟨?_,?_,?_,?_,?_,?_,?_,?_⟩,?_,?_,?_,?_,?_,?_,?_,?_⟩ ⟨⟨_,_,_,_,_,_,_,_,_,_,_,_,_,_,?_⟩,⟨_,_,_,_,_,_,_,_,_,_,_,_,_,_,_,?_⟩,?_,?_,?_⟩ ⟨⟨_,_,_,_,_,_,_,_,_,_,_,_,_,_,?_⟩,⟨_,_,_,_,_,_,_,_,_,_,_,_,_,_,_,?_⟩,?_,?_,?_⟩ ⟨?_,?_,?_⟩ ⟨?_,?_⟩ ⟨?_,?_⟩ ⟨?_,?_⟩ (L2.kF (⟨?_,?_,?_,?_⟩) (⟨?_,?_,?_,?_⟩) (⟨?_,?_,?_,?_⟩)) ⟨?_,?_,?_,?_⟩ ⟨?_,?_,?_,?_⟩)
    any_goals first|(refine mg_of KX G ?_;k_is)|(refine mg_none_of KX G ?_;k_is)
    all_goals try dsimp only
    any_goals first|k_is|walk_at "F9"|kit_is|kts_exm|k_exc|(unfold L2.qn2;k_exc)|(show _=_;k_is)|rfl|decide
    any_goals first|k_is|walk_at "F9"|kit_is|kts_exm|k_exc|(unfold L2.qn2;k_exc)|(show _=_;k_is)|rfl|decide
